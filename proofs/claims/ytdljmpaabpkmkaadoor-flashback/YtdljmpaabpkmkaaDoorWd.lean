/-
  What the leaves of layer 8 answer, call by call: a number's code, by the program and by the document; a code's number; how far a number is gone with a byte; a number's bytes in an array of ten. Conditions: the numbers are ints, codes and bytes, as each theorem says.
-/
import Derived.Test.YtdljmpaabpkmkaaDoorBy
import Derived.Test.YtdljmpaabpkmkaaDoorWi
import Derived.OwnWalk
import Derived.Laws.BitsAllLaws
import Derived.WalkLawsBesides
namespace Go.Proofs.YtdljmpaabpkmkaaDoor.Wire
open Go.ChangeShapes Go.WideShapes Go.ChangeAt Go.RowKit
open Go.Proofs.YtdljmpaabpkmkaaDoor.Divs Go.Proofs.YtdljmpaabpkmkaaDoor.Grow Go.Proofs.YtdljmpaabpkmkaaDoor.By Go.Proofs.YtdljmpaabpkmkaaDoor.Wi

theorem retu {a b : Int} (h : a = b) : Ending.returned (.int .u64 a) = .returned (.int .u64 b) := by rw [h]

theorem rcode_any (n : Int) (w : World) (h : In n) : Calls Tryd.prog 52 #[.int .i64 n] w fun e w' => e = .returned (.int .u64 (cd n)) ∧ w = w' := by
  obtain ⟨h0, h1⟩ := h
  by_cases hn : 0 ≤ n
  · have t : decide (0 ≤ n) = true := by simpa using hn
    have H : Hid (n * 2 = cd n) := by
      have : n * 2 = cd n := by unfold cd; rw [if_pos hn]; omega
      exact this
    go_enter Tryd.func52, Tryd.ntmps52
    go_wp2
    go_ret
    exact ⟨retu H.out, rfl⟩
  · have t : decide (0 ≤ n) = false := by simpa using hn
    have H : Hid ((-1 - n) * 2 + 1 = cd n) := by
      have : (-1 - n) * 2 + 1 = cd n := by unfold cd; rw [if_neg hn]; omega
      exact this
    go_enter Tryd.func52, Tryd.ntmps52
    go_wp2
    go_ret
    exact ⟨retu H.out, rfl⟩

theorem xor_all (x : Nat) (h : x < 18446744073709551616) : 18446744073709551615 ^^^ x = 18446744073709551615 - x := by
  have := BitVec.allOnes_xor (x := BitVec.ofNat 64 x)
  have e := congrArg BitVec.toNat this
  simp only [BitVec.toNat_xor, BitVec.toNat_not, BitVec.toNat_allOnes, BitVec.toNat_ofNat] at e
  rw [Nat.mod_eq_of_lt (by omega)] at e
  simpa using e

theorem not_code (n : Int) (h0 : -9223372036854775808 ≤ n) (h1 : n < 0) : bits .xor .u64 IntKind.u64.max (IntKind.u64.wrap (IntKind.u64.wrap n * 2)) = -2 * n - 1 := by
  have e : IntKind.u64.wrap (IntKind.u64.wrap n * 2) = ((2 * n + 18446744073709551616).toNat : Int) := by
    rw [IntKind.wrap_u64, IntKind.wrap_u64]
    omega
  have m : IntKind.u64.max = ((18446744073709551615 : Nat) : Int) := by decide
  rw [e, m, Go.u64_xor_nat _ _ (by omega) (by omega), xor_all _ (by omega)]
  omega

theorem code_any (n : Int) (w : World) (h : In n) : Calls Tryd.prog 56 #[.int .i64 n] w fun e w' => e = .returned (.int .u64 (cd n)) ∧ w = w' := by
  obtain ⟨h0, h1⟩ := h
  by_cases hn : n < 0
  · have H := Lib.hid (not_code n h0 hn)
    go_enter Tryd.func56, Tryd.ntmps56
    go_wp2
    go_ret
    refine ⟨retu (H.out.trans ?_), rfl⟩
    unfold cd
    rw [if_neg (by omega)]
  · go_enter Tryd.func56, Tryd.ntmps56
    go_wp2
    go_ret
    refine ⟨retu ?_, rfl⟩
    unfold cd
    rw [if_pos (by omega)]
    omega

theorem number_any (c : Int) (w : World) (h0 : 0 ≤ c) (h1 : c ≤ 18446744073709551615) : Calls Tryd.prog 58 #[.int .u64 c] w fun e w' => e = .returned (.int .i64 (nu c)) ∧ w = w' := by
  by_cases hn : c % 2 = 1
  · have t : (c % 2 == 1) = true := by simpa using hn
    go_enter Tryd.func58, Tryd.ntmps58
    go_wp2
    go_ret
    exact ⟨ret1 (by unfold nu; rw [if_pos hn]), rfl⟩
  · have t : (c % 2 == 1) = false := by simpa using hn
    go_enter Tryd.func58, Tryd.ntmps58
    go_wp2
    go_ret
    exact ⟨ret1 (by unfold nu; rw [if_neg hn]), rfl⟩

/-- How far a number is gone with a byte: 0: it goes on, 1: it ends, 2: it is too long. -/
def sp (i x : Int) : Int := if i = 9 ∧ 1 < x then 2 else if 128 ≤ x then 0 else if 0 < i ∧ x = 0 then 2 else 1

theorem step_any (i x : Int) (w : World) : Calls Tryd.prog 57 #[.int .i64 i, .int .u8 x] w fun e w' => e = .returned (.int .i64 (sp i x)) ∧ w = w' := by
  by_cases h1 : i = 9 ∧ 1 < x
  · have t1 : (i == 9) = true := by simpa using h1.1
    have t2 : decide (1 < x) = true := by simpa using h1.2
    have H : Hid (2 = sp i x) := by
      have : 2 = sp i x := by unfold sp; rw [if_pos h1]
      exact this
    clear h1
    go_enter Tryd.func57, Tryd.ntmps57
    go_wp2
    go_ret
    exact ⟨ret1 H.out, rfl⟩
  · by_cases h2 : 128 ≤ x
    · have t1 : (i == 9) = false := by simp; intro h; exact h1 ⟨h, by omega⟩
      have t3 : decide (128 ≤ x) = true := by simpa using h2
      have H : Hid (0 = sp i x) := by
        have : 0 = sp i x := by unfold sp; rw [if_neg h1, if_pos h2]
        exact this
      clear h1 h2
      go_enter Tryd.func57, Tryd.ntmps57
      go_wp2
      go_ret
      exact ⟨ret1 H.out, rfl⟩
    · have t3 : decide (128 ≤ x) = false := by simpa using h2
      by_cases h3 : 0 < i ∧ x = 0
      · have t2 : decide (1 < x) = false := by simp; omega
        have t4 : decide (0 < i) = true := by simpa using h3.1
        have t5 : (x == 0) = true := by simpa using h3.2
        have H : Hid (2 = sp i x) := by
          have : 2 = sp i x := by unfold sp; rw [if_neg h1, if_neg h2, if_pos h3]
          exact this
        clear h1 h2 h3
        cases t1 : (i == 9) <;>
        · go_enter Tryd.func57, Tryd.ntmps57
          go_wp2
          go_ret
          exact ⟨ret1 H.out, rfl⟩
      · have H : Hid (1 = sp i x) := by
          have : 1 = sp i x := by unfold sp; rw [if_neg h1, if_neg h2, if_neg h3]
          exact this
        cases t1 : (i == 9) <;> cases t2 : decide (1 < x) <;> cases t4 : decide (0 < i) <;> cases t5 : (x == 0) <;> first
          | exact absurd ⟨by simpa using t1, by simpa using t2⟩ h1
          | exact absurd ⟨by simpa using t4, by simpa using t5⟩ h3
          | (clear h1 h2 h3
             go_enter Tryd.func57, Tryd.ntmps57
             go_wp2
             go_ret
             exact ⟨ret1 H.out, rfl⟩)

/-- Ten cells. -/
def arr (l : List Int) : Array Value := ((List.range 10).map fun j : Nat => Value.int .u8 (l.getD j 0)).toArray

theorem arr_get (l : List Int) (j : Nat) (h : j < 10) : (arr l)[j]? = some (.int .u8 (l.getD j 0)) := by
  simp [arr, h]

theorem arr_size (l : List Int) : (arr l).size = 10 := by simp [arr]

theorem arr_nil : arr [] = #[.int .u8 0, .int .u8 0, .int .u8 0, .int .u8 0, .int .u8 0, .int .u8 0, .int .u8 0, .int .u8 0, .int .u8 0, .int .u8 0] := by
  kernel_rfl

theorem arr_set (l : List Int) (x : Int) (h : l.length < 10) : (arr l).setIfInBounds l.length (.int .u8 x) = arr (l ++ [x]) := by
  apply Array.ext_getElem?
  intro j
  rw [Array.getElem?_setIfInBounds]
  by_cases hj : j < 10
  · by_cases e : l.length = j
    · subst e
      rw [if_pos rfl, if_pos (by rw [arr_size]; exact h), arr_get _ _ hj]
      simp
    · rw [if_neg e, arr_get _ j hj, arr_get _ j hj]
      congr 2
      simp only [List.getD_eq_getElem?_getD]
      by_cases hjk : j < l.length
      · rw [List.getElem?_append_left hjk]
      · rw [List.getElem?_eq_none (by omega), List.getElem?_eq_none (by simp; omega)]
  · rw [Array.getElem?_eq_none (by rw [arr_size]; omega), Array.getElem?_eq_none (by rw [arr_size]; omega), if_neg (by omega)]

theorem arr_ten (l : List Int) : ∃ y0 y1 y2 y3 y4 y5 y6 y7 y8 y9 : Int, arr l = #[.int .u8 y0, .int .u8 y1, .int .u8 y2, .int .u8 y3, .int .u8 y4, .int .u8 y5, .int .u8 y6, .int .u8 y7, .int .u8 y8, .int .u8 y9] :=
  ⟨_, _, _, _, _, _, _, _, _, _, rfl⟩

/-- Two results: a row in a block, and a slot. -/
theorem results_row_tmp {P : Program} {fn : Func} {p q : Tmp} {ty : TypeId} (h : fn.results = #[.cell p ty, .tmp q]) (tmps : Array Value) (w : World) (g : Nat) (t : TypeId) (cs : Array Value) (fr : Nat × Nat) (d : TypeDesc) (v : Value)
    (hp : tmps.getD p undef = .pointer (some ⟨g, 0, none⟩)) (hq : tmps.getD q undef = v) (hg : w.heap[g]? = some (.cells cs t fr))
    (hu : P.underlying ty = some d) (hd : (match d with | .struct _ | .array _ _ => true | _ => false) = true) (hi : (P.info? ty).map (·.size) = some cs.size) :
    (results fn tmps).run P w = .ok (.tuple #[.agg cs, v]) w := by
  have hp' : tmps[p]?.getD undef = .pointer (some ⟨g, 0, none⟩) := by simpa using hp
  have hq' : tmps[q]?.getD undef = v := by simpa using hq
  simp [results, h, hp', hq', asAddr, run_loadVar_row w g t ty cs fr d hg hu hd hi]

def DRel (n : Int) (w : World) (k c : Value) (wr : World) : Prop :=
  ∃ (pre : List Int) (x : Int), pre.length ≤ 9 ∧ k = .int .i64 (pre.length : Int) ∧ c = .int .u64 x ∧ pu n = pre ++ dgs (9 - pre.length) x ∧ 0 ≤ x ∧ x < bd (9 - pre.length) ∧ x < 18446744073709551616 ∧ wr = w.alloc (.cells (arr pre) 88)

theorem digits_any (n : Int) (w : World) (h : In n) : Calls Tryd.prog 48 #[.int .i64 n] w fun e w' => e = .returned (.tuple #[.agg (arr (pu n)), .int .i64 ((pu n).length : Int)]) ∧ Later w w' := by
  have C := Lib.hid (fun W => code_any n W h)
  have c0 := cd_nn n
  have c1 := cd_lt n h.1 h.2
  go_enter Tryd.func48, Tryd.ntmps48
  go_wp2_with fail
  refine (C.out _).mono ?_
  rintro e w1 ⟨rfl, rfl⟩
  go_wp2
  go_loopw [3, 4] (fun k c wr => DRel n w k c wr) (fun _ c _ => (intOf c).toNat)
  case atStart => exact ⟨[], cd n, by simp, rfl, rfl, by simp [pu], c0, by simpa [bd] using c1, c1, by rw [arr_nil]⟩
  case round =>
    obtain ⟨pre, x, hp, rfl, rfl, hd, x0, x1, x2, rfl⟩ := hrel
    have HD := Lib.hid hd
    have HX := Lib.hid x1
    clear hd x1
    have o := arr_get pre pre.length (by omega)
    by_cases hx : 128 ≤ x
    · have t : decide (128 ≤ x) = true := by simpa using hx
      obtain ⟨g, hg⟩ : ∃ g, 9 - pre.length = g + 1 := by
        refine ⟨9 - pre.length - 1, ?_⟩
        have := HX.out
        rcases Nat.eq_zero_or_pos (9 - pre.length) with h0 | h0
        · rw [h0] at this; simp only [bd] at this; omega
        · omega
      have HS := Lib.hid (arr_set pre (x % 128 + 128) (by omega))
      have HG := Lib.hid hg
      clear hg
      go_wp2
      go_roundw
      case rel =>
        refine ⟨pre ++ [x % 128 + 128], x / 128, by have := HG.out; simp; omega, by simp, rfl, ?_, by omega, ?_, by omega, by rw [HS.out]⟩
        · rw [HD.out, HG.out, dgs, if_pos hx, List.append_assoc, List.length_append, List.length_singleton, show 9 - (pre.length + 1) = g by have := HG.out; omega]
          rfl
        · have := HX.out
          rw [HG.out, bd] at this
          rw [List.length_append, List.length_singleton, show 9 - (pre.length + 1) = g by have := HG.out; omega]
          omega
      case measure => simp [intOf]; omega
    · have e : pre ++ [x] = pu n := by
        rw [HD.out]
        cases 9 - pre.length with
        | zero => rfl
        | succ f => rw [dgs, if_neg hx]
      have hl : ((pu n).length : Int) = pre.length + 1 := by rw [← e]; simp
      obtain ⟨y0, y1, y2, y3, y4, y5, y6, y7, y8, y9, hy⟩ := arr_ten (pu n)
      have HS := arr_set pre x (by omega)
      rw [e, hy] at HS
      have HY := Lib.hid hy
      have HL := Lib.hid hl
      clear hy hl e
      go_wp2
      rw [HY.out, HL.out]
      refine bodyPost_ret (v := .tuple #[.agg #[.int .u8 y0, .int .u8 y1, .int .u8 y2, .int .u8 y3, .int .u8 y4, .int .u8 y5, .int .u8 y6, .int .u8 y7, .int .u8 y8, .int .u8 y9], .int .i64 (pre.length + 1)]) ?_ rfl ⟨rfl, ?_⟩
      · exact results_row_tmp (P := Tryd.prog) (fn := Tryd.f48) Tryd.results48 _ _ w.heap.size 88 _ (0, 0) _ _ rfl rfl (heap_alloc_new w _) Tryd.underlying88 rfl (by kernel_rfl)
      · exact (Later.refl w).alloc _ _
end Go.Proofs.YtdljmpaabpkmkaaDoor.Wire
