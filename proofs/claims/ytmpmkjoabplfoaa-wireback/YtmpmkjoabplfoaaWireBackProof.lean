/-
  Layer 8: what is put is got, whatever stands behind (newellaw08.WireBack answers true for every input, and leaves its arguments as they were). No condition.
-/
import Derived.Test.YtmpmkjoabplfoaaRows
import Derived.WalkKit
import Derived.ProofKit
import Derived.OpenShut
import Derived.ShutString
import Derived.ChangeOld
import Derived.Below
import Derived.Test.YtmpmkjoabplfoaaWy
namespace Go.Proofs.Ytmpmkjoabplfoaa.wireBack
open Go.ChangeShapes Go.WideShapes Go.ChangeAt Go.RowKit
open Go.ChangeMaps (open_string shut_string)
open Go.Proofs.Ytmpmkjoabplfoaa.Divs Go.Proofs.Ytmpmkjoabplfoaa.Grow Go.Proofs.Ytmpmkjoabplfoaa.Wi Go.Proofs.Ytmpmkjoabplfoaa.Wire
set_option linter.unusedVariables false

theorem own : ownKnob Try.prog.godebug = none := by kernel_rfl
theorem laidOut : laidOutB Try.prog = true := by kernel_rfl

/-- WHAT THE WALK IS TOLD OF A SLICE OF INTEGERS THAT CAME IN: it is nil; or it leads to a row of 'cap' cells, the numbers 'zs' (the first 'len' are its elements, the rest its spare room), each fitting its kind. -/
def IsRow (k : IntKind) (w : World) (a : Option Addr) (len cap : Nat) (zs : List Int) : Prop :=
  (a = none ∧ len = 0 ∧ cap = 0 ∧ zs = []) ∨
  ∃ x, a = some x ∧ len ≤ cap ∧ cap ≤ maxLen ∧ zs.length = cap ∧ (∀ i, i < zs.length → w.cell? (x.add i) = some (.int k (zs.getD i 0))) ∧ ∀ n ∈ zs, (Lit.int k n).wf = true

theorem IsRow.sk {k : IntKind} {w : World} {a : Option Addr} {len cap : Nat} {zs : List Int} (h : IsRow k w a len cap zs) : Sk k w (.slice a len cap) (zs.take len) ∧ ∀ n ∈ zs.take len, (Lit.int k n).wf = true := by
  rcases h with ⟨rfl, rfl, rfl, rfl⟩ | ⟨x, rfl, h1, h2, h3, h4, h5⟩
  · exact ⟨⟨none, 0, rfl, by simp, by omega, by simp, by simp⟩, by simp⟩
  · have hl : (zs.take len).length = len := by rw [List.length_take]; omega
    refine ⟨⟨some x, cap, by rw [hl], by rw [hl]; exact h1, by simpa [maxLen] using h2, by simp, fun i y hy => ?_⟩, fun n hn => h5 n (List.mem_of_mem_take hn)⟩
    have hi : i < len := by
      have := (List.getElem?_eq_some_iff.1 hy).1
      omega
    obtain ⟨b, off, rfl, hc⟩ := ints_at h4 (by omega)
    refine ⟨b, off, rfl, ?_⟩
    rw [List.getElem?_take_of_lt hi] at hy
    have := hc i (by omega)
    rwa [List.getD_eq_getElem?_getD, hy] at this

def BRel (l : List Int) (w : World) (i : Value) (wr : World) : Prop := ∃ j : Nat, j ≤ l.length ∧ i = .int .i64 (j : Int) ∧ Later w wr

set_option maxHeartbeats 2000000 in
theorem core (w : World) (l0 : List Int) (v0 : Value) (hs0 : Sk .i64 w v0 l0) (hl0 : ∀ n ∈ l0, In n) (l1 : List Int) (v1 : Value) (hs1 : Sk .u8 w v1 l1) (hl1 : ∀ n ∈ l1, 0 ≤ n ∧ n ≤ 255) :
    Calls Try.prog 4 #[v0, v1] w fun e w' => e = .returned (.bool true) ∧ Later w w' := by
  have A := Lib.hid (fun W => awake_any W)
  by_cases hlen : 60 < l0.length
  · obtain ⟨ad, cap, rfl, hm⟩ := hs0.len
    clear hs0 hs1
    go_enter Try.func4, Try.ntmps4
    go_wp2_with fail
    refine (A.out _).mono ?_
    rintro e w1 ⟨rfl, hg1⟩
    go_wp2_with fail
    go_ret
    exact ⟨rfl, hg1⟩
  · by_cases hlen1 : 60 < l1.length
    · obtain ⟨ad, cap, rfl, hm⟩ := hs0.len
      obtain ⟨ad', cap', rfl, hm'⟩ := hs1.len
      clear hs0 hs1
      go_enter Try.func4, Try.ntmps4
      go_wp2_with fail
      refine (A.out _).mono ?_
      rintro e w1 ⟨rfl, hg1⟩
      go_wp2_with fail
      go_ret
      exact ⟨rfl, hg1⟩
    · have R := Lib.hid (fun W (h : Sk .i64 W v0 l0) => row_any l0 v0 W h (by omega) hl0)
      have G := Lib.hid (fun v W (h : Sk .u8 W v (ro l0 ++ l1)) => getrow_row l0 l1 v W hl0 (by omega) hl1 h)
      have G' := Lib.hid (fun v W (h : Sk .u8 W v (ro l0 ++ l1)) => getrow_less l0 l1 v W hl0 (by omega) hl1 h)
      have S := Lib.hid (fun u W (hu : Sk .i64 W u l0) (hv : Sk .i64 W v0 l0) => isame_yes l0 u v0 W hu hv)
      have P := Lib.hid (fun n W (h : In n) => put_any n W h)
      have T := Lib.hid (fun n v W (h : In n) (hs : Sk .u8 W v (pu n ++ l1)) => get_put n l1 v W h hl1 hs)
      have HN := Lib.hid hl0
      have HS0 := Lib.hid hs0
      have HS1 := Lib.hid hs1
      have rl := ro_len l0
      have HR := Lib.hid (show (ro l0).length + l1.length ≤ 100000 by omega)
      have HR0 := Lib.hid (show (ro l0).length ≤ 100000 by omega)
      have HL1 := Lib.hid (show l1.length ≤ 1000 by omega)
      obtain ⟨ad, cap, rfl, hm⟩ := hs0.len
      obtain ⟨ad', cap', rfl, hm'⟩ := hs1.len
      have t0 : decide (60 < (l0.length : Int)) = false := by simp; omega
      have t1 : decide (60 < (l1.length : Int)) = false := by simp; omega
      clear hs0 hs1 rl
      go_enter Try.func4, Try.ntmps4
      go_wp2_with fail
      refine (R.out _ HS0.out).mono ?_
      rintro e w1 ⟨u, rfl, hu, hg1⟩
      have HU := Lib.hid hu
      obtain ⟨ad1, cap1, rfl, _⟩ := hu.len
      have HG1 := Lib.hid hg1
      clear hu hg1
      go_wp2_with (first | (at_builtin; (refine append_sk rfl (.tmp 29) (.tmp 30) rfl w (HG1.out.put _) _ [] rfl (SL.made w _ HG1.out) _ (ro l0) rfl (HU.out.later ((Later.refl _).put _)) (by have := HR0.out; simp; omega) ?_); (intro v2 w2 ho2 hg2; have HO2 := Lib.hid ho2; have HG2 := Lib.hid hg2; clear ho2 hg2)) | (at_builtin; (refine append_sk rfl (.tmp 31) (.tmp 32) rfl w HG2.out _ _ rfl HO2.out _ l1 rfl (HS1.out.later HG2.out) (by have := HR.out; simp; omega) ?_); (intro v3 w3 ho3 hg3; have HO3 := Lib.hid ho3; have HG3 := Lib.hid hg3; clear ho3 hg3)))
      refine (G.out _ _ HO3.out.sk).mono ?_
      rintro e w4 ⟨x, rfl, hx, hg4⟩
      have HX := Lib.hid hx
      have HG4 := Lib.hid (gtrans HG3.out hg4)
      have HA4 := Lib.hid (HO3.out.sk.later hg4)
      clear hx hg4
      go_wp2_with fail
      refine (S.out _ _ HX.out (HS0.out.later HG4.out)).mono ?_
      rintro e w5 ⟨rfl, hg5⟩
      have HG5 := Lib.hid (gtrans HG4.out hg5)
      have HA5 := Lib.hid (HA4.out.later hg5)
      clear hg5
      go_wp2_with fail
      go_loopw [10] (fun i wr => BRel l0 w5 i wr) (fun i _ => l0.length - (intOf i).toNat)
      case atStart => exact ⟨0, by omega, rfl, Later.refl _⟩
      case round =>
        obtain ⟨j, hj, rfl, hr⟩ := hrel
        have HRW := Lib.hid (gtrans HG5.out hr)
        have HR5 := Lib.hid hr
        clear hr
        by_cases hlt : j < l0.length
        · obtain ⟨n, hn⟩ : ∃ n, l0[j]? = some n := ⟨_, List.getElem?_eq_getElem hlt⟩
          have HI := Lib.hid (HN.out n (List.mem_of_getElem? hn))
          obtain ⟨b, off, cap0, e0, _, _, _, hc⟩ := HS0.out.has (by omega)
          simp only [Value.slice.injEq] at e0
          obtain ⟨rfl, _, rfl⟩ := e0
          have hc' := hc j hlt
          rw [List.getD_eq_getElem?_getD, hn, Option.getD_some] at hc'
          have HC := Lib.hid hc'
          have c := gsome HRW.out hc'
          have pl := pu_len n
          have HPL := Lib.hid pl
          clear hc hc' hn pl
          go_wp2_with fail
          refine (P.out _ _ HI.out).mono ?_
          rintro e w6 ⟨p, rfl, hp, hg6⟩
          have HP := Lib.hid hp
          obtain ⟨ad6, cap6, rfl, _⟩ := hp.len
          have HG6 := Lib.hid (gtrans HRW.out hg6)
          have HR6 := Lib.hid (gtrans HR5.out hg6)
          clear hp hg6 c
          go_wp2_with (first | (at_builtin; (refine append_sk rfl (.tmp 68) (.tmp 69) rfl w5 (HR6.out.put _) _ [] rfl (SL.made w5 _ HR6.out) _ (pu n) rfl (HP.out.later ((Later.refl _).put _)) (by have := HPL.out; simp; omega) ?_); (intro v7 w7 ho7 hg7; have HO7 := Lib.hid ho7; have HR7 := Lib.hid hg7; have HG7 := Lib.hid (gtrans HG5.out hg7); clear ho7 hg7)) | (at_builtin; (refine append_sk rfl (.tmp 70) (.tmp 71) rfl w5 HR7.out _ _ rfl HO7.out _ l1 rfl (HS1.out.later HG7.out) (by have := HPL.out; have := HL1.out; simp; omega) ?_); (intro v8 w8 ho8 hg8; have HO8 := Lib.hid ho8; have HR8 := Lib.hid hg8; clear ho8 hg8)))
          refine (T.out _ _ _ HI.out HO8.out.sk).mono ?_
          rintro e w9 ⟨rfl, rfl⟩
          have c := gsome (gtrans HG5.out HR8.out) HC.out
          have pl := HPL.out
          go_wp2_with fail
          go_roundw
          case rel => exact ⟨j + 1, by omega, by go_num, HR8.out⟩
          case measure => simp [intOf]; omega
        · have hnlt : ¬ j < l0.length := hlt
          go_wp2_with fail
          refine (G'.out _ _ (HA5.out.later HR5.out)).mono ?_
          rintro e w6 ⟨y, rfl, _, hg6⟩
          have HG6 := Lib.hid (gtrans HRW.out hg6)
          clear hg6
          go_wp2_with fail
          refine (A.out _).mono ?_
          rintro e w7 ⟨rfl, hg7⟩
          go_wp2_with fail
          go_ret
          exact ⟨rfl, gtrans HG6.out hg7⟩

theorem walk (a0 : Option Addr) (len0 cap0 : Nat) (z0 : List Int) (a1 : Option Addr) (len1 cap1 : Nat) (z1 : List Int) (w : World) (w0 : IsRow .i64 w a0 len0 cap0 z0) (w1 : IsRow .u8 w a1 len1 cap1 z1) :
    Calls Try.prog 4 #[.slice a0 len0 cap0, .slice a1 len1 cap1] w fun e w' => e = .returned (.bool true) ∧ Below w.heap.size w w' := by
  obtain ⟨sk0, wf0⟩ := w0.sk
  obtain ⟨sk1, wf1⟩ := w1.sk
  exact (core w _ _ sk0 (fun n hn => bounds_i64 (wf0 n hn)) _ _ sk1 (fun n hn => bounds_u8 (wf1 n hn))).mono fun _ _ ⟨he, hg⟩ => ⟨he, hg.below⟩

set_option maxRecDepth 100000 in
theorem lifted (os : Os) (started : os.Started) (H : Type) (enc : TypeId × Value → H) :
    ReturnsInHanded {} Try.checked os 4 .any (Rows.wireBackSpec.pre6 enc Try.prog Try.f4 Rows.wireBackRow.domain false) (Rows.wireBackSpec.post enc Try.prog Try.f4 false true false false) := by
  refine returnsInHanded_of_change (C := Try.checked) own started (by kernel_rfl) Try.func4
    (ChangeSpec.witness6 (enc := enc) (C := Try.checked) false ⟨#[], #[.slice none 0 0, .slice none 0 0], []⟩ 8 (by kernel_rfl) (by kernel_rfl) (by kernel_rfl) (by kernel_rfl)) ?_
  intro W base args ds gs before hval0 hW hcnd _
  have hval : ∀ (j : Nat) t v, Try.f4.params[j]? = some t → args[j]? = some v → Value.okWide Try.prog W .any base t v := hval0
  have hW' := hW
  obtain ⟨p, q, hA0, hV, rfl, hfz, hnd⟩ := hW
  have hA : DataW.TrodAll enc Try.prog W 0 (fun _ => true) true Try.f4.params.toList args.toList ds p := hA0
  rw [Try.params4] at hA hval
  obtain ⟨v0, vs0, d0, ds0, p0, q0, hargs, rfl, rfl, h0, r0⟩ := trodAll_cons hA
  obtain ⟨v1, vs1, d1, ds1, p1, q1, rfl, rfl, rfl, h1, r1⟩ := trodAll_cons r0
  obtain ⟨rfl, rfl, rfl⟩ := trodAll_nil r1
  obtain rfl : args = #[v0, v1] := by cases args; simp_all
  obtain ⟨rfl, rfl⟩ := trodVars_none hV
  obtain ⟨a0, len0, cap0, rfl⟩ := okWide_slice Try.underlying22 (hval 0 22 v0 rfl rfl)
  have k0 := h0
  have lt0 : ∀ x ∈ p0, x.block < W.heap.size := by obtain ⟨m, hm⟩ := k0; exact DataW.trod_lt m _ _ _ hm
  obtain ⟨z0, w0⟩ : ∃ zs, IsRow .i64 W a0 len0 cap0 zs := by
    obtain ⟨fuel, hf⟩ := h0
    rcases open_ints Try.underlying22 Try.underlying3 (by kernel_rfl) hf with ⟨hcs, _⟩ | ⟨x, l, c, zs, hcs, _, hl, hm, hz, _, hcell, hwz⟩
    · simp [Value.cells] at hcs
      obtain ⟨rfl, rfl, rfl⟩ := hcs
      exact ⟨[], .inl ⟨rfl, rfl, rfl, rfl⟩⟩
    · simp [Value.cells] at hcs
      obtain ⟨rfl, rfl, rfl⟩ := hcs
      exact ⟨zs, .inr ⟨_, rfl, hl, hm, by simpa using hz, hcell, hwz⟩⟩
  obtain ⟨a1, len1, cap1, rfl⟩ := okWide_slice Try.underlying25 (hval 1 25 v1 rfl rfl)
  have k1 := h1
  have lt1 : ∀ x ∈ p1, x.block < W.heap.size := by obtain ⟨m, hm⟩ := k1; exact DataW.trod_lt m _ _ _ hm
  obtain ⟨z1, w1⟩ : ∃ zs, IsRow .u8 W a1 len1 cap1 zs := by
    obtain ⟨fuel, hf⟩ := h1
    rcases open_ints Try.underlying25 Try.underlying5 (by kernel_rfl) hf with ⟨hcs, _⟩ | ⟨x, l, c, zs, hcs, _, hl, hm, hz, _, hcell, hwz⟩
    · simp [Value.cells] at hcs
      obtain ⟨rfl, rfl, rfl⟩ := hcs
      exact ⟨[], .inl ⟨rfl, rfl, rfl, rfl⟩⟩
    · simp [Value.cells] at hcs
      obtain ⟨rfl, rfl, rfl⟩ := hcs
      exact ⟨zs, .inr ⟨_, rfl, hl, hm, by simpa using hz, hcell, hwz⟩⟩
  clear hA0 hval0
  refine (walk a0 len0 cap0 z0 a1 len1 cap1 z1 W w0 w1).mono fun e W' ⟨he, bel⟩ => ?_
  subst he
  exact ⟨_, rfl, _, _, _, [], _, [], hW', trodAll_mk1 (shut_bool Try.underlying4 _), (trodAll_cons_mk (Below.trod laidOut (by kernel_rfl) (of_decide_eq_true (by kernel_rfl)) k0 bel lt0) (trodAll_cons_mk (Below.trod laidOut (by kernel_rfl) (of_decide_eq_true (by kernel_rfl)) k1 bel lt1) trodAll_mk0)), rfl, bel.frame _, fun h => by cases h⟩

theorem over : Rows.wireBackRow.holds Try.pinned (OpenSpec.ofChange Rows.wireBackSpec) :=
  OpenClaim.holds_of_wide 4 Try.f4 rfl rfl rfl rfl rfl rfl rfl ⟨rfl, rfl, rfl, rfl, rfl⟩ rfl rfl rfl rfl rfl (by kernel_rfl) Try.func4 (by kernel_rfl)
    (of_decide_eq_true (by kernel_rfl)) (by unfold Func.isWrapper; first | (rw [if_pos (by decide +kernel)]; kernel_rfl) | (rw [if_neg (by decide +kernel)]; exact ⟨rfl, rfl⟩))
    (fun os started H enc _ => lifted os started H enc)

/-- The statement. -/
theorem proved : Rows.WireBackSaid := over
#print axioms proved
end Go.Proofs.Ytmpmkjoabplfoaa.wireBack
