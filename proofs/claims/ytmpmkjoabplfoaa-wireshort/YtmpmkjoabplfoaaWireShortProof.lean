/-
  Layer 8: bytes of a row that are cut end too early (newellaw08.WireShort answers true for every input, and leaves its arguments as they were). No condition.
-/
import Derived.Test.YtmpmkjoabplfoaaRows
import Derived.WalkKit
import Derived.ProofKit
import Derived.OpenShut
import Derived.ShutString
import Derived.ChangeOld
import Derived.Below
import Derived.Test.YtmpmkjoabplfoaaWw
namespace Go.Proofs.Ytmpmkjoabplfoaa.wireShort
open Go.ChangeShapes Go.WideShapes Go.ChangeAt Go.RowKit
open Go.ChangeMaps (open_string shut_string)
open Go.Proofs.Ytmpmkjoabplfoaa.Divs Go.Proofs.Ytmpmkjoabplfoaa.Grow Go.Proofs.Ytmpmkjoabplfoaa.Wi Go.Proofs.Ytmpmkjoabplfoaa.Wire
set_option linter.unusedVariables false

theorem own : ownKnob Try.prog.godebug = none := by kernel_rfl
theorem laidOut : laidOutB Try.prog = true := by kernel_rfl

/-- WHAT THE WALK IS TOLD OF A SLICE OF INTEGERS THAT CAME IN: it is nil; or it leads to a row of 'cap' cells, the numbers 'zs' (the first 'len' are its elements, the rest its spare room), each fitting its kind. -/
def IsRow (k : IntKind) (w : World) (a : Option Addr) (len cap : Nat) (zs : List Int) : Prop :=
  (a = none ∧ len = 0 ∧ cap = 0 ∧ zs = []) ∨
  ∃ x, a = some x ∧ len ≤ cap ∧ cap ≤ maxLen ∧ zs.length = cap ∧ (∀ i, i < zs.length → w.cell? (x.add i) = some (.int k (zs.getD i 0))) ∧ ∀ n ∈ zs, (Lit.int k n).wf = true

theorem IsRow.sk {k : IntKind} {w : World} {a : Option Addr} {len cap : Nat} {zs : List Int} (h : IsRow k w a len cap zs) : Sk k w (.slice a len cap) (zs.take len) ∧ ∀ n ∈ zs.take len, (Lit.int k n).wf = true := by
  rcases h with ⟨rfl, rfl, rfl, rfl⟩ | ⟨x, rfl, h1, h2, h3, h4, h5⟩
  · exact ⟨⟨none, 0, rfl, by simp, by omega, by simp, by simp⟩, by simp⟩
  · have hl : (zs.take len).length = len := by rw [List.length_take]; omega
    refine ⟨⟨some x, cap, by rw [hl], by rw [hl]; exact h1, by simpa [maxLen] using h2, by simp, fun i y hy => ?_⟩, fun n hn => h5 n (List.mem_of_mem_take hn)⟩
    have hi : i < len := by
      have := (List.getElem?_eq_some_iff.1 hy).1
      omega
    obtain ⟨b, off, rfl, hc⟩ := ints_at h4 (by omega)
    refine ⟨b, off, rfl, ?_⟩
    rw [List.getElem?_take_of_lt hi] at hy
    have := hc i (by omega)
    rwa [List.getD_eq_getElem?_getD, hy] at this

set_option maxHeartbeats 1000000 in
theorem core (w : World) (l0 : List Int) (v0 : Value) (hs0 : Sk .i64 w v0 l0) (hl0 : ∀ n ∈ l0, In n) (a1 : Int) (h1 : In a1) :
    Calls Try.prog 6 #[v0, .int .i64 a1] w fun e w' => e = .returned (.bool true) ∧ Later w w' := by
  have A := Lib.hid (fun W => awake_any W)
  by_cases hlen : 60 < l0.length
  · obtain ⟨ad, cap, rfl, hm⟩ := hs0.len
    clear hs0
    go_enter Try.func6, Try.ntmps6
    go_wp2_with fail
    refine (A.out _).mono ?_
    rintro e w1 ⟨rfl, hg1⟩
    go_wp2_with fail
    go_ret
    exact ⟨rfl, hg1⟩
  · have R := Lib.hid (fun W (h : Sk .i64 W v0 l0) => row_any l0 v0 W h (by omega) hl0)
    have HS := Lib.hid hs0
    obtain ⟨ad, cap, rfl, hm⟩ := hs0.len
    clear hs0
    by_cases hc : 0 ≤ a1 ∧ a1 < ((ro l0).length : Int)
    · obtain ⟨k, rfl⟩ := Int.eq_ofNat_of_zero_le hc.1
      have hk : k < (ro l0).length := by omega
      have t1 : decide ((k : Int) < 0) = false := by simp
      have t2 : decide (((ro l0).length : Int) ≤ (k : Int)) = false := by simp; omega
      have G := Lib.hid (fun v W (h : Sk .u8 W v ((ro l0).take k)) => getrow_any ((ro l0).take k) 0 l0.length v W h (fun x hx => ro_byte l0 hl0 (by omega) x (List.mem_of_mem_take hx)) (by omega))
      rw [grow_cut l0 k l0.length hl0 (by omega) (by omega) hk] at G
      clear hc h1
      go_enter Try.func6, Try.ntmps6
      go_wp2_with fail
      refine (R.out _ HS.out).mono ?_
      rintro e w1 ⟨u, rfl, hu, hg1⟩
      obtain ⟨ad', cap', u', rfl, sl, hu'⟩ := cut_h hu k (by omega)
      have HU := Lib.hid hu'
      have HG1 := Lib.hid hg1
      clear hu' hg1 hu
      go_wp2_with fail
      refine (G.out _ _ HU.out).mono ?_
      rintro e w2 ⟨x, rfl, hx, hg2⟩
      obtain ⟨ad'', cap'', rfl, _⟩ := hx.bare
      have HG2 := Lib.hid (gtrans HG1.out hg2)
      clear hx hg2
      go_wp2_with fail
      refine (A.out _).mono ?_
      rintro e w3 ⟨rfl, hg3⟩
      go_wp2_with fail
      go_ret
      exact ⟨rfl, gtrans HG2.out hg3⟩
    · by_cases hn : a1 < 0
      · have t1 : decide (a1 < 0) = true := by simpa using hn
        clear hc h1 hn
        go_enter Try.func6, Try.ntmps6
        go_wp2_with fail
        refine (R.out _ HS.out).mono ?_
        rintro e w1 ⟨u, rfl, hu, hg1⟩
        go_wp2_with fail
        refine (A.out _).mono ?_
        rintro e w3 ⟨rfl, hg3⟩
        go_wp2_with fail
        go_ret
        exact ⟨rfl, gtrans hg1 hg3⟩
      · have t1 : decide (a1 < 0) = false := by simpa using hn
        have t2 : decide (((ro l0).length : Int) ≤ a1) = true := by simp; omega
        clear hc h1 hn
        go_enter Try.func6, Try.ntmps6
        go_wp2_with fail
        refine (R.out _ HS.out).mono ?_
        rintro e w1 ⟨u, rfl, hu, hg1⟩
        obtain ⟨ad', cap', rfl, _⟩ := hu.len
        clear hu
        go_wp2_with fail
        refine (A.out _).mono ?_
        rintro e w3 ⟨rfl, hg3⟩
        go_wp2_with fail
        go_ret
        exact ⟨rfl, gtrans hg1 hg3⟩

theorem walk (a0 : Option Addr) (len0 cap0 : Nat) (z0 : List Int) (a1 : Int) (w : World) (w0 : IsRow .i64 w a0 len0 cap0 z0) (w1 : (Lit.int .i64 a1).wf = true) :
    Calls Try.prog 6 #[.slice a0 len0 cap0, .int .i64 a1] w fun e w' => e = .returned (.bool true) ∧ Below w.heap.size w w' := by
  obtain ⟨sk0, wf0⟩ := w0.sk
  exact (core w _ _ sk0 (fun n hn => bounds_i64 (wf0 n hn)) a1 (bounds_i64 w1)).mono fun _ _ ⟨he, hg⟩ => ⟨he, hg.below⟩

set_option maxRecDepth 100000 in
theorem lifted (os : Os) (started : os.Started) (H : Type) (enc : TypeId × Value → H) :
    ReturnsInHanded {} Try.checked os 6 .any (Rows.wireShortSpec.pre6 enc Try.prog Try.f6 Rows.wireShortRow.domain false) (Rows.wireShortSpec.post enc Try.prog Try.f6 false true false false) := by
  refine returnsInHanded_of_change (C := Try.checked) own started (by kernel_rfl) Try.func6
    (ChangeSpec.witness6 (enc := enc) (C := Try.checked) false ⟨#[], #[.slice none 0 0, .int .i64 0], []⟩ 8 (by kernel_rfl) (by kernel_rfl) (by kernel_rfl) (by kernel_rfl)) ?_
  intro W base args ds gs before hval0 hW hcnd _
  have hval : ∀ (j : Nat) t v, Try.f6.params[j]? = some t → args[j]? = some v → Value.okWide Try.prog W .any base t v := hval0
  have hW' := hW
  obtain ⟨p, q, hA0, hV, rfl, hfz, hnd⟩ := hW
  have hA : DataW.TrodAll enc Try.prog W 0 (fun _ => true) true Try.f6.params.toList args.toList ds p := hA0
  rw [Try.params6] at hA hval
  obtain ⟨v0, vs0, d0, ds0, p0, q0, hargs, rfl, rfl, h0, r0⟩ := trodAll_cons hA
  obtain ⟨v1, vs1, d1, ds1, p1, q1, rfl, rfl, rfl, h1, r1⟩ := trodAll_cons r0
  obtain ⟨rfl, rfl, rfl⟩ := trodAll_nil r1
  obtain rfl : args = #[v0, v1] := by cases args; simp_all
  obtain ⟨rfl, rfl⟩ := trodVars_none hV
  obtain ⟨a0, len0, cap0, rfl⟩ := okWide_slice Try.underlying22 (hval 0 22 v0 rfl rfl)
  have k0 := h0
  have lt0 : ∀ x ∈ p0, x.block < W.heap.size := by obtain ⟨m, hm⟩ := k0; exact DataW.trod_lt m _ _ _ hm
  obtain ⟨z0, w0⟩ : ∃ zs, IsRow .i64 W a0 len0 cap0 zs := by
    obtain ⟨fuel, hf⟩ := h0
    rcases open_ints Try.underlying22 Try.underlying3 (by kernel_rfl) hf with ⟨hcs, _⟩ | ⟨x, l, c, zs, hcs, _, hl, hm, hz, _, hcell, hwz⟩
    · simp [Value.cells] at hcs
      obtain ⟨rfl, rfl, rfl⟩ := hcs
      exact ⟨[], .inl ⟨rfl, rfl, rfl, rfl⟩⟩
    · simp [Value.cells] at hcs
      obtain ⟨rfl, rfl, rfl⟩ := hcs
      exact ⟨zs, .inr ⟨_, rfl, hl, hm, by simpa using hz, hcell, hwz⟩⟩
  obtain ⟨a1, rfl, rfl, rfl, w1⟩ := open_int Try.underlying3 (hval 1 3 v1 rfl rfl) h1
  clear hA0 hval0
  refine (walk a0 len0 cap0 z0 a1 W w0 w1).mono fun e W' ⟨he, bel⟩ => ?_
  subst he
  exact ⟨_, rfl, _, _, _, [], _, [], hW', trodAll_mk1 (shut_bool Try.underlying4 _), (trodAll_cons_mk (Below.trod laidOut (by kernel_rfl) (of_decide_eq_true (by kernel_rfl)) k0 bel lt0) (trodAll_cons_mk (shut_int Try.underlying3 w1) trodAll_mk0)), rfl, bel.frame _, fun h => by cases h⟩

theorem over : Rows.wireShortRow.holds Try.pinned (OpenSpec.ofChange Rows.wireShortSpec) :=
  OpenClaim.holds_of_wide 6 Try.f6 rfl rfl rfl rfl rfl rfl rfl ⟨rfl, rfl, rfl, rfl, rfl⟩ rfl rfl rfl rfl rfl (by kernel_rfl) Try.func6 (by kernel_rfl)
    (of_decide_eq_true (by kernel_rfl)) (by unfold Func.isWrapper; first | (rw [if_pos (by decide +kernel)]; kernel_rfl) | (rw [if_neg (by decide +kernel)]; exact ⟨rfl, rfl⟩))
    (fun os started H enc _ => lifted os started H enc)

/-- The statement. -/
theorem proved : Rows.WireShortSaid := over
#print axioms proved
end Go.Proofs.Ytmpmkjoabplfoaa.wireShort
