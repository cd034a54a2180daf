/-
  Layer 8: no number's bytes begin another one's (newellaw08.WireApart answers true for every input). No condition.
-/
import Derived.Test.YtmpmkjoabplfoaaRows
import Derived.WalkKit
import Derived.ProofKit
import Derived.OpenShut
import Derived.Test.YtmpmkjoabplfoaaWw
import Derived.ShutString
namespace Go.Proofs.Ytmpmkjoabplfoaa.wireApart
open Go.ChangeShapes Go.WideShapes Go.ChangeAt Go.RowKit
open Go.ChangeMaps (open_string shut_string)
open Go.Proofs.Ytmpmkjoabplfoaa.Divs Go.Proofs.Ytmpmkjoabplfoaa.Grow Go.Proofs.Ytmpmkjoabplfoaa.Wi Go.Proofs.Ytmpmkjoabplfoaa.Wire
set_option linter.unusedVariables false

theorem own : ownKnob Try.prog.godebug = none := by kernel_rfl

set_option maxHeartbeats 1000000 in
theorem walk (a0 a1 : Int) (w0 : (Lit.int .i64 a0).wf = true) (w1 : (Lit.int .i64 a1).wf = true) (w : World) :
    Calls Try.prog 7 #[.int .i64 a0, .int .i64 a1] w fun e w' => e = .returned (.bool true) ∧ Later w w' := by
  have h0 : In a0 := bounds_i64 w0
  have h1 : In a1 := bounds_i64 w1
  have A := Lib.hid (fun W => awake_any W)
  have P := Lib.hid (fun W => put_any a0 W h0)
  have Q := Lib.hid (fun W => put_any a1 W h1)
  have l0 := pu_pos a0
  have l1 := pu_pos a1
  have m0 := pu_len a0
  have m1 := pu_len a1
  obtain ⟨x, hx⟩ : ∃ x, x = pu a0 := ⟨_, rfl⟩
  obtain ⟨y, hy⟩ : ∃ y, y = pu a1 := ⟨_, rfl⟩
  have U : x = y.take x.length ↔ a0 = a1 := by
    constructor
    · intro h
      rw [hx, hy] at h
      exact pu_apart a0 a1 h0 h1 _ h
    · rintro rfl
      rw [hx, hy, List.take_length]
  have V : x.length > y.length → y ≠ x.take y.length := by
    intro hl h
    rw [hx, hy] at h
    have := pu_apart a1 a0 h1 h0 _ h
    rw [hx, hy, this] at hl
    omega
  rw [← hx] at P l0 m0
  rw [← hy] at Q l1 m1
  have t0 : ((x.length : Int) == 0) = false := by simp; intro h; rw [h] at l0; simp at l0
  have t1 : ((y.length : Int) == 0) = false := by simp; intro h; rw [h] at l1; simp at l1
  clear hx hy w0 w1 h0 h1
  by_cases hl : y.length < x.length
  · have V' := V hl
    have t2 : decide ((y.length : Int) < (x.length : Int)) = true := by simp; omega
    have S := Lib.hid (fun u v W (hu : Sk .u8 W u y) (hv : Sk .u8 W v (x.take y.length)) => bsame_no y (x.take y.length) u v W V' hu hv)
    clear U V V' l0 l1
    go_enter Try.func7, Try.ntmps7
    go_wp2_with fail
    refine (P.out _).mono ?_
    rintro e w1 ⟨u, rfl, hu, hg1⟩
    obtain ⟨ad, cap, u', rfl, sl, hu'⟩ := cut_h hu y.length (by omega)
    have HU := Lib.hid hu'
    have HG1 := Lib.hid hg1
    clear hu hu' hg1
    go_wp2_with fail
    refine (Q.out _).mono ?_
    rintro e w2 ⟨v, rfl, hv, hg2⟩
    have HV := Lib.hid hv
    obtain ⟨ad', cap', rfl, _⟩ := hv.len
    have HU2 := Lib.hid (HU.out.later hg2)
    have HG2 := Lib.hid (gtrans HG1.out hg2)
    clear hv hg2
    go_wp2_with fail
    refine (A.out _).mono ?_
    rintro e w3 ⟨rfl, hg3⟩
    have HU3 := Lib.hid (HU2.out.later hg3)
    have HV3 := Lib.hid (HV.out.later hg3)
    have HG3 := Lib.hid (gtrans HG2.out hg3)
    clear hg3
    go_wp2_with fail
    refine (S.out _ _ _ HV3.out HU3.out).mono ?_
    rintro e w4 ⟨rfl, hg4⟩
    go_wp2_with fail
    go_ret
    exact ⟨rfl, gtrans HG3.out hg4⟩
  · have t2 : decide ((y.length : Int) < (x.length : Int)) = false := by simp; omega
    obtain ⟨B, hB⟩ : ∃ B : Bool, B = decide (x = y.take x.length) := ⟨_, rfl⟩
    have S := Lib.hid (fun u v W (hu : Sk .u8 W u x) (hv : Sk .u8 W v (y.take x.length)) => bsame_any x (y.take x.length) u v W hu hv)
    rw [← hB] at S
    have t3 : (B == (a0 == a1)) = true := by
      rw [hB]
      by_cases h : a0 = a1
      · rw [decide_eq_true (U.2 h), h]; simp
      · rw [decide_eq_false (fun g => h (U.1 g))]; simp [h]
    clear U V hB l0 l1
    go_enter Try.func7, Try.ntmps7
    go_wp2_with fail
    refine (P.out _).mono ?_
    rintro e w1 ⟨u, rfl, hu, hg1⟩
    have HU := Lib.hid hu
    obtain ⟨ad, cap, rfl, _⟩ := hu.len
    have HG1 := Lib.hid hg1
    clear hu hg1
    go_wp2_with fail
    refine (Q.out _).mono ?_
    rintro e w2 ⟨v, rfl, hv, hg2⟩
    obtain ⟨ad', cap', v', rfl, sl, hv'⟩ := cut_h hv x.length (by omega)
    have HV := Lib.hid hv'
    have HU2 := Lib.hid (HU.out.later hg2)
    have HG2 := Lib.hid (gtrans HG1.out hg2)
    clear hv hv' hg2
    go_wp2_with fail
    refine (A.out _).mono ?_
    rintro e w3 ⟨rfl, hg3⟩
    have HU3 := Lib.hid (HU2.out.later hg3)
    have HV3 := Lib.hid (HV.out.later hg3)
    have HG3 := Lib.hid (gtrans HG2.out hg3)
    clear hg3
    go_wp2_with fail
    refine (S.out _ _ _ HU3.out HV3.out).mono ?_
    rintro e w4 ⟨rfl, hg4⟩
    go_wp2_with fail
    go_ret
    exact ⟨rfl, gtrans HG3.out hg4⟩

set_option maxRecDepth 100000 in
theorem lifted (os : Os) (started : os.Started) (H : Type) (enc : TypeId × Value → H) :
    ReturnsInHanded {} Try.checked os 7 .any (Rows.wireApartSpec.pre6 enc Try.prog Try.f7 Rows.wireApartRow.domain false) (Rows.wireApartSpec.post enc Try.prog Try.f7 false true false false) := by
  refine returnsInHanded_of_change (C := Try.checked) own started (by kernel_rfl) Try.func7
    (ChangeSpec.witness6 (enc := enc) (C := Try.checked) false ⟨#[], #[.int .i64 0, .int .i64 0], []⟩ 8 (by kernel_rfl) (by kernel_rfl) (by kernel_rfl) (by kernel_rfl)) ?_
  intro W base args ds gs before hval0 hW hcnd _
  have hval : ∀ (j : Nat) t v, Try.f7.params[j]? = some t → args[j]? = some v → Value.okWide Try.prog W .any base t v := hval0
  have hW' := hW
  obtain ⟨p, q, hA0, hV, rfl, hfz, hnd⟩ := hW
  have hA : DataW.TrodAll enc Try.prog W 0 (fun _ => true) true Try.f7.params.toList args.toList ds p := hA0
  rw [Try.params7] at hA hval
  obtain ⟨v0, vs0, d0, ds0, p0, q0, hargs, rfl, rfl, h0, r0⟩ := trodAll_cons hA
  obtain ⟨v1, vs1, d1, ds1, p1, q1, rfl, rfl, rfl, h1, r1⟩ := trodAll_cons r0
  obtain ⟨rfl, rfl, rfl⟩ := trodAll_nil r1
  obtain rfl : args = #[v0, v1] := by cases args; simp_all
  obtain ⟨rfl, rfl⟩ := trodVars_none hV
  obtain ⟨a0, rfl, rfl, rfl, w0⟩ := open_int Try.underlying3 (hval 0 3 v0 rfl rfl) h0
  obtain ⟨a1, rfl, rfl, rfl, w1⟩ := open_int Try.underlying3 (hval 1 3 v1 rfl rfl) h1
  clear hA0 hval0
  simp only [List.append_nil] at hW'
  refine (walk a0 a1 w0 w1 W).mono fun e W' ⟨he, hg⟩ => ?_
  subst he
  exact ⟨_, rfl, post_bare hW' (fun _ _ _ => (trodAll_cons_mk (shut_bool Try.underlying4 _) trodAll_mk0)) (fun sp => (trodAll_cons_mk (shut_int Try.underlying3 w0) (trodAll_cons_mk (shut_int Try.underlying3 w1) trodAll_mk0))) (fun _ => rfl) hg
    (ok_one (by kernel_rfl) rfl (okWide_bool_mk Try.underlying4 _))⟩

theorem over : Rows.wireApartRow.holds Try.pinned (OpenSpec.ofChange Rows.wireApartSpec) :=
  OpenClaim.holds_of_wide 7 Try.f7 rfl rfl rfl rfl rfl rfl rfl ⟨rfl, rfl, rfl, rfl, rfl⟩ rfl rfl rfl rfl rfl (by kernel_rfl) Try.func7 (by kernel_rfl)
    (of_decide_eq_true (by kernel_rfl)) (by unfold Func.isWrapper; first | (rw [if_pos (by decide +kernel)]; kernel_rfl) | (rw [if_neg (by decide +kernel)]; exact ⟨rfl, rfl⟩))
    (fun os started H enc _ => lifted os started H enc)

/-- The statement. -/
theorem proved : Rows.WireApartSaid :=
  over
#print axioms proved
end Go.Proofs.Ytmpmkjoabplfoaa.wireApart
