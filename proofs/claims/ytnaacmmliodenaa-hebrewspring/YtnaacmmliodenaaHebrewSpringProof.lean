/-
  The statement HebrewSpring: for any int that is a year that is reckoned, from 15 Nisan to the next new year there are 163 days; of others nothing is told. Conditions: none.
-/
import Derived.Test.YtnaacmmliodenaaRows
import Derived.WalkKit
import Derived.ProofKit
import Derived.OpenShut
import Derived.Test.YtnaacmmliodenaaRo
import Derived.ShutString
namespace Go.Proofs.Ytnaacmmliodenaa.hebrewSpring
open Go.ChangeShapes Go.WideShapes Go.ChangeAt Go.RowKit
open Go.ChangeMaps (open_string shut_string)
open Go.Proofs.Ytnaacmmliodenaa.Divs Go.Proofs.Ytnaacmmliodenaa.Grow Go.Proofs.Ytnaacmmliodenaa.Mol Go.Proofs.Ytnaacmmliodenaa.Hebrew
open Go.Proofs.Ytnaacmmliodenaa.Year (lh mh pt md mp p1 p2 po dl ny yl)
open Go.Proofs.Ytnaacmmliodenaa.Heb (hd ha ups)
set_option linter.unusedVariables false

theorem own : ownKnob Try.prog.godebug = none := by kernel_rfl

set_option maxHeartbeats 1000000 in
theorem walk (a0 : Int) (w0 : (Lit.int .i64 a0).wf = true) (w : World) :
    Calls Try.prog 8 #[.int .i64 a0] w fun e w' => e = .returned (.bool true) ∧ Later w w' := by
  have AW := Lib.hid awake_any
  by_cases hb : a0 < 3762 ∨ 9999 < a0
  · have N1 := Lib.hid (fun W => day_year a0 8 15 W hb)
    have N2 := Lib.hid (fun W => same_g (newyear_no a0 W hb))
    have N3 := Lib.hid (fun W => same_g (len_no a0 W hb))
    clear hb
    go_enter Try.func8, Try.ntmps8
    go_wp2_with fail
    refine (N1.out _).mono ?_
    rintro e w1 ⟨rfl, hg1⟩
    go_wp2_with fail
    refine (N2.out _).mono ?_
    rintro e w2 ⟨rfl, hg2⟩
    go_wp2_with fail
    refine (N3.out _).mono ?_
    rintro e w3 ⟨rfl, hg3⟩
    go_wp2_with fail
    refine (AW.out _).mono ?_
    rintro e w4 ⟨rfl, hg4⟩
    go_wp2_with fail
    go_ret
    exact ⟨rfl, gtrans hg1 (gtrans hg2 (gtrans hg3 hg4))⟩
  · have h1 : 3762 ≤ a0 := by omega
    have h2 : a0 ≤ 9999 := by omega
    clear hb
    have d8 := Heb.hd_in (yl a0) (lh a0) 8 (by omega) (by omega) (by omega)
    have d1 := Heb.hd_in (yl a0) (lh a0) 1 (by omega) (by omega) (by omega)
    have K1 := Lib.hid (fun W => day_yes a0 8 15 W h1 h2 (by omega) (by omega))
    have K2 := Lib.hid (fun W => newyear_yes a0 W h1 h2)
    have K3 := Lib.hid (fun W => len_yes a0 W h1 h2)
    have K4 : Hid (∀ W, Calls Try.prog 12 #[.agg #[.int .i64 a0, .int .i64 1, .int .i64 1]] W fun e w' => e = .returned (.tuple #[.int .i64 (ny a0), .int .i64 0]) ∧ Later W w') := fun W => by
      have k := day_yes a0 1 1 W h1 h2 (by omega) (by omega)
      rw [show ny a0 + ha (yl a0) (lh a0) 1 + 1 - 1 = ny a0 by rw [Heb.ha_one]; omega] at k
      exact k
    have b1 := Year.ny_bd a0 (by omega) (by omega)
    have b2 := Heb.yl_bd a0
    have b3 := Heb.ha_bd (yl a0) (lh a0) 8
    have t : (ny a0 + yl a0 - (ny a0 + ha (yl a0) (lh a0) 8 + 15 - 1) == 163) = true := beq_iff_eq.2 (by have := Heb.ha_spring a0; omega)
    clear d8 d1 h1 h2
    go_enter Try.func8, Try.ntmps8
    go_wp2_with fail
    refine (K1.out _).mono ?_
    rintro e w1 ⟨rfl, hg1⟩
    go_wp2_with fail
    refine (K2.out _).mono ?_
    rintro e w2 ⟨rfl, hg2⟩
    go_wp2_with fail
    refine (K3.out _).mono ?_
    rintro e w3 ⟨rfl, hg3⟩
    go_wp2_with fail
    refine (K4.out _).mono ?_
    rintro e w4 ⟨rfl, hg4⟩
    go_wp2_with fail
    refine (AW.out _).mono ?_
    rintro e w5 ⟨rfl, hg5⟩
    go_wp2_with fail
    go_ret
    exact ⟨rfl, gtrans hg1 (gtrans hg2 (gtrans hg3 (gtrans hg4 hg5)))⟩

set_option maxRecDepth 100000 in
theorem lifted (os : Os) (started : os.Started) (H : Type) (enc : TypeId × Value → H) :
    ReturnsInHanded {} Try.checked os 8 .any (Rows.hebrewSpringSpec.pre6 enc Try.prog Try.f8 Rows.hebrewSpringRow.domain false) (Rows.hebrewSpringSpec.post enc Try.prog Try.f8 false true false false) := by
  refine returnsInHanded_of_change (C := Try.checked) own started (by kernel_rfl) Try.func8
    (ChangeSpec.witness6 (enc := enc) (C := Try.checked) false ⟨#[], #[.int .i64 0], []⟩ 8 (by kernel_rfl) (by kernel_rfl) (by kernel_rfl) (by kernel_rfl)) ?_
  intro W base args ds gs before hval0 hW hcnd _
  have hval : ∀ (j : Nat) t v, Try.f8.params[j]? = some t → args[j]? = some v → Value.okWide Try.prog W .any base t v := hval0
  have hW' := hW
  obtain ⟨p, q, hA0, hV, rfl, hfz, hnd⟩ := hW
  have hA : DataW.TrodAll enc Try.prog W 0 (fun _ => true) true Try.f8.params.toList args.toList ds p := hA0
  rw [Try.params8] at hA hval
  obtain ⟨v0, vs0, d0, ds0, p0, q0, hargs, rfl, rfl, h0, r0⟩ := trodAll_cons hA
  obtain ⟨rfl, rfl, rfl⟩ := trodAll_nil r0
  obtain rfl : args = #[v0] := by cases args; simp_all
  obtain ⟨rfl, rfl⟩ := trodVars_none hV
  obtain ⟨a0, rfl, rfl, rfl, w0⟩ := open_int Try.underlying3 (hval 0 3 v0 rfl rfl) h0
  clear hA0 hval0
  simp only [List.append_nil] at hW'
  refine (walk a0 w0 W).mono fun e W' ⟨he, hg⟩ => ?_
  subst he
  exact ⟨_, rfl, post_bare hW' (fun _ _ _ => (trodAll_cons_mk (shut_bool Try.underlying4 _) trodAll_mk0)) (fun sp => (trodAll_cons_mk (shut_int Try.underlying3 w0) trodAll_mk0)) (fun _ => rfl) hg
    (ok_one (by kernel_rfl) rfl (okWide_bool_mk Try.underlying4 _))⟩

theorem over : Rows.hebrewSpringRow.holds Try.pinned (OpenSpec.ofChange Rows.hebrewSpringSpec) :=
  OpenClaim.holds_of_wide 8 Try.f8 rfl rfl rfl rfl rfl rfl rfl ⟨rfl, rfl, rfl, rfl, rfl⟩ rfl rfl rfl rfl rfl (by kernel_rfl) Try.func8 (by kernel_rfl)
    (of_decide_eq_true (by kernel_rfl)) (by unfold Func.isWrapper; first | (rw [if_pos (by decide +kernel)]; kernel_rfl) | (rw [if_neg (by decide +kernel)]; exact ⟨rfl, rfl⟩))
    (fun os started H enc _ => lifted os started H enc)

/-- The statement. -/
theorem proved : Rows.HebrewSpringSaid :=
  over
#print axioms proved
end Go.Proofs.Ytnaacmmliodenaa.hebrewSpring
