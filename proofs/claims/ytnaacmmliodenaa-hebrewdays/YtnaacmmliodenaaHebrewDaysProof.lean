/-
  The statement HebrewDays: for any three ints as a date, its number is the document's, or none where there is no such date. Conditions: none.
-/
import Derived.Test.YtnaacmmliodenaaRows
import Derived.WalkKit
import Derived.ProofKit
import Derived.OpenShut
import Derived.Test.YtnaacmmliodenaaRo
import Derived.ShutString
import Derived.Lib.SmallJoins
namespace Go.Proofs.Ytnaacmmliodenaa.hebrewDays
open Go.ChangeShapes Go.WideShapes Go.ChangeAt Go.RowKit
open Go.ChangeMaps (open_string shut_string)
open Go.Joins
open Go.Proofs.Ytnaacmmliodenaa.Divs Go.Proofs.Ytnaacmmliodenaa.Grow Go.Proofs.Ytnaacmmliodenaa.Mol Go.Proofs.Ytnaacmmliodenaa.Hebrew
open Go.Proofs.Ytnaacmmliodenaa.Year (lh mh pt md mp p1 p2 po dl ny yl)
open Go.Proofs.Ytnaacmmliodenaa.Heb (hd ha ups)
set_option linter.unusedVariables false

theorem own : ownKnob Try.prog.godebug = none := by kernel_rfl

theorem day_none (y m d : Int) (w : World) (h : ¬ (1 ≤ d ∧ d ≤ rd y m)) :
    Calls Try.prog 12 #[.agg #[.int .i64 y, .int .i64 m, .int .i64 d]] w fun e w' => e = .returned (.tuple #[.int .i64 0, .int .i64 40]) ∧ Later w w' := by
  by_cases hb : y < 3762 ∨ 9999 < y
  · exact day_year y m d w hb
  · rw [rd_yes y m (by omega) (by omega)] at h
    by_cases hd : d < 1
    · exact day_low y m d w (by omega) (by omega) hd
    · exact day_high y m d w (by omega) (by omega) (by omega) (by omega)

theorem rmay_none (y m d : Int) (w : World) (h : ¬ (1 ≤ d ∧ d ≤ rd y m)) :
    Calls Try.prog 13 #[.agg #[.int .i64 y, .int .i64 m, .int .i64 d]] w fun e w' => e = .returned (.bool false) ∧ Later w w' := by
  by_cases hd : d < 1
  · exact rmay_low y m d w hd
  · exact rmay_any y m d false w (by omega) (decide_eq_false (by omega))

set_option maxHeartbeats 1000000 in
theorem walk (a0 a1 a2 : Int) (w0 : (Lit.int .i64 a0).wf = true) (w1 : (Lit.int .i64 a1).wf = true) (w2 : (Lit.int .i64 a2).wf = true) (w : World) :
    Calls Try.prog 4 #[.agg #[.int .i64 a0, .int .i64 a1, .int .i64 a2]] w fun e w' => e = .returned (.bool true) ∧ Later w w' := by
  have AW := Lib.hid awake_any
  clear w0 w1 w2
  by_cases hm : 1 ≤ a2 ∧ a2 ≤ rd a0 a1
  · obtain ⟨d1, d2⟩ := hm
    obtain ⟨h1, h2, m1, m2⟩ := rd_in a0 a1 (by omega)
    have bd := rd_bd a0 a1
    have M := Lib.hid (fun W => rmay_any a0 a1 a2 true W d1 (decide_eq_true d2))
    have R := Lib.hid (fun W => rday_any a0 a1 a2 W h1 h2 m1 m2 d1 (by omega))
    rw [rd_yes a0 a1 h1 h2] at d2
    have K := Lib.hid (fun W => day_yes a0 a1 a2 W h1 h2 d1 d2)
    have t : (ny a0 + ha (yl a0) (lh a0) a1 + a2 - 1 == ny a0 + a2 - 1 + ha (yl a0) (lh a0) a1) = true := beq_iff_eq.2 (by omega)
    clear d1 d2 h1 h2 m1 m2 bd
    go_enter Try.func4, Try.ntmps4
    go_wp2_with fail
    refine (K.out _).mono ?_
    rintro e w1 ⟨rfl, hg1⟩
    have c0 := cell4 hg1 0 rfl
    have c1 := cell4 hg1 1 rfl
    have c2 := cell4 hg1 2 rfl
    go_wp2_with fail
    refine (M.out _).mono ?_
    rintro e w2 ⟨rfl, hg2⟩
    go_wp2_with fail
    refine (AW.out _).mono ?_
    rintro e w3 ⟨rfl, hg3⟩
    have e0 := gsome (gtrans hg2 hg3) c0
    have e1 := gsome (gtrans hg2 hg3) c1
    have e2 := gsome (gtrans hg2 hg3) c2
    go_wp2_with fail
    refine (R.out _).mono ?_
    rintro e w4 ⟨rfl, hg4⟩
    go_wp2_with fail
    go_ret
    exact ⟨rfl, gtrans ((Later.refl w).alloc _ _) (gtrans hg1 (gtrans hg2 (gtrans hg3 hg4)))⟩
  · have M := Lib.hid (fun W => rmay_none a0 a1 a2 W hm)
    have K := Lib.hid (fun W => day_none a0 a1 a2 W hm)
    clear hm
    go_enter Try.func4, Try.ntmps4
    go_wp2_with fail
    refine (K.out _).mono ?_
    rintro e w1 ⟨rfl, hg1⟩
    have c0 := cell4 hg1 0 rfl
    have c1 := cell4 hg1 1 rfl
    have c2 := cell4 hg1 2 rfl
    go_wp2_with fail
    refine (M.out _).mono ?_
    rintro e w2 ⟨rfl, hg2⟩
    go_wp2_with fail
    refine (AW.out _).mono ?_
    rintro e w3 ⟨rfl, hg3⟩
    go_wp2_with fail
    go_ret
    exact ⟨rfl, gtrans ((Later.refl w).alloc _ _) (gtrans hg1 (gtrans hg2 hg3))⟩

theorem cells26 : Try.prog.cellsOf 26 = 3 := by kernel_rfl

set_option maxRecDepth 100000 in
theorem lifted (os : Os) (started : os.Started) (H : Type) (enc : TypeId × Value → H) :
    ReturnsInHanded {} Try.checked os 4 .any (Rows.hebrewDaysSpec.pre6 enc Try.prog Try.f4 Rows.hebrewDaysRow.domain false) (Rows.hebrewDaysSpec.post enc Try.prog Try.f4 false true false false) := by
  refine returnsInHanded_of_change (C := Try.checked) own started (by kernel_rfl) Try.func4
    (ChangeSpec.witness6 (enc := enc) (C := Try.checked) false ⟨#[], #[.agg #[.int .i64 0, .int .i64 0, .int .i64 0]], []⟩ 8 (by kernel_rfl) (by kernel_rfl) (by kernel_rfl) (by kernel_rfl)) ?_
  intro W base args ds gs before hval0 hW hcnd _
  have hval : ∀ (j : Nat) t v, Try.f4.params[j]? = some t → args[j]? = some v → Value.okWide Try.prog W .any base t v := hval0
  have hW' := hW
  obtain ⟨p, q, hA0, hV, rfl, hfz, hnd⟩ := hW
  have hA : DataW.TrodAll enc Try.prog W 0 (fun _ => true) true Try.f4.params.toList args.toList ds p := hA0
  rw [Try.params4] at hA hval
  obtain ⟨v0, vs0, d0, ds0, p0, q0, hargs, rfl, rfl, h0, r0⟩ := trodAll_cons hA
  obtain ⟨rfl, rfl, rfl⟩ := trodAll_nil r0
  obtain rfl : args = #[v0] := by cases args; simp_all
  obtain ⟨rfl, rfl⟩ := trodVars_none hV
  obtain ⟨c00, c01, c02, y00, y01, y02, n0, rfl, rfl, rfl, hy00, hy01, hy02⟩ := open_agg3 Try.underlying26 (by kernel_rfl) cells26 (hval 0 26 v0 rfl rfl) h0
  obtain ⟨b00, e00, rfl, w00⟩ := DataW.trod_int Try.underlying3 hy00
  obtain ⟨b01, e01, rfl, w01⟩ := DataW.trod_int Try.underlying3 hy01
  obtain ⟨b02, e02, rfl, w02⟩ := DataW.trod_int Try.underlying3 hy02
  simp only [List.cons.injEq, and_true] at e00 e01 e02
  subst e00 e01 e02
  clear hA0 hval0
  simp only [List.append_nil] at hW'
  refine (walk b00 b01 b02 w00 w01 w02 W).mono fun e W' ⟨he, hg⟩ => ?_
  subst he
  exact ⟨_, rfl, post_bare hW' (fun _ _ _ => (trodAll_cons_mk (shut_bool Try.underlying4 _) trodAll_mk0)) (fun sp => (trodAll_cons_mk (shut_agg3 (y0 := (.lit (.int .i64 b00), [])) (y1 := (.lit (.int .i64 b01), [])) (y2 := (.lit (.int .i64 b02), [])) Try.underlying26 (by kernel_rfl) cells26 ⟨1, by simp [DataW.trod, Try.underlying3, w00]⟩ ⟨1, by simp [DataW.trod, Try.underlying3, w01]⟩ ⟨1, by simp [DataW.trod, Try.underlying3, w02]⟩) trodAll_mk0)) (fun _ => rfl) hg
    (ok_one (by kernel_rfl) rfl (okWide_bool_mk Try.underlying4 _))⟩

theorem over : Rows.hebrewDaysRow.holds Try.pinned (OpenSpec.ofChange Rows.hebrewDaysSpec) :=
  OpenClaim.holds_of_wide 4 Try.f4 rfl rfl rfl rfl rfl rfl rfl ⟨rfl, rfl, rfl, rfl, rfl⟩ rfl rfl rfl rfl rfl (by kernel_rfl) Try.func4 (by kernel_rfl)
    (of_decide_eq_true (by kernel_rfl)) (by unfold Func.isWrapper; first | (rw [if_pos (by decide +kernel)]; kernel_rfl) | (rw [if_neg (by decide +kernel)]; exact ⟨rfl, rfl⟩))
    (fun os started H enc _ => lifted os started H enc)

/-- The statement. -/
theorem proved : Rows.HebrewDaysSaid :=
  over
#print axioms proved
end Go.Proofs.Ytnaacmmliodenaa.hebrewDays
