/-
  The statement MoladYears: for any int, Delay, NewYear and Len refuse a year that is not from 3762 to 9999, and else are the document's. Conditions: none.
-/
import Derived.Test.YtkdcfjaamahakaaRows
import Derived.WalkKit
import Derived.ProofKit
import Derived.OpenShut
import Derived.Test.YtkdcfjaamahakaaRefLen
import Derived.ShutString
namespace Go.Proofs.Ytkdcfjaamahakaa.moladYears
open Go.ChangeShapes Go.WideShapes Go.ChangeAt Go.RowKit
open Go.ChangeMaps (open_string shut_string)
open Go.Proofs.Ytkdcfjaamahakaa.Divs Go.Proofs.Ytkdcfjaamahakaa.Grow Go.Proofs.Ytkdcfjaamahakaa.Mol
open Go.Proofs.Ytkdcfjaamahakaa.Year (lh mh pt md mp p1 p2 po dl ny yl)
set_option linter.unusedVariables false

theorem own : ownKnob Try.prog.godebug = none := by kernel_rfl

theorem walk (a0 : Int) (w0 : (Lit.int .i64 a0).wf = true) (w : World) :
    Calls Try.prog 4 #[.int .i64 a0] w fun e w' => e = .returned (.bool true) ∧ Grown w w' := by
  obtain ⟨ha0, ha1⟩ := bounds_i64 w0
  clear w0
  have AW := Lib.hid awake_any
  have KL := Lib.hid (fun W => drew_g (leap_any a0 W ha0 ha1))
  by_cases hb : a0 < 3762 ∨ 9999 < a0
  · have N1 := Lib.hid (fun W => same_g (months_no a0 W hb))
    have N2 := Lib.hid (fun W => same_g (molad_no a0 W hb))
    have N3 := Lib.hid (fun W => same_g (delay_no a0 W hb))
    have N4 := Lib.hid (fun W => same_g (newyear_no a0 W hb))
    have N5 := Lib.hid (fun W => same_g (len_no a0 W hb))
    have N6 := Lib.hid (fun W => same_g (may_no a0 W hb))
    clear hb
    go_enter Try.func4, Try.ntmps4
    go_wp2_with fail
    refine (N3.out _).mono ?_
    rintro e w1 ⟨rfl, hg1⟩
    go_wp2_with fail
    refine (N4.out _).mono ?_
    rintro e w2 ⟨rfl, hg2⟩
    go_wp2_with fail
    refine (N5.out _).mono ?_
    rintro e w3 ⟨rfl, hg3⟩
    go_wp2_with fail
    refine (N6.out _).mono ?_
    rintro e w4 ⟨rfl, hg4⟩
    go_wp2_with fail
    refine (AW.out _).mono ?_
    rintro e w5 ⟨rfl, hg5⟩
    go_wp2_with fail
    go_ret
    exact ⟨rfl, gtrans hg1 (gtrans hg2 (gtrans hg3 (gtrans hg4 hg5)))⟩
  · have h1 : 3762 ≤ a0 := by omega
    have h2 : a0 ≤ 9999 := by omega
    clear hb
    have Y1 := Lib.hid (fun W => months_yes a0 W h1 h2)
    have Y2 := Lib.hid (fun W => molad_yes a0 W h1 h2)
    have Y3 := Lib.hid (fun W => delay_yes a0 W h1 h2)
    have Y4 := Lib.hid (fun W => newyear_yes a0 W h1 h2)
    have Y5 := Lib.hid (fun W => len_yes a0 W h1 h2)
    have Y6 := Lib.hid (fun W => same_g (may_yes a0 W h1 h2))
    have R1 := Lib.hid (fun W => rdelay_any a0 W (by omega) (by omega))
    have R2 := Lib.hid (fun W => rnewyear_any a0 W (by omega) (by omega))
    have R3 := Lib.hid (fun W => rlen_any a0 W (by omega) (by omega))
    have t1 : (dl a0 == dl a0) = true := by simp
    have t2 : (ny a0 == ny a0) = true := by simp
    have t3 : (yl a0 == yl a0) = true := by simp
    go_enter Try.func4, Try.ntmps4
    go_wp2_with fail
    refine (Y3.out _).mono ?_
    rintro e w1 ⟨rfl, hg1⟩
    go_wp2_with fail
    refine (Y4.out _).mono ?_
    rintro e w2 ⟨rfl, hg2⟩
    go_wp2_with fail
    refine (Y5.out _).mono ?_
    rintro e w3 ⟨rfl, hg3⟩
    go_wp2_with fail
    refine (Y6.out _).mono ?_
    rintro e w4 ⟨rfl, hg4⟩
    go_wp2_with fail
    refine (AW.out _).mono ?_
    rintro e w5 ⟨rfl, hg5⟩
    go_wp2_with fail
    refine (R1.out _).mono ?_
    rintro e w6 ⟨rfl, hg6⟩
    go_wp2_with fail
    refine (R2.out _).mono ?_
    rintro e w7 ⟨rfl, hg7⟩
    go_wp2_with fail
    refine (R3.out _).mono ?_
    rintro e w8 ⟨rfl, hg8⟩
    go_wp2_with fail
    go_ret
    exact ⟨rfl, gtrans hg1 (gtrans hg2 (gtrans hg3 (gtrans hg4 (gtrans hg5 (gtrans hg6 (gtrans hg7 hg8))))))⟩

set_option maxRecDepth 100000 in
theorem lifted (os : Os) (started : os.Started) (H : Type) (enc : TypeId × Value → H) :
    ReturnsInHanded {} Try.checked os 4 .any (Rows.moladYearsSpec.pre6 enc Try.prog Try.f4 Rows.moladYearsRow.domain false) (Rows.moladYearsSpec.post enc Try.prog Try.f4 false true false false) := by
  refine returnsInHanded_of_change (C := Try.checked) own started (by kernel_rfl) Try.func4
    (ChangeSpec.witness6 (enc := enc) (C := Try.checked) false ⟨#[], #[.int .i64 0], []⟩ 8 (by kernel_rfl) (by kernel_rfl) (by kernel_rfl) (by kernel_rfl)) ?_
  intro W base args ds gs before hval0 hW hcnd _
  have hval : ∀ (j : Nat) t v, Try.f4.params[j]? = some t → args[j]? = some v → Value.okWide Try.prog W .any base t v := hval0
  have hW' := hW
  obtain ⟨p, q, hA0, hV, rfl, hfz, hnd⟩ := hW
  have hA : DataW.TrodAll enc Try.prog W 0 (fun _ => true) true Try.f4.params.toList args.toList ds p := hA0
  rw [Try.params4] at hA hval
  obtain ⟨v0, vs0, d0, ds0, p0, q0, hargs, rfl, rfl, h0, r0⟩ := trodAll_cons hA
  obtain ⟨rfl, rfl, rfl⟩ := trodAll_nil r0
  obtain rfl : args = #[v0] := by cases args; simp_all
  obtain ⟨rfl, rfl⟩ := trodVars_none hV
  obtain ⟨a0, rfl, rfl, rfl, w0⟩ := open_int Try.underlying3 (hval 0 3 v0 rfl rfl) h0
  clear hA0 hval0
  simp only [List.append_nil] at hW'
  refine (walk a0 w0 W).mono fun e W' ⟨he, hg⟩ => ?_
  subst he
  exact ⟨_, rfl, post_of_same (pa := []) (pv := []) hW' (fun _ _ _ => (trodAll_cons_mk (shut_bool Try.underlying4 _) trodAll_mk0)) (fun sp _ => (trodAll_cons_mk (shut_int Try.underlying3 w0) trodAll_mk0)) (fun _ _ => rfl) rfl
    (hg.frame _) hg.2.1 (ok_one (by kernel_rfl) rfl (okWide_bool_mk Try.underlying4 _))⟩

theorem over : Rows.moladYearsRow.holds Try.pinned (OpenSpec.ofChange Rows.moladYearsSpec) :=
  OpenClaim.holds_of_wide 4 Try.f4 rfl rfl rfl rfl rfl rfl rfl ⟨rfl, rfl, rfl, rfl, rfl⟩ rfl rfl rfl rfl rfl (by kernel_rfl) Try.func4 (by kernel_rfl)
    (of_decide_eq_true (by kernel_rfl)) (by unfold Func.isWrapper; first | (rw [if_pos (by decide +kernel)]; kernel_rfl) | (rw [if_neg (by decide +kernel)]; exact ⟨rfl, rfl⟩))
    (fun os started H enc _ => lifted os started H enc)

/-- The statement. -/
theorem proved : Rows.MoladYearsSaid :=
  over
#print axioms proved
end Go.Proofs.Ytkdcfjaamahakaa.moladYears
