/-
  The statement HebrewDates: for any int, the date of that number is the document's, or none where it has none. Conditions: none.
-/
import Derived.Test.YtnaacmmliodenaaRows
import Derived.WalkKit
import Derived.ProofKit
import Derived.OpenShut
import Derived.Test.YtnaacmmliodenaaRo
import Derived.ShutString
namespace Go.Proofs.Ytnaacmmliodenaa.hebrewDates
open Go.ChangeShapes Go.WideShapes Go.ChangeAt Go.RowKit
open Go.ChangeMaps (open_string shut_string)
open Go.Proofs.Ytnaacmmliodenaa.Divs Go.Proofs.Ytnaacmmliodenaa.Grow Go.Proofs.Ytnaacmmliodenaa.Mol Go.Proofs.Ytnaacmmliodenaa.Hebrew
open Go.Proofs.Ytnaacmmliodenaa.Year (lh mh pt md mp p1 p2 po dl ny yl)
open Go.Proofs.Ytnaacmmliodenaa.Heb (hd ha ups)
set_option linter.unusedVariables false

theorem own : ownKnob Try.prog.godebug = none := by kernel_rfl

set_option maxHeartbeats 1000000 in
theorem walk (a0 : Int) (w0 : (Lit.int .i64 a0).wf = true) (w : World) :
    Calls Try.prog 5 #[.int .i64 a0] w fun e w' => e = .returned (.bool true) ∧ Later w w' := by
  have AW := Lib.hid awake_any
  have F := Lib.hid rfirst_any
  have L := Lib.hid rlast_any
  clear w0
  by_cases he : a0 < ny 3762
  · have K := Lib.hid (fun W => of_early a0 W he)
    go_enter Try.func5, Try.ntmps5
    go_wp2_with fail
    refine (K.out _).mono ?_
    rintro e w1 ⟨rfl, hg1⟩
    go_wp2_with fail
    refine (F.out _).mono ?_
    rintro e w2 ⟨rfl, hg2⟩
    go_wp2_with fail
    refine (AW.out _).mono ?_
    rintro e w3 ⟨rfl, hg3⟩
    have c0 := cell4 (gtrans hg2 hg3) 0 rfl
    have c1 := cell4 (gtrans hg2 hg3) 1 rfl
    have c2 := cell4 (gtrans hg2 hg3) 2 rfl
    go_wp2_with fail
    go_ret
    exact ⟨rfl, gtrans (hg1.alloc _ _) (gtrans hg2 hg3)⟩
  · by_cases hl : ny 10000 - 1 < a0
    · have K := Lib.hid (fun W => of_late a0 W (by omega) hl)
      go_enter Try.func5, Try.ntmps5
      go_wp2_with fail
      refine (K.out _).mono ?_
      rintro e w1 ⟨rfl, hg1⟩
      go_wp2_with fail
      refine (F.out _).mono ?_
      rintro e w2 ⟨rfl, hg2⟩
      go_wp2_with fail
      refine (L.out _).mono ?_
      rintro e w3 ⟨rfl, hg3⟩
      go_wp2_with fail
      refine (AW.out _).mono ?_
      rintro e w4 ⟨rfl, hg4⟩
      have c0 := cell4 (gtrans hg2 (gtrans hg3 hg4)) 0 rfl
      have c1 := cell4 (gtrans hg2 (gtrans hg3 hg4)) 1 rfl
      have c2 := cell4 (gtrans hg2 (gtrans hg3 hg4)) 2 rfl
      go_wp2_with fail
      go_ret
      exact ⟨rfl, gtrans (hg1.alloc _ _) (gtrans hg2 (gtrans hg3 hg4))⟩
    · obtain ⟨h, h1, h2, x1, x2⟩ := Heb.year_of a0 (by omega) (by omega)
      have hn := Heb.ny_next h
      obtain ⟨m, m1, m2, y1, y2⟩ := Heb.month_of (yl h) (lh h) (a0 - ny h) (by omega) (by rw [Heb.ha_all]; omega)
      have K := Lib.hid (fun W => of_yes a0 h m W h1 h2 x1 x2 m1 m2 y1 y2)
      have R := Lib.hid (fun W => rof_any a0 h m W h1 h2 x1 x2 m1 m2 y1 y2)
      clear h1 h2 x1 x2 m1 m2 y1 y2 hn
      go_enter Try.func5, Try.ntmps5
      go_wp2_with fail
      refine (K.out _).mono ?_
      rintro e w1 ⟨rfl, hg1⟩
      go_wp2_with fail
      refine (F.out _).mono ?_
      rintro e w2 ⟨rfl, hg2⟩
      go_wp2_with fail
      refine (L.out _).mono ?_
      rintro e w3 ⟨rfl, hg3⟩
      go_wp2_with fail
      have c0 := gw_cell (cell4 (gtrans hg2 hg3) 0 rfl)
      have c1 := gw_cell (cell4 (gtrans hg2 hg3) 1 rfl)
      have c2 := gw_cell (cell4 (gtrans hg2 hg3) 2 rfl)
      refine region_grown (by kernel_rfl) (by kernel_rfl) ?_
      repeat (go_big_quiet_step (first
        | (go_at_call 9; exact in_grown (AW.out _))
        | (go_at_call 18; exact in_grown (R.out _))))
      refine wpQuiet_nil (grown_end ?_)
      intro w4 hg4
      clear c0 c1 c2
      go_wp2_with fail
      go_ret
      exact ⟨rfl, gtrans (hg1.alloc _ _) (gtrans hg2 (gtrans hg3 hg4))⟩

set_option maxRecDepth 100000 in
theorem lifted (os : Os) (started : os.Started) (H : Type) (enc : TypeId × Value → H) :
    ReturnsInHanded {} Try.checked os 5 .any (Rows.hebrewDatesSpec.pre6 enc Try.prog Try.f5 Rows.hebrewDatesRow.domain false) (Rows.hebrewDatesSpec.post enc Try.prog Try.f5 false true false false) := by
  refine returnsInHanded_of_change (C := Try.checked) own started (by kernel_rfl) Try.func5
    (ChangeSpec.witness6 (enc := enc) (C := Try.checked) false ⟨#[], #[.int .i64 0], []⟩ 8 (by kernel_rfl) (by kernel_rfl) (by kernel_rfl) (by kernel_rfl)) ?_
  intro W base args ds gs before hval0 hW hcnd _
  have hval : ∀ (j : Nat) t v, Try.f5.params[j]? = some t → args[j]? = some v → Value.okWide Try.prog W .any base t v := hval0
  have hW' := hW
  obtain ⟨p, q, hA0, hV, rfl, hfz, hnd⟩ := hW
  have hA : DataW.TrodAll enc Try.prog W 0 (fun _ => true) true Try.f5.params.toList args.toList ds p := hA0
  rw [Try.params5] at hA hval
  obtain ⟨v0, vs0, d0, ds0, p0, q0, hargs, rfl, rfl, h0, r0⟩ := trodAll_cons hA
  obtain ⟨rfl, rfl, rfl⟩ := trodAll_nil r0
  obtain rfl : args = #[v0] := by cases args; simp_all
  obtain ⟨rfl, rfl⟩ := trodVars_none hV
  obtain ⟨a0, rfl, rfl, rfl, w0⟩ := open_int Try.underlying3 (hval 0 3 v0 rfl rfl) h0
  clear hA0 hval0
  simp only [List.append_nil] at hW'
  refine (walk a0 w0 W).mono fun e W' ⟨he, hg⟩ => ?_
  subst he
  exact ⟨_, rfl, post_bare hW' (fun _ _ _ => (trodAll_cons_mk (shut_bool Try.underlying4 _) trodAll_mk0)) (fun sp => (trodAll_cons_mk (shut_int Try.underlying3 w0) trodAll_mk0)) (fun _ => rfl) hg
    (ok_one (by kernel_rfl) rfl (okWide_bool_mk Try.underlying4 _))⟩

theorem over : Rows.hebrewDatesRow.holds Try.pinned (OpenSpec.ofChange Rows.hebrewDatesSpec) :=
  OpenClaim.holds_of_wide 5 Try.f5 rfl rfl rfl rfl rfl rfl rfl ⟨rfl, rfl, rfl, rfl, rfl⟩ rfl rfl rfl rfl rfl (by kernel_rfl) Try.func5 (by kernel_rfl)
    (of_decide_eq_true (by kernel_rfl)) (by unfold Func.isWrapper; first | (rw [if_pos (by decide +kernel)]; kernel_rfl) | (rw [if_neg (by decide +kernel)]; exact ⟨rfl, rfl⟩))
    (fun os started H enc _ => lifted os started H enc)

/-- The statement. -/
theorem proved : Rows.HebrewDatesSaid :=
  over
#print axioms proved
end Go.Proofs.Ytnaacmmliodenaa.hebrewDates
