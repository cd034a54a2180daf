/-
  The statement FeastLists: for any int as a year, here and abroad, the row of its feasts is the document's, or none where the year is not reckoned. Conditions: none.
-/
import Derived.Test.YtdoahnkjkbpdaaaRows
import Derived.WalkKit
import Derived.ProofKit
import Derived.OpenShut
import Derived.Test.YtdoahnkjkbpdaaaFw
import Derived.ShutString
namespace Go.Proofs.Ytdoahnkjkbpdaaa.feastLists
open Go.ChangeShapes Go.WideShapes Go.ChangeAt Go.RowKit
open Go.ChangeMaps (open_string shut_string)
open Go.Proofs.Ytdoahnkjkbpdaaa.Divs Go.Proofs.Ytdoahnkjkbpdaaa.Grow Go.Proofs.Ytdoahnkjkbpdaaa.Mol Go.Proofs.Ytdoahnkjkbpdaaa.Hebrew Go.Proofs.Ytdoahnkjkbpdaaa.Feast Go.Proofs.Ytdoahnkjkbpdaaa.Fe
open Go.Proofs.Ytdoahnkjkbpdaaa.Year (lh mh pt md mp p1 p2 po dl ny yl)
open Go.Proofs.Ytdoahnkjkbpdaaa.Heb (hd ha ups)
set_option linter.unusedVariables false

theorem own : ownKnob Try.prog.godebug = none := by kernel_rfl

set_option maxHeartbeats 1000000 in
theorem walk (a0 : Int) (a1 : Bool) (w0 : (Lit.int .i64 a0).wf = true) (w : World) :
    Calls Try.prog 4 #[.int .i64 a0, .bool a1] w fun e w' => e = .returned (.bool true) ∧ Later w w' := by
  have AW := Lib.hid awake_any
  clear w0
  by_cases hb : a0 < 3762 ∨ 9999 < a0
  · have N1 := Lib.hid (fun W => list_no a0 a1 W hb)
    have N2 := Lib.hid (fun W => same_g (may_no a0 W hb))
    clear hb
    go_enter Try.func4, Try.ntmps4
    go_wp2_with fail
    refine (N1.out _).mono ?_
    rintro e w1 ⟨rfl, hg1⟩
    go_wp2_with fail
    refine (N2.out _).mono ?_
    rintro e w2 ⟨rfl, hg2⟩
    go_wp2_with fail
    refine (AW.out _).mono ?_
    rintro e w3 ⟨rfl, hg3⟩
    go_wp2_with fail
    go_ret
    exact ⟨rfl, gtrans hg1 (gtrans hg2 hg3)⟩
  · have h1 : 3762 ≤ a0 := by omega
    have h2 : a0 ≤ 9999 := by omega
    have N1 := Lib.hid (fun W => list_lies a0 a1 W h1 h2)
    have N2 := Lib.hid (fun W => same_g (may_yes a0 W h1 h2))
    have N3 := Lib.hid (fun W => rlist_any a0 a1 W h1 h2)
    have NE := Lib.hid (fl_ne a1 (ny a0) (ny a0 + yl a0 - 163))
    have LE := Lib.hid (show (fl a1 (ny a0) (ny a0 + yl a0 - 163)).length ≤ 1000 by cases a1 <;> simp [fl])
    obtain ⟨xs, hxs⟩ : ∃ xs, fl a1 (ny a0) (ny a0 + yl a0 - 163) = xs := ⟨_, rfl⟩
    rw [hxs] at N1 N3 NE LE
    clear hb h1 h2 hxs
    go_enter Try.func4, Try.ntmps4
    go_wp2_with fail
    refine (N1.out _).mono ?_
    rintro e w1 ⟨g, cap, rfl, hl, hc, hg1⟩
    have HC := Lib.hid hc
    have HG1 := Lib.hid hg1
    clear hl hc hg1
    go_wp2_with fail
    refine (N2.out _).mono ?_
    rintro e w2 ⟨rfl, hg2⟩
    go_wp2_with fail
    refine (AW.out _).mono ?_
    rintro e w3 ⟨rfl, hg3⟩
    go_wp2_with fail
    refine (N3.out _).mono ?_
    rintro e w4 ⟨v, rfl, hF, hg4⟩
    obtain ⟨g', cap', rfl, _, hc'⟩ := hF.lies NE.out
    have HC' := Lib.hid hc'
    have HG := Lib.hid (gtrans hg2 (gtrans hg3 hg4))
    clear hF hc' hg2 hg3 hg4
    go_wp2_with fail
    refine (rsame_any xs g cap g' cap' _ LE.out (fun i a d hx => ⟨gsome HG.out (HC.out i a d hx).1, gsome HG.out (HC.out i a d hx).2⟩) HC'.out).mono ?_
    rintro e w5 ⟨rfl, hg5⟩
    go_wp2_with fail
    go_ret
    exact ⟨rfl, gtrans HG1.out (gtrans HG.out hg5)⟩

set_option maxRecDepth 100000 in
theorem lifted (os : Os) (started : os.Started) (H : Type) (enc : TypeId × Value → H) :
    ReturnsInHanded {} Try.checked os 4 .any (Rows.feastListsSpec.pre6 enc Try.prog Try.f4 Rows.feastListsRow.domain false) (Rows.feastListsSpec.post enc Try.prog Try.f4 false true false false) := by
  refine returnsInHanded_of_change (C := Try.checked) own started (by kernel_rfl) Try.func4
    (ChangeSpec.witness6 (enc := enc) (C := Try.checked) false ⟨#[], #[.int .i64 0, .bool false], []⟩ 8 (by kernel_rfl) (by kernel_rfl) (by kernel_rfl) (by kernel_rfl)) ?_
  intro W base args ds gs before hval0 hW hcnd _
  have hval : ∀ (j : Nat) t v, Try.f4.params[j]? = some t → args[j]? = some v → Value.okWide Try.prog W .any base t v := hval0
  have hW' := hW
  obtain ⟨p, q, hA0, hV, rfl, hfz, hnd⟩ := hW
  have hA : DataW.TrodAll enc Try.prog W 0 (fun _ => true) true Try.f4.params.toList args.toList ds p := hA0
  rw [Try.params4] at hA hval
  obtain ⟨v0, vs0, d0, ds0, p0, q0, hargs, rfl, rfl, h0, r0⟩ := trodAll_cons hA
  obtain ⟨v1, vs1, d1, ds1, p1, q1, rfl, rfl, rfl, h1, r1⟩ := trodAll_cons r0
  obtain ⟨rfl, rfl, rfl⟩ := trodAll_nil r1
  obtain rfl : args = #[v0, v1] := by cases args; simp_all
  obtain ⟨rfl, rfl⟩ := trodVars_none hV
  obtain ⟨a0, rfl, rfl, rfl, w0⟩ := open_int Try.underlying3 (hval 0 3 v0 rfl rfl) h0
  obtain ⟨a1, rfl, rfl, rfl⟩ := open_bool Try.underlying4 (hval 1 4 v1 rfl rfl) h1
  clear hA0 hval0
  simp only [List.append_nil] at hW'
  refine (walk a0 a1 w0  W).mono fun e W' ⟨he, hg⟩ => ?_
  subst he
  exact ⟨_, rfl, post_bare hW' (fun _ _ _ => (trodAll_cons_mk (shut_bool Try.underlying4 _) trodAll_mk0)) (fun sp => (trodAll_cons_mk (shut_int Try.underlying3 w0) (trodAll_cons_mk (shut_bool Try.underlying4 a1) trodAll_mk0))) (fun _ => rfl) hg
    (ok_one (by kernel_rfl) rfl (okWide_bool_mk Try.underlying4 _))⟩

theorem over : Rows.feastListsRow.holds Try.pinned (OpenSpec.ofChange Rows.feastListsSpec) :=
  OpenClaim.holds_of_wide 4 Try.f4 rfl rfl rfl rfl rfl rfl rfl ⟨rfl, rfl, rfl, rfl, rfl⟩ rfl rfl rfl rfl rfl (by kernel_rfl) Try.func4 (by kernel_rfl)
    (of_decide_eq_true (by kernel_rfl)) (by unfold Func.isWrapper; first | (rw [if_pos (by decide +kernel)]; kernel_rfl) | (rw [if_neg (by decide +kernel)]; exact ⟨rfl, rfl⟩))
    (fun os started H enc _ => lifted os started H enc)

/-- The statement. -/
theorem proved : Rows.FeastListsSaid :=
  over
#print axioms proved
end Go.Proofs.Ytdoahnkjkbpdaaa.feastLists
