/-
  The statement FeastTouch: for any int as a day, here and abroad: no more than three days of rest touch, each of them tells the same row, ahead of which and behind which there is none. Conditions: none.
-/
import Derived.Test.YtdoahnkjkbpdaaaRows
import Derived.WalkKit
import Derived.ProofKit
import Derived.OpenShut
import Derived.Test.YtdoahnkjkbpdaaaFw
import Derived.ShutString
namespace Go.Proofs.Ytdoahnkjkbpdaaa.feastTouch
open Go.ChangeShapes Go.WideShapes Go.ChangeAt Go.RowKit
open Go.ChangeMaps (open_string shut_string)
open Go.Proofs.Ytdoahnkjkbpdaaa.Divs Go.Proofs.Ytdoahnkjkbpdaaa.Grow Go.Proofs.Ytdoahnkjkbpdaaa.Mol Go.Proofs.Ytdoahnkjkbpdaaa.Hebrew Go.Proofs.Ytdoahnkjkbpdaaa.Feast Go.Proofs.Ytdoahnkjkbpdaaa.Fe
open Go.Proofs.Ytdoahnkjkbpdaaa.Year (lh mh pt md mp p1 p2 po dl ny yl)
open Go.Proofs.Ytdoahnkjkbpdaaa.Heb (hd ha ups)
set_option linter.unusedVariables false

theorem own : ownKnob Try.prog.godebug = none := by kernel_rfl

theorem rst_bd (ab : Bool) (n : Int) (h : rst ab n = true) : -10000000 ≤ n ∧ n ≤ 10000000 := by
  have k := (rst_iff ab n).1 h
  have b1 := Year.ny_bd 3762 (by omega) (by omega)
  have b2 := Year.ny_bd 10000 (by omega) (by omega)
  omega

def TRel (a b : Int) (w : World) (x : Value) (wr : World) : Prop := ∃ d : Int, a ≤ d ∧ d ≤ b + 1 ∧ x = .int .i64 d ∧ Later w wr

set_option maxHeartbeats 2000000 in
theorem walk (a0 : Int) (a1 : Bool) (w0 : (Lit.int .i64 a0).wf = true) (w : World) :
    Calls Try.prog 6 #[.int .i64 a0, .bool a1] w fun e w' => e = .returned (.bool true) ∧ Later w w' := by
  obtain ⟨h0, h1⟩ := bounds_i64 w0
  have AW := Lib.hid awake_any
  clear w0
  cases e : rst a1 a0
  · have N := Lib.hid (fun W => run_no a0 a1 W h0 h1 e)
    have R := Lib.hid (fun W => rest_any a0 a1 W h0 h1)
    rw [e] at R
    clear e h0 h1
    go_enter Try.func6, Try.ntmps6
    go_wp2_with fail
    refine (N.out _).mono ?_
    rintro e w1 ⟨rfl, hg1⟩
    go_wp2_with fail
    refine (AW.out _).mono ?_
    rintro e w2 ⟨rfl, hg2⟩
    go_wp2_with fail
    refine (R.out _).mono ?_
    rintro e w3 ⟨rfl, hg3⟩
    go_wp2_with fail
    go_ret
    exact ⟨rfl, gtrans hg1 (gtrans hg2 hg3)⟩
  · obtain ⟨a, b, hR⟩ := row_ex a1 a0 e
    have N := Lib.hid (fun W => run_yes a0 a b a1 W hR)
    have rl := row_len a1 a0 a b hR
    have bd := rst_bd a1 a0 e
    have hR' := hR
    obtain ⟨x1, x2, x3, x4, x5⟩ := hR'
    have R1 := Lib.hid (fun W => rest_any (a - 1) a1 W (by omega) (by omega))
    rw [x4] at R1
    have R2 := Lib.hid (fun W => rest_any (b + 1) a1 W (by omega) (by omega))
    rw [x5] at R2
    have RD := Lib.hid (show ∀ d W, a ≤ d → d ≤ b → Calls Try.prog 13 #[.int .i64 d, .bool a1] W fun e w' => e = .returned (.bool true) ∧ Later W w' from fun d W d1 d2 => by
      have k := rest_any d a1 W (by omega) (by omega)
      rw [x3 d d1 d2] at k
      exact k)
    have ND := Lib.hid (fun d W (d1 : a ≤ d) (d2 : d ≤ b) => run_yes d a b a1 W ⟨d1, d2, x3, x4, x5⟩)
    clear hR e h0 h1 x3 x4 x5
    go_enter Try.func6, Try.ntmps6
    go_wp2_with fail
    refine (N.out _).mono ?_
    rintro e w1 ⟨rfl, hg1⟩
    go_wp2_with fail
    refine (R1.out _).mono ?_
    rintro e w2 ⟨rfl, hg2⟩
    go_wp2_with fail
    refine (R2.out _).mono ?_
    rintro e w3 ⟨rfl, hg3⟩
    have HG := Lib.hid (gtrans hg1 (gtrans hg2 hg3))
    clear hg1 hg2 hg3
    go_wp2_with fail
    go_loopw [8] (fun x wr => TRel a b w x wr) (fun x _ => (b + 1 - intOf x).toNat)
    case atStart => exact ⟨a, by omega, by omega, rfl, HG.out⟩
    case round =>
      obtain ⟨d, d1, d2, rfl, hg⟩ := hrel
      have HD := Lib.hid hg
      clear hg
      by_cases hlt : d ≤ b
      · skip
        go_wp2_with fail
        refine (ND.out d _ d1 hlt).mono ?_
        rintro e w4 ⟨rfl, hg4⟩
        go_wp2_with fail
        refine (RD.out d _ d1 hlt).mono ?_
        rintro e w5 ⟨rfl, hg5⟩
        go_wp2_with fail
        go_roundw
        case rel => exact ⟨d + 1, by omega, by omega, rfl, gtrans HD.out (gtrans hg4 hg5)⟩
        case measure => simp [intOf]; omega
      · skip
        go_wp2_with fail
        refine (AW.out _).mono ?_
        rintro e w4 ⟨rfl, hg4⟩
        go_wp2_with fail
        go_ret
        exact ⟨rfl, gtrans HD.out hg4⟩

set_option maxRecDepth 100000 in
theorem lifted (os : Os) (started : os.Started) (H : Type) (enc : TypeId × Value → H) :
    ReturnsInHanded {} Try.checked os 6 .any (Rows.feastTouchSpec.pre6 enc Try.prog Try.f6 Rows.feastTouchRow.domain false) (Rows.feastTouchSpec.post enc Try.prog Try.f6 false true false false) := by
  refine returnsInHanded_of_change (C := Try.checked) own started (by kernel_rfl) Try.func6
    (ChangeSpec.witness6 (enc := enc) (C := Try.checked) false ⟨#[], #[.int .i64 0, .bool false], []⟩ 8 (by kernel_rfl) (by kernel_rfl) (by kernel_rfl) (by kernel_rfl)) ?_
  intro W base args ds gs before hval0 hW hcnd _
  have hval : ∀ (j : Nat) t v, Try.f6.params[j]? = some t → args[j]? = some v → Value.okWide Try.prog W .any base t v := hval0
  have hW' := hW
  obtain ⟨p, q, hA0, hV, rfl, hfz, hnd⟩ := hW
  have hA : DataW.TrodAll enc Try.prog W 0 (fun _ => true) true Try.f6.params.toList args.toList ds p := hA0
  rw [Try.params6] at hA hval
  obtain ⟨v0, vs0, d0, ds0, p0, q0, hargs, rfl, rfl, h0, r0⟩ := trodAll_cons hA
  obtain ⟨v1, vs1, d1, ds1, p1, q1, rfl, rfl, rfl, h1, r1⟩ := trodAll_cons r0
  obtain ⟨rfl, rfl, rfl⟩ := trodAll_nil r1
  obtain rfl : args = #[v0, v1] := by cases args; simp_all
  obtain ⟨rfl, rfl⟩ := trodVars_none hV
  obtain ⟨a0, rfl, rfl, rfl, w0⟩ := open_int Try.underlying3 (hval 0 3 v0 rfl rfl) h0
  obtain ⟨a1, rfl, rfl, rfl⟩ := open_bool Try.underlying4 (hval 1 4 v1 rfl rfl) h1
  clear hA0 hval0
  simp only [List.append_nil] at hW'
  refine (walk a0 a1 w0  W).mono fun e W' ⟨he, hg⟩ => ?_
  subst he
  exact ⟨_, rfl, post_bare hW' (fun _ _ _ => (trodAll_cons_mk (shut_bool Try.underlying4 _) trodAll_mk0)) (fun sp => (trodAll_cons_mk (shut_int Try.underlying3 w0) (trodAll_cons_mk (shut_bool Try.underlying4 a1) trodAll_mk0))) (fun _ => rfl) hg
    (ok_one (by kernel_rfl) rfl (okWide_bool_mk Try.underlying4 _))⟩

theorem over : Rows.feastTouchRow.holds Try.pinned (OpenSpec.ofChange Rows.feastTouchSpec) :=
  OpenClaim.holds_of_wide 6 Try.f6 rfl rfl rfl rfl rfl rfl rfl ⟨rfl, rfl, rfl, rfl, rfl⟩ rfl rfl rfl rfl rfl (by kernel_rfl) Try.func6 (by kernel_rfl)
    (of_decide_eq_true (by kernel_rfl)) (by unfold Func.isWrapper; first | (rw [if_pos (by decide +kernel)]; kernel_rfl) | (rw [if_neg (by decide +kernel)]; exact ⟨rfl, rfl⟩))
    (fun os started H enc _ => lifted os started H enc)

/-- The statement. -/
theorem proved : Rows.FeastTouchSaid :=
  over
#print axioms proved
end Go.Proofs.Ytdoahnkjkbpdaaa.feastTouch
