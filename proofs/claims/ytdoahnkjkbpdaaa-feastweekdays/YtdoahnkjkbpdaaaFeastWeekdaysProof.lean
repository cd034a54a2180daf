/-
  The statement FeastWeekdays: for any int as a year: the fast is never on a Sunday, a Tuesday or a Friday, Passover never begins on a Monday, a Wednesday or a Friday, Booths never on a Sunday, a Wednesday or a Friday, and Pentecost is 50 days behind Passover. Conditions: none.
-/
import Derived.Test.YtdoahnkjkbpdaaaRows
import Derived.WalkKit
import Derived.ProofKit
import Derived.OpenShut
import Derived.Test.YtdoahnkjkbpdaaaFw
import Derived.ShutString
namespace Go.Proofs.Ytdoahnkjkbpdaaa.feastWeekdays
open Go.ChangeShapes Go.WideShapes Go.ChangeAt Go.RowKit
open Go.ChangeMaps (open_string shut_string)
open Go.Proofs.Ytdoahnkjkbpdaaa.Divs Go.Proofs.Ytdoahnkjkbpdaaa.Grow Go.Proofs.Ytdoahnkjkbpdaaa.Mol Go.Proofs.Ytdoahnkjkbpdaaa.Hebrew Go.Proofs.Ytdoahnkjkbpdaaa.Feast Go.Proofs.Ytdoahnkjkbpdaaa.Fe
open Go.Proofs.Ytdoahnkjkbpdaaa.Year (lh mh pt md mp p1 p2 po dl ny yl)
open Go.Proofs.Ytdoahnkjkbpdaaa.Heb (hd ha ups)
set_option linter.unusedVariables false

theorem own : ownKnob Try.prog.godebug = none := by kernel_rfl

/-- What is told of a feast's weekday. -/
def Wd (a d : Int) : Prop := (a = 2 → d % 7 ≠ 0 ∧ d % 7 ≠ 2 ∧ d % 7 ≠ 5) ∧ (a = 5 → d % 7 ≠ 1 ∧ d % 7 ≠ 3 ∧ d % 7 ≠ 5) ∧ (a = 3 → d % 7 ≠ 0 ∧ d % 7 ≠ 3 ∧ d % 7 ≠ 5) ∧ -10000000 ≤ d ∧ d ≤ 10000000

theorem wd_all (h : Int) (h1 : 3762 ≤ h) (h2 : h ≤ 9999) (i : Nat) (a d : Int) (hx : (fl false (ny h) (ny h + yl h - 163))[i]? = some (a, d)) : Wd a d := by
  have f1 := Year.ny_free h
  have f2 := Year.ny_free (h + 1)
  have n := Heb.ny_next h
  have b := Year.ny_bd h (by omega) (by omega)
  have l := Heb.yl_bd h
  rw [n] at f2
  unfold Wd
  have hi : i < 8 := by
    by_cases c : i < 8
    · exact c
    · rw [List.getElem?_eq_none (by simp [fl]; omega)] at hx
      cases hx
  rcases (show i = 0 ∨ i = 1 ∨ i = 2 ∨ i = 3 ∨ i = 4 ∨ i = 5 ∨ i = 6 ∨ i = 7 by omega) with rfl | rfl | rfl | rfl | rfl | rfl | rfl | rfl <;>
    (simp only [fl, List.getElem?_cons_zero, List.getElem?_cons_succ, Option.some.injEq, Prod.mk.injEq] at hx
     obtain ⟨rfl, rfl⟩ := hx
     omega)

def WRel (w : World) (x : Value) (wr : World) : Prop := ∃ i : Nat, i ≤ 8 ∧ x = .int .i64 i ∧ Later w wr

set_option maxRecDepth 100000 in
set_option maxHeartbeats 8000000 in
theorem walk (a0 : Int) (w0 : (Lit.int .i64 a0).wf = true) (w : World) :
    Calls Try.prog 9 #[.int .i64 a0] w fun e w' => e = .returned (.bool true) ∧ Later w w' := by
  have AW := Lib.hid awake_any
  clear w0
  by_cases hb : a0 < 3762 ∨ 9999 < a0
  · have N1 := Lib.hid (fun W => list_no a0 false W hb)
    have N2 := Lib.hid (fun W => same_g (may_no a0 W hb))
    clear hb
    go_enter Try.func9, Try.ntmps9
    go_wp2_with fail
    refine (N1.out _).mono ?_
    rintro e w1 ⟨rfl, hg1⟩
    go_wp2_with fail
    refine (AW.out _).mono ?_
    rintro e w2 ⟨rfl, hg2⟩
    go_wp2_with fail
    refine (N2.out _).mono ?_
    rintro e w3 ⟨rfl, hg3⟩
    go_wp2_with fail
    go_ret
    exact ⟨rfl, gtrans hg1 (gtrans hg2 hg3)⟩
  · have h1 : 3762 ≤ a0 := by omega
    have h2 : a0 ≤ 9999 := by omega
    have N1 := Lib.hid (fun W => list_lies a0 false W h1 h2)
    have WD := Lib.hid (wd_all a0 h1 h2)
    have X5 := Lib.hid (show (fl false (ny a0) (ny a0 + yl a0 - 163))[5]? = some (5, ny a0 + yl a0 - 163) from rfl)
    have X7 := Lib.hid (show (fl false (ny a0) (ny a0 + yl a0 - 163))[7]? = some (7, ny a0 + yl a0 - 163 + 50) from rfl)
    have XG := Lib.hid (show ∀ i, i < 8 → ∃ a d, (fl false (ny a0) (ny a0 + yl a0 - 163))[i]? = some (a, d) from fun i hi => ⟨_, _, List.getElem?_eq_getElem (by simp only [fl, List.length_cons, List.length_nil]; omega)⟩)
    have b := Year.ny_bd a0 (by omega) (by omega)
    have l := Heb.yl_bd a0
    obtain ⟨p, hp⟩ : ∃ p, ny a0 + yl a0 - 163 = p := ⟨_, rfl⟩
    have pb : -10000000 ≤ p ∧ p ≤ 10000000 := by omega
    have hlen : (fl false (ny a0) p).length = 8 := rfl
    rw [hp] at N1 WD X5 X7 XG
    rw [hlen] at N1
    obtain ⟨xs, hxs⟩ : ∃ xs, fl false (ny a0) p = xs := ⟨_, rfl⟩
    rw [hxs] at N1 WD X5 X7 XG
    have t50 : (p + 50 - p == 50) = true := by simp; omega
    clear hb h1 h2 hp hlen hxs b l
    go_enter Try.func9, Try.ntmps9
    go_wp2_with fail
    refine (N1.out _).mono ?_
    rintro e w1 ⟨g, cap, rfl, hl, hc, hg1⟩
    have HC := Lib.hid hc
    have HG1 := Lib.hid hg1
    clear hl hc hg1 N1
    go_wp2_with fail
    go_loopw [5] (fun x wr => WRel w1 x wr) (fun x _ => (8 - intOf x).toNat)
    case atStart => exact ⟨0, by omega, rfl, Later.refl _⟩
    case round =>
      obtain ⟨i, i1, rfl, hg⟩ := hrel
      have HD := Lib.hid hg
      clear hg
      by_cases hlt : i < 8
      · obtain ⟨a, d, hx⟩ := XG.out i hlt
        obtain ⟨q2, q5, q3, d0, d1⟩ := WD.out i a d hx
        obtain ⟨k1, k2⟩ := HC.out i a d hx
        have c1 := gsome HD.out k1
        have c2 := gsome HD.out k2
        have WK := Lib.hid (fun W => Feast.weekday_any d W (by omega) (by omega))
        have ti : (i : Int) < 8 := by omega
        have ti0 : (0 : Int) ≤ (i : Int) := by omega
        obtain ⟨r, hr⟩ : ∃ r, d % 7 = r := ⟨_, rfl⟩
        rw [hr] at q2 q5 q3 WK
        have NX : WRel w1 (.int .i64 ((i : Int) + 1)) = WRel w1 (.int .i64 ((i : Int) + 1)) := rfl
        clear hx k1 k2 hr d0 d1 NX
        have tests : ((a == 2) = true ∧ (a == 5) = false ∧ (a == 3) = false ∧ (r == 0) = false ∧ (r == 2) = false ∧ (r == 5) = false) ∨ ((a == 2) = false ∧ (a == 5) = true ∧ (a == 3) = false ∧ (r == 1) = false ∧ (r == 3) = false ∧ (r == 5) = false) ∨
            ((a == 2) = false ∧ (a == 5) = false ∧ (a == 3) = true ∧ (r == 0) = false ∧ (r == 3) = false ∧ (r == 5) = false) ∨ ((a == 2) = false ∧ (a == 5) = false ∧ (a == 3) = false) := by
          simp only [beq_eq_false_iff_ne, beq_iff_eq]
          omega
        clear q2 q5 q3
        rcases tests with ⟨u1, u2, u3, u4, u5, u6⟩ | ⟨u1, u2, u3, u4, u5, u6⟩ | ⟨u1, u2, u3, u4, u5, u6⟩ | ⟨u1, u2, u3⟩ <;> by_cases hz : i = 0
        all_goals first | (subst hz; simp only [Nat.zero_mul, Nat.zero_add] at c1 c2) | (have hz2 : ¬ i * 2 = 0 := by omega)
        all_goals (go_wp2_with fail)
        all_goals (refine (WK.out _).mono ?_)
        all_goals (rintro e w2 ⟨rfl, k, rfl⟩)
        all_goals (go_wp2_with fail)
        all_goals go_roundw
        all_goals first | exact ⟨0 + 1, by omega, by push_cast; rfl, HD.out⟩ | exact ⟨i + 1, by omega, by push_cast; rfl, HD.out⟩ | (simp [intOf]; omega) | (simp [intOf])
      · obtain rfl : i = 8 := by omega
        have HE := HD.out
        obtain ⟨k1, k2⟩ := HC.out 5 _ _ X5.out
        obtain ⟨k3, k4⟩ := HC.out 7 _ _ X7.out
        have x1 := gw_cell (gsome HE k2)
        have x2 := gw_cell (gsome HE k4)
        simp only [Nat.reduceMul, Nat.reduceAdd] at x1 x2
        clear k1 k2 k3 k4
        go_wp2_with fail
        refine region_grown (by kernel_rfl) (by kernel_rfl) ?_
        repeat (go_big_quiet_step ((go_at_call 10; exact in_grown (AW.out _))))
        refine wpQuiet_nil (grown_end ?_)
        intro w3 hg3
        clear x1 x2
        go_wp2_with fail
        go_ret
        exact ⟨rfl, gtrans HG1.out (gtrans HE hg3)⟩

set_option maxRecDepth 100000 in
theorem lifted (os : Os) (started : os.Started) (H : Type) (enc : TypeId × Value → H) :
    ReturnsInHanded {} Try.checked os 9 .any (Rows.feastWeekdaysSpec.pre6 enc Try.prog Try.f9 Rows.feastWeekdaysRow.domain false) (Rows.feastWeekdaysSpec.post enc Try.prog Try.f9 false true false false) := by
  refine returnsInHanded_of_change (C := Try.checked) own started (by kernel_rfl) Try.func9
    (ChangeSpec.witness6 (enc := enc) (C := Try.checked) false ⟨#[], #[.int .i64 0], []⟩ 8 (by kernel_rfl) (by kernel_rfl) (by kernel_rfl) (by kernel_rfl)) ?_
  intro W base args ds gs before hval0 hW hcnd _
  have hval : ∀ (j : Nat) t v, Try.f9.params[j]? = some t → args[j]? = some v → Value.okWide Try.prog W .any base t v := hval0
  have hW' := hW
  obtain ⟨p, q, hA0, hV, rfl, hfz, hnd⟩ := hW
  have hA : DataW.TrodAll enc Try.prog W 0 (fun _ => true) true Try.f9.params.toList args.toList ds p := hA0
  rw [Try.params9] at hA hval
  obtain ⟨v0, vs0, d0, ds0, p0, q0, hargs, rfl, rfl, h0, r0⟩ := trodAll_cons hA
  obtain ⟨rfl, rfl, rfl⟩ := trodAll_nil r0
  obtain rfl : args = #[v0] := by cases args; simp_all
  obtain ⟨rfl, rfl⟩ := trodVars_none hV
  obtain ⟨a0, rfl, rfl, rfl, w0⟩ := open_int Try.underlying3 (hval 0 3 v0 rfl rfl) h0
  clear hA0 hval0
  simp only [List.append_nil] at hW'
  refine (walk a0 w0 W).mono fun e W' ⟨he, hg⟩ => ?_
  subst he
  exact ⟨_, rfl, post_bare hW' (fun _ _ _ => (trodAll_cons_mk (shut_bool Try.underlying4 _) trodAll_mk0)) (fun sp => (trodAll_cons_mk (shut_int Try.underlying3 w0) trodAll_mk0)) (fun _ => rfl) hg
    (ok_one (by kernel_rfl) rfl (okWide_bool_mk Try.underlying4 _))⟩

theorem over : Rows.feastWeekdaysRow.holds Try.pinned (OpenSpec.ofChange Rows.feastWeekdaysSpec) :=
  OpenClaim.holds_of_wide 9 Try.f9 rfl rfl rfl rfl rfl rfl rfl ⟨rfl, rfl, rfl, rfl, rfl⟩ rfl rfl rfl rfl rfl (by kernel_rfl) Try.func9 (by kernel_rfl)
    (of_decide_eq_true (by kernel_rfl)) (by unfold Func.isWrapper; first | (rw [if_pos (by decide +kernel)]; kernel_rfl) | (rw [if_neg (by decide +kernel)]; exact ⟨rfl, rfl⟩))
    (fun os started H enc _ => lifted os started H enc)

/-- The statement. -/
theorem proved : Rows.FeastWeekdaysSaid :=
  over
#print axioms proved
end Go.Proofs.Ytdoahnkjkbpdaaa.feastWeekdays
