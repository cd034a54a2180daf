/-
  The statement FeastAll: for any int as a year, here and abroad: it has 8 days of feasts, abroad 13; they rise, the first one is the New Year's, and each is the day that Kind tells. Conditions: none.
-/
import Derived.Test.YtdoahnkjkbpdaaaRows
import Derived.WalkKit
import Derived.ProofKit
import Derived.OpenShut
import Derived.Test.YtdoahnkjkbpdaaaFw
import Derived.ShutString
namespace Go.Proofs.Ytdoahnkjkbpdaaa.feastAll
open Go.ChangeShapes Go.WideShapes Go.ChangeAt Go.RowKit
open Go.ChangeMaps (open_string shut_string)
open Go.Proofs.Ytdoahnkjkbpdaaa.Divs Go.Proofs.Ytdoahnkjkbpdaaa.Grow Go.Proofs.Ytdoahnkjkbpdaaa.Mol Go.Proofs.Ytdoahnkjkbpdaaa.Hebrew Go.Proofs.Ytdoahnkjkbpdaaa.Feast Go.Proofs.Ytdoahnkjkbpdaaa.Fe
open Go.Proofs.Ytdoahnkjkbpdaaa.Year (lh mh pt md mp p1 p2 po dl ny yl)
open Go.Proofs.Ytdoahnkjkbpdaaa.Heb (hd ha ups)
set_option linter.unusedVariables false

theorem own : ownKnob Try.prog.godebug = none := by kernel_rfl

theorem fp_spring (ab : Bool) (l : Int) (hl : 353 ≤ l) : fp ab l (l - 163) = 5 ∧ fp true l (l - 162) = 5 ∧ fp ab l (l - 157) = 6 ∧ fp true l (l - 156) = 6 ∧ fp ab l (l - 113) = 7 ∧ fp true l (l - 112) = 7 := by
  refine ⟨?_, ?_, ?_, ?_, ?_, ?_⟩
  · unfold fp; rw [if_neg (by omega), if_neg (by omega), if_neg (by omega), if_neg (by omega), if_pos (by omega)]
  · unfold fp; rw [if_neg (by omega), if_neg (by omega), if_neg (by omega), if_neg (by omega), if_pos (by right; exact ⟨rfl, by omega⟩)]
  · unfold fp; rw [if_neg (by omega), if_neg (by omega), if_neg (by omega), if_neg (by omega), if_neg (by omega), if_pos (by omega)]
  · unfold fp; rw [if_neg (by omega), if_neg (by omega), if_neg (by omega), if_neg (by omega), if_neg (by first | omega | (simp; omega)), if_pos (by right; exact ⟨rfl, by omega⟩)]
  · unfold fp; rw [if_neg (by omega), if_neg (by omega), if_neg (by omega), if_neg (by omega), if_neg (by omega), if_neg (by omega), if_pos (by omega)]
  · unfold fp; rw [if_neg (by omega), if_neg (by omega), if_neg (by omega), if_neg (by omega), if_neg (by first | omega | (simp; omega)), if_neg (by first | omega | (simp; omega)), if_pos (by right; exact ⟨rfl, by omega⟩)]

theorem fl_place (h : Int) (ab : Bool) (i : Nat) (a d : Int) (hx : (fl ab (ny h) (ny h + yl h - 163))[i]? = some (a, d)) : ∃ k, 0 ≤ k ∧ k < yl h ∧ d = ny h + k ∧ fp ab (yl h) k = a ∧ a ≠ 0 := by
  have l := Heb.yl_bd h
  obtain ⟨s1, s2, s3, s4, s5, s6⟩ := fp_spring ab (yl h) l.1
  cases ab with
  | false =>
    have hi : i < 8 := by
      by_cases c : i < 8
      · exact c
      · rw [List.getElem?_eq_none (by simp [fl]; omega)] at hx
        cases hx
    rcases (show i = 0 ∨ i = 1 ∨ i = 2 ∨ i = 3 ∨ i = 4 ∨ i = 5 ∨ i = 6 ∨ i = 7 by omega) with rfl | rfl | rfl | rfl | rfl | rfl | rfl | rfl <;>
      (simp only [fl, List.getElem?_cons_zero, List.getElem?_cons_succ, Option.some.injEq, Prod.mk.injEq] at hx
       obtain ⟨rfl, rfl⟩ := hx)
    · exact ⟨0, by omega, by omega, by omega, by simp [fp], by omega⟩
    · exact ⟨1, by omega, by omega, by omega, by simp [fp], by omega⟩
    · exact ⟨9, by omega, by omega, by omega, by simp [fp], by omega⟩
    · exact ⟨14, by omega, by omega, by omega, by simp [fp], by omega⟩
    · exact ⟨21, by omega, by omega, by omega, by simp [fp], by omega⟩
    · exact ⟨yl h - 163, by omega, by omega, by omega, s1, by omega⟩
    · exact ⟨yl h - 157, by omega, by omega, by omega, s3, by omega⟩
    · exact ⟨yl h - 113, by omega, by omega, by omega, s5, by omega⟩
  | true =>
    have hi : i < 13 := by
      by_cases c : i < 13
      · exact c
      · rw [List.getElem?_eq_none (by simp [fl]; omega)] at hx
        cases hx
    rcases (show i = 0 ∨ i = 1 ∨ i = 2 ∨ i = 3 ∨ i = 4 ∨ i = 5 ∨ i = 6 ∨ i = 7 ∨ i = 8 ∨ i = 9 ∨ i = 10 ∨ i = 11 ∨ i = 12 by omega) with rfl | rfl | rfl | rfl | rfl | rfl | rfl | rfl | rfl | rfl | rfl | rfl | rfl <;>
      (simp only [fl, List.getElem?_cons_zero, List.getElem?_cons_succ, Option.some.injEq, Prod.mk.injEq] at hx
       obtain ⟨rfl, rfl⟩ := hx)
    · exact ⟨0, by omega, by omega, by omega, by simp [fp], by omega⟩
    · exact ⟨1, by omega, by omega, by omega, by simp [fp], by omega⟩
    · exact ⟨9, by omega, by omega, by omega, by simp [fp], by omega⟩
    · exact ⟨14, by omega, by omega, by omega, by simp [fp], by omega⟩
    · exact ⟨15, by omega, by omega, by omega, by simp [fp], by omega⟩
    · exact ⟨21, by omega, by omega, by omega, by simp [fp], by omega⟩
    · exact ⟨22, by omega, by omega, by omega, by simp [fp], by omega⟩
    · exact ⟨yl h - 163, by omega, by omega, by omega, s1, by omega⟩
    · exact ⟨yl h - 162, by omega, by omega, by omega, s2, by omega⟩
    · exact ⟨yl h - 157, by omega, by omega, by omega, s3, by omega⟩
    · exact ⟨yl h - 156, by omega, by omega, by omega, s4, by omega⟩
    · exact ⟨yl h - 113, by omega, by omega, by omega, s5, by omega⟩
    · exact ⟨yl h - 112, by omega, by omega, by omega, s6, by omega⟩

theorem fl_tells (h : Int) (ab : Bool) (h1 : 3762 ≤ h) (h2 : h ≤ 9999) (i : Nat) (a d : Int) (hx : (fl ab (ny h) (ny h + yl h - 163))[i]? = some (a, d)) : kd ab d = a ∧ rst ab d = true ∧ -10000000 ≤ d ∧ d ≤ 10000000 := by
  obtain ⟨k, k1, k2, rfl, k4, k5⟩ := fl_place h ab i a d hx
  have e : kd ab (ny h + k) = a := by rw [kd_at ab h k h1 h2 k1 k2]; exact k4
  have m1 := Heb.ny_mono 3762 h h1
  have m2 := Heb.ny_mono (h + 1) 10000 (by omega)
  have n := Heb.ny_next h
  have b1 := Year.ny_bd 3762 (by omega) (by omega)
  have b2 := Year.ny_bd 10000 (by omega) (by omega)
  refine ⟨e, ?_, by omega, by omega⟩
  rw [rst_iff]
  exact ⟨by omega, by omega, .inr (by rw [e]; exact k5)⟩

theorem fl_rise (h : Int) (ab : Bool) (j : Nat) (a d a' d' : Int) (hx' : (fl ab (ny h) (ny h + yl h - 163))[j]? = some (a', d')) (hx : (fl ab (ny h) (ny h + yl h - 163))[j + 1]? = some (a, d)) : d' < d ∧ a' ≤ a := by
  have l := Heb.yl_bd h
  cases ab with
  | false =>
    have hi : j < 7 := by
      by_cases c : j < 7
      · exact c
      · rw [List.getElem?_eq_none (by simp [fl]; omega)] at hx
        cases hx
    rcases (show j = 0 ∨ j = 1 ∨ j = 2 ∨ j = 3 ∨ j = 4 ∨ j = 5 ∨ j = 6 by omega) with rfl | rfl | rfl | rfl | rfl | rfl | rfl <;>
      (simp only [fl, List.getElem?_cons_zero, List.getElem?_cons_succ, Nat.zero_add, Nat.reduceAdd, Option.some.injEq, Prod.mk.injEq] at hx hx'
       obtain ⟨rfl, rfl⟩ := hx
       obtain ⟨rfl, rfl⟩ := hx'
       omega)
  | true =>
    have hi : j < 12 := by
      by_cases c : j < 12
      · exact c
      · rw [List.getElem?_eq_none (by simp [fl]; omega)] at hx
        cases hx
    rcases (show j = 0 ∨ j = 1 ∨ j = 2 ∨ j = 3 ∨ j = 4 ∨ j = 5 ∨ j = 6 ∨ j = 7 ∨ j = 8 ∨ j = 9 ∨ j = 10 ∨ j = 11 by omega) with rfl | rfl | rfl | rfl | rfl | rfl | rfl | rfl | rfl | rfl | rfl | rfl <;>
      (simp only [fl, List.getElem?_cons_zero, List.getElem?_cons_succ, Nat.zero_add, Nat.reduceAdd, Option.some.injEq, Prod.mk.injEq] at hx hx'
       obtain ⟨rfl, rfl⟩ := hx
       obtain ⟨rfl, rfl⟩ := hx'
       omega)

theorem fl_len (ab : Bool) (y p : Int) : (fl ab y p).length = if ab = true then 13 else 8 := by cases ab <;> simp [fl]

theorem fl_first (ab : Bool) (y p : Int) : (fl ab y p)[0]? = some (1, y) := by cases ab <;> simp [fl]

def ARel (n : Nat) (w : World) (x : Value) (wr : World) : Prop := ∃ i : Nat, i ≤ n ∧ x = .int .i64 i ∧ Later w wr

set_option maxRecDepth 100000 in
set_option maxHeartbeats 8000000 in
theorem walk (a0 : Int) (a1 : Bool) (w0 : (Lit.int .i64 a0).wf = true) (w : World) :
    Calls Try.prog 8 #[.int .i64 a0, .bool a1] w fun e w' => e = .returned (.bool true) ∧ Later w w' := by
  have AW := Lib.hid awake_any
  clear w0
  by_cases hb : a0 < 3762 ∨ 9999 < a0
  · have N1 := Lib.hid (fun W => list_no a0 a1 W hb)
    have N2 := Lib.hid (fun W => same_g (newyear_no a0 W hb))
    clear hb
    go_enter Try.func8, Try.ntmps8
    go_wp2_with fail
    refine (N1.out _).mono ?_
    rintro e w1 ⟨rfl, hg1⟩
    go_wp2_with fail
    refine (N2.out _).mono ?_
    rintro e w2 ⟨rfl, hg2⟩
    go_wp2_with fail
    refine (AW.out _).mono ?_
    rintro e w3 ⟨rfl, hg3⟩
    go_wp2_with fail
    go_ret
    exact ⟨rfl, gtrans hg1 (gtrans hg2 hg3)⟩
  · have h1 : 3762 ≤ a0 := by omega
    have h2 : a0 ≤ 9999 := by omega
    have N1 := Lib.hid (fun W => list_lies a0 a1 W h1 h2)
    have N2 := Lib.hid (fun W => newyear_yes a0 W h1 h2)
    have T := Lib.hid (fl_tells a0 a1 h1 h2)
    have R := Lib.hid (fl_rise a0 a1)
    have X0 := Lib.hid (fl_first a1 (ny a0) (ny a0 + yl a0 - 163))
    have hn := fl_len a1 (ny a0) (ny a0 + yl a0 - 163)
    obtain ⟨xs, hxs⟩ : ∃ xs, fl a1 (ny a0) (ny a0 + yl a0 - 163) = xs := ⟨_, rfl⟩
    rw [hxs] at N1 T R X0 hn
    obtain ⟨n, hxn⟩ : ∃ n, xs.length = n := ⟨_, rfl⟩
    have XG := Lib.hid (show ∀ i, i < n → ∃ a d, xs[i]? = some (a, d) from fun i hi => ⟨_, _, List.getElem?_eq_getElem (by omega)⟩)
    rw [hxn] at N1 hn
    clear hb h1 h2 hxs hxn
    have nb : 8 ≤ n ∧ n ≤ 13 := by split at hn <;> omega
    cases a1
    all_goals simp only [Bool.false_eq_true, if_false, if_true] at hn
    all_goals subst hn
    all_goals go_enter Try.func8, Try.ntmps8
    all_goals (go_wp2_with fail)
    all_goals (refine (N1.out _).mono ?_)
    all_goals (rintro e w1 ⟨g, cap, rfl, hl, hc, hg1⟩)
    all_goals (have HC := Lib.hid hc)
    all_goals (have HG1 := Lib.hid hg1)
    all_goals (clear hl hc hg1 N1)
    all_goals (go_wp2_with fail)
    all_goals (refine (N2.out _).mono ?_)
    all_goals (rintro e w2 ⟨rfl, hg2⟩)
    all_goals (have HG2 := Lib.hid hg2)
    all_goals (clear hg2 N2)
    all_goals (have c1 := gsome HG2.out (HC.out 0 _ _ X0.out).2)
    all_goals (simp only [Nat.zero_mul, Nat.zero_add] at c1)
    all_goals (go_wp2_with fail)
    all_goals (clear c1)
    · go_loopw [10] (fun x wr => ARel 8 w2 x wr) (fun x _ => (8 - intOf x).toNat)
      case atStart => exact ⟨0, by omega, rfl, Later.refl _⟩
      case round =>
        obtain ⟨i, i1, rfl, hg⟩ := hrel
        have HD := Lib.hid (gtrans HG2.out hg)
        have HR := Lib.hid hg
        clear hg
        by_cases hlt : i < 8
        · obtain ⟨a, d, hx⟩ := XG.out i hlt
          obtain ⟨t1, t2, t3, t4⟩ := T.out i a d hx
          have K := Lib.hid (fun W => kind_any d false W)
          rw [t1] at K
          have Q := Lib.hid (fun W => rest_any d false W (by omega) (by omega))
          rw [t2] at Q
          obtain ⟨k1, k2⟩ := HC.out i a d hx
          cases i with
          | zero =>
            have x1 := gw_cell (gsome HD.out k1)
            have x2 := gw_cell (gsome HD.out k2)
            simp only [Nat.zero_mul, Nat.zero_add] at x1 x2
            clear t1 t2 t3 t4 k1 k2 hx hlt i1
            go_wp2_with fail
            refine region_grown (by kernel_rfl) (by kernel_rfl) ?_
            repeat (go_big_quiet_step (first | (go_at_call 11; exact in_grown (K.out _)) | (go_at_call 13; exact in_grown (Q.out _))))
            refine wpQuiet_nil (grown_end ?_)
            intro w3 hg3
            clear x1 x2
            go_wp2_with fail
            go_roundw
            case rel => exact ⟨1, by omega, rfl, gtrans HR.out hg3⟩
            case measure => simp [intOf]
          | succ j =>
            obtain ⟨a', d', hx'⟩ := XG.out j (by omega)
            obtain ⟨r1, r2⟩ := R.out j a d a' d' hx' hx
            obtain ⟨k3, k4⟩ := HC.out j a' d' hx'
            have u1 : decide (d ≤ d') = false := by simp; omega
            have u2 : decide (a < a') = false := by simp; omega
            have p0 : (0 : Int) < (j : Int) + 1 := by omega
            have p1 : (j : Int) + 1 < 8 := by omega
            have p2 : (0 : Int) ≤ (j : Int) := by omega
            have p3 : (j : Int) < 8 := by omega
            have HLT := Lib.hid hlt
            rw [show ((j + 1 : Nat) : Int) = (j : Int) + 1 from by push_cast; rfl]
            by_cases hz : j = 0
            · subst hz
              have x1 := gw_cell (gsome HD.out k1)
              have x2 := gw_cell (gsome HD.out k2)
              have x3 := gw_cell (gsome HD.out k3)
              have x4 := gw_cell (gsome HD.out k4)
              simp only [Nat.zero_mul, Nat.zero_add, Nat.reduceMul, Nat.reduceAdd] at x1 x2 x3 x4
              clear t1 t2 t3 t4 k1 k2 k3 k4 hx hx' r1 r2 hlt i1
              simp only [Int.natCast_zero, Int.zero_add] at p0 p1 p2 p3 ⊢
              go_wp2_with fail
              refine region_grown (by kernel_rfl) (by kernel_rfl) ?_
              repeat (go_big_quiet_step (first | (go_at_call 11; exact in_grown (K.out _)) | (go_at_call 13; exact in_grown (Q.out _))))
              refine wpQuiet_nil (grown_end ?_)
              intro w3 hg3
              clear x1 x2 x3 x4
              go_wp2_with fail
              go_roundw
              case rel => exact ⟨2, by omega, rfl, gtrans HR.out hg3⟩
              case measure => simp [intOf]
            · have hz2 : ¬ j * 2 = 0 := by omega
              have x1 := gw_cell (gsome HD.out k1)
              have x2 := gw_cell (gsome HD.out k2)
              have x3 := gw_cell (gsome HD.out k3)
              have x4 := gw_cell (gsome HD.out k4)
              clear t1 t2 t3 t4 k1 k2 k3 k4 hx hx' r1 r2 hlt i1
              go_wp2_with fail
              refine region_grown (by kernel_rfl) (by kernel_rfl) ?_
              repeat (go_big_quiet_step (first | (go_at_call 11; exact in_grown (K.out _)) | (go_at_call 13; exact in_grown (Q.out _))))
              refine wpQuiet_nil (grown_end ?_)
              intro w3 hg3
              clear x1 x2 x3 x4
              go_wp2_with fail
              go_roundw
              case rel => exact ⟨j + 1 + 1, by have := HLT.out; omega, by push_cast; rfl, gtrans HR.out hg3⟩
              case measure => simp [intOf]; omega
        · obtain rfl : i = 8 := by omega
          go_wp2_with fail
          refine (AW.out _).mono ?_
          rintro e w3 ⟨rfl, hg3⟩
          go_wp2_with fail
          go_ret
          exact ⟨rfl, gtrans HG1.out (gtrans HD.out hg3)⟩
    · go_loopw [10] (fun x wr => ARel 13 w2 x wr) (fun x _ => (13 - intOf x).toNat)
      case atStart => exact ⟨0, by omega, rfl, Later.refl _⟩
      case round =>
        obtain ⟨i, i1, rfl, hg⟩ := hrel
        have HD := Lib.hid (gtrans HG2.out hg)
        have HR := Lib.hid hg
        clear hg
        by_cases hlt : i < 13
        · obtain ⟨a, d, hx⟩ := XG.out i hlt
          obtain ⟨t1, t2, t3, t4⟩ := T.out i a d hx
          have K := Lib.hid (fun W => kind_any d true W)
          rw [t1] at K
          have Q := Lib.hid (fun W => rest_any d true W (by omega) (by omega))
          rw [t2] at Q
          obtain ⟨k1, k2⟩ := HC.out i a d hx
          cases i with
          | zero =>
            have x1 := gw_cell (gsome HD.out k1)
            have x2 := gw_cell (gsome HD.out k2)
            simp only [Nat.zero_mul, Nat.zero_add] at x1 x2
            clear t1 t2 t3 t4 k1 k2 hx hlt i1
            go_wp2_with fail
            refine region_grown (by kernel_rfl) (by kernel_rfl) ?_
            repeat (go_big_quiet_step (first | (go_at_call 11; exact in_grown (K.out _)) | (go_at_call 13; exact in_grown (Q.out _))))
            refine wpQuiet_nil (grown_end ?_)
            intro w3 hg3
            clear x1 x2
            go_wp2_with fail
            go_roundw
            case rel => exact ⟨1, by omega, rfl, gtrans HR.out hg3⟩
            case measure => simp [intOf]
          | succ j =>
            obtain ⟨a', d', hx'⟩ := XG.out j (by omega)
            obtain ⟨r1, r2⟩ := R.out j a d a' d' hx' hx
            obtain ⟨k3, k4⟩ := HC.out j a' d' hx'
            have u1 : decide (d ≤ d') = false := by simp; omega
            have u2 : decide (a < a') = false := by simp; omega
            have p0 : (0 : Int) < (j : Int) + 1 := by omega
            have p1 : (j : Int) + 1 < 13 := by omega
            have p2 : (0 : Int) ≤ (j : Int) := by omega
            have p3 : (j : Int) < 13 := by omega
            have HLT := Lib.hid hlt
            rw [show ((j + 1 : Nat) : Int) = (j : Int) + 1 from by push_cast; rfl]
            by_cases hz : j = 0
            · subst hz
              have x1 := gw_cell (gsome HD.out k1)
              have x2 := gw_cell (gsome HD.out k2)
              have x3 := gw_cell (gsome HD.out k3)
              have x4 := gw_cell (gsome HD.out k4)
              simp only [Nat.zero_mul, Nat.zero_add, Nat.reduceMul, Nat.reduceAdd] at x1 x2 x3 x4
              clear t1 t2 t3 t4 k1 k2 k3 k4 hx hx' r1 r2 hlt i1
              simp only [Int.natCast_zero, Int.zero_add] at p0 p1 p2 p3 ⊢
              go_wp2_with fail
              refine region_grown (by kernel_rfl) (by kernel_rfl) ?_
              repeat (go_big_quiet_step (first | (go_at_call 11; exact in_grown (K.out _)) | (go_at_call 13; exact in_grown (Q.out _))))
              refine wpQuiet_nil (grown_end ?_)
              intro w3 hg3
              clear x1 x2 x3 x4
              go_wp2_with fail
              go_roundw
              case rel => exact ⟨2, by omega, rfl, gtrans HR.out hg3⟩
              case measure => simp [intOf]
            · have hz2 : ¬ j * 2 = 0 := by omega
              have x1 := gw_cell (gsome HD.out k1)
              have x2 := gw_cell (gsome HD.out k2)
              have x3 := gw_cell (gsome HD.out k3)
              have x4 := gw_cell (gsome HD.out k4)
              clear t1 t2 t3 t4 k1 k2 k3 k4 hx hx' r1 r2 hlt i1
              go_wp2_with fail
              refine region_grown (by kernel_rfl) (by kernel_rfl) ?_
              repeat (go_big_quiet_step (first | (go_at_call 11; exact in_grown (K.out _)) | (go_at_call 13; exact in_grown (Q.out _))))
              refine wpQuiet_nil (grown_end ?_)
              intro w3 hg3
              clear x1 x2 x3 x4
              go_wp2_with fail
              go_roundw
              case rel => exact ⟨j + 1 + 1, by have := HLT.out; omega, by push_cast; rfl, gtrans HR.out hg3⟩
              case measure => simp [intOf]; omega
        · obtain rfl : i = 13 := by omega
          go_wp2_with fail
          refine (AW.out _).mono ?_
          rintro e w3 ⟨rfl, hg3⟩
          go_wp2_with fail
          go_ret
          exact ⟨rfl, gtrans HG1.out (gtrans HD.out hg3)⟩

set_option maxRecDepth 100000 in
theorem lifted (os : Os) (started : os.Started) (H : Type) (enc : TypeId × Value → H) :
    ReturnsInHanded {} Try.checked os 8 .any (Rows.feastAllSpec.pre6 enc Try.prog Try.f8 Rows.feastAllRow.domain false) (Rows.feastAllSpec.post enc Try.prog Try.f8 false true false false) := by
  refine returnsInHanded_of_change (C := Try.checked) own started (by kernel_rfl) Try.func8
    (ChangeSpec.witness6 (enc := enc) (C := Try.checked) false ⟨#[], #[.int .i64 0, .bool false], []⟩ 8 (by kernel_rfl) (by kernel_rfl) (by kernel_rfl) (by kernel_rfl)) ?_
  intro W base args ds gs before hval0 hW hcnd _
  have hval : ∀ (j : Nat) t v, Try.f8.params[j]? = some t → args[j]? = some v → Value.okWide Try.prog W .any base t v := hval0
  have hW' := hW
  obtain ⟨p, q, hA0, hV, rfl, hfz, hnd⟩ := hW
  have hA : DataW.TrodAll enc Try.prog W 0 (fun _ => true) true Try.f8.params.toList args.toList ds p := hA0
  rw [Try.params8] at hA hval
  obtain ⟨v0, vs0, d0, ds0, p0, q0, hargs, rfl, rfl, h0, r0⟩ := trodAll_cons hA
  obtain ⟨v1, vs1, d1, ds1, p1, q1, rfl, rfl, rfl, h1, r1⟩ := trodAll_cons r0
  obtain ⟨rfl, rfl, rfl⟩ := trodAll_nil r1
  obtain rfl : args = #[v0, v1] := by cases args; simp_all
  obtain ⟨rfl, rfl⟩ := trodVars_none hV
  obtain ⟨a0, rfl, rfl, rfl, w0⟩ := open_int Try.underlying3 (hval 0 3 v0 rfl rfl) h0
  obtain ⟨a1, rfl, rfl, rfl⟩ := open_bool Try.underlying4 (hval 1 4 v1 rfl rfl) h1
  clear hA0 hval0
  simp only [List.append_nil] at hW'
  refine (walk a0 a1 w0  W).mono fun e W' ⟨he, hg⟩ => ?_
  subst he
  exact ⟨_, rfl, post_bare hW' (fun _ _ _ => (trodAll_cons_mk (shut_bool Try.underlying4 _) trodAll_mk0)) (fun sp => (trodAll_cons_mk (shut_int Try.underlying3 w0) (trodAll_cons_mk (shut_bool Try.underlying4 a1) trodAll_mk0))) (fun _ => rfl) hg
    (ok_one (by kernel_rfl) rfl (okWide_bool_mk Try.underlying4 _))⟩

theorem over : Rows.feastAllRow.holds Try.pinned (OpenSpec.ofChange Rows.feastAllSpec) :=
  OpenClaim.holds_of_wide 8 Try.f8 rfl rfl rfl rfl rfl rfl rfl ⟨rfl, rfl, rfl, rfl, rfl⟩ rfl rfl rfl rfl rfl (by kernel_rfl) Try.func8 (by kernel_rfl)
    (of_decide_eq_true (by kernel_rfl)) (by unfold Func.isWrapper; first | (rw [if_pos (by decide +kernel)]; kernel_rfl) | (rw [if_neg (by decide +kernel)]; exact ⟨rfl, rfl⟩))
    (fun os started H enc _ => lifted os started H enc)

/-- The statement. -/
theorem proved : Rows.FeastAllSaid :=
  over
#print axioms proved
end Go.Proofs.Ytdoahnkjkbpdaaa.feastAll
