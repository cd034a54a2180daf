/-
  What the chapter's example of layer 5 fixes. No condition.
-/
import Derived.Test.YtdoahnkjkbpdaaaFg
namespace Go.Proofs.Ytdoahnkjkbpdaaa.Feast
open Go.ChangeShapes Go.WideShapes Go.ChangeAt Go.RowKit
open Go.Proofs.Ytdoahnkjkbpdaaa.Divs Go.Proofs.Ytdoahnkjkbpdaaa.Grow Go.Proofs.Ytdoahnkjkbpdaaa.Mol Go.Proofs.Ytdoahnkjkbpdaaa.Hebrew
open Go.Proofs.Ytdoahnkjkbpdaaa.Year (lh mh pt md mp p1 p2 po dl ny yl)
open Go.Proofs.Ytdoahnkjkbpdaaa.Heb (hd ha ups)
open Go.Proofs.Ytdoahnkjkbpdaaa.Fe

theorem kd_example (ab : Bool) : kd ab 738779 = 1 := by
  have k := kd_at ab 5784 0 (by omega) (by omega) (by omega) (by rw [Year.yl_example]; omega)
  rw [Year.ny_example, Year.yl_example] at k
  rw [show (738779 : Int) = 738779 + 0 by omega, k]
  simp [fp]

theorem rst_example (ab : Bool) : rst ab 738779 = true := by
  have y := Year.ny_example
  have m1 := Heb.ny_mono 3762 5784 (by omega)
  have m2 := Heb.ny_mono 5785 10000 (by omega)
  have l := Year.yl_example
  have n : ny 5785 = ny 5784 + yl 5784 := Heb.ny_next 5784
  rw [rst_iff]
  refine ⟨by omega, by omega, .inr ?_⟩
  rw [kd_example]
  omega

theorem row_example : Row false 738779 738779 738780 := by
  have y := Year.ny_example
  have m1 := Heb.ny_mono 3762 5783 (by omega)
  have m2 := Heb.ny_mono 5785 10000 (by omega)
  have l := Year.yl_example
  have n : ny 5785 = ny 5784 + yl 5784 := Heb.ny_next 5784
  have n' : ny 5784 = ny 5783 + yl 5783 := Heb.ny_next 5783
  have lb := Heb.yl_bd 5783
  have k1 : kd false 738780 = 1 := by
    have k := kd_at false 5784 1 (by omega) (by omega) (by omega) (by omega)
    rw [y, l] at k
    rw [show (738780 : Int) = 738779 + 1 by omega, k]
    simp [fp]
  have k2 : kd false 738781 = 0 := by
    have k := kd_at false 5784 2 (by omega) (by omega) (by omega) (by omega)
    rw [y, l] at k
    rw [show (738781 : Int) = 738779 + 2 by omega, k]
    simp [fp]
  have k0 : kd false 738778 = 0 := by
    rw [kd_in false 738778 5783 (by omega) (by omega) (by omega) (by rw [show (5783 : Int) + 1 = 5784 from rfl]; omega)]
    exact fp_zero false _ _ (by omega) (by omega) (by omega) (by omega) (by simp) (by omega) (by simp) (by omega) (by simp) (by omega) (by simp) (by omega) (by simp)
  refine ⟨by omega, by omega, fun d d1 d2 => ?_, ?_, ?_⟩
  · rcases (show d = 738779 ∨ d = 738780 by omega) with rfl | rfl
    · exact rst_example false
    · rw [rst_iff]
      refine ⟨by omega, by omega, .inr (by omega)⟩
  · rw [show (738779 : Int) - 1 = 738778 by omega]
    cases e : rst false 738778
    · rfl
    · have := (rst_iff false _).1 e
      omega
  · rw [show (738780 : Int) + 1 = 738781 by omega]
    cases e : rst false 738781
    · rfl
    · have := (rst_iff false _).1 e
      omega

theorem fl_ne (ab : Bool) (y p : Int) : fl ab y p ≠ [] := by cases ab <;> simp [fl]

/-- A year's feasts, the slice written out. -/
theorem list_lies (h : Int) (ab : Bool) (w : World) (h1 : 3762 ≤ h) (h2 : h ≤ 9999) :
    Calls Try.prog 15 #[.int .i64 h, .bool ab] w fun e w' => ∃ g cap, e = .returned (.tuple #[.slice (some ⟨g, 0, none⟩) (fl ab (ny h) (ny h + yl h - 163)).length cap, .int .i64 0]) ∧ g < w'.heap.size ∧
      (∀ (i : Nat) (a d : Int), (fl ab (ny h) (ny h + yl h - 163))[i]? = some (a, d) → w'.cell? ⟨g, i * 2, none⟩ = some (.int .i64 a) ∧ w'.cell? ⟨g, i * 2 + 1, none⟩ = some (.int .i64 d)) ∧ Later w w' := by
  refine (list_yes h ab w h1 h2).mono ?_
  rintro e w' ⟨v, rfl, hF, hg⟩
  obtain ⟨g, cap, rfl, hl, hc⟩ := hF.lies (fl_ne _ _ _)
  exact ⟨g, cap, rfl, hl, hc, hg⟩

theorem list_example (w : World) : Calls Try.prog 15 #[.int .i64 5784, .bool true] w fun e w' => ∃ g cap, e = .returned (.tuple #[.slice (some ⟨g, 0, none⟩) 13 cap, .int .i64 0]) ∧ Later w w' := by
  refine (list_lies 5784 true w (by omega) (by omega)).mono ?_
  rintro e w' ⟨g, cap, rfl, _, _, hg⟩
  exact ⟨g, cap, rfl, hg⟩

set_option maxHeartbeats 1000000 in
theorem awake_any (w : World) : Calls Try.prog 10 #[] w fun e w' => e = .returned (.bool true) ∧ Later w w' := by
  have K1 := Lib.hid (fun W => run_yes 738779 738779 738780 false W row_example)
  have K2 := Lib.hid list_example
  have K3 := Lib.hid (fun W => kind_any 738779 false W)
  rw [kd_example] at K3
  have K4 := Lib.hid (fun W => rest_any 738779 true W (by omega) (by omega))
  rw [rst_example] at K4
  go_enter Try.func10, Try.ntmps10
  go_wp2_with fail
  refine (K1.out _).mono ?_
  rintro e w1 ⟨rfl, hg1⟩
  go_wp2_with fail
  refine (K2.out _).mono ?_
  rintro e w2 ⟨g, cap, rfl, hg2⟩
  go_wp2_with fail
  refine (K3.out _).mono ?_
  rintro e w3 ⟨rfl, hg3⟩
  go_wp2_with fail
  refine (K4.out _).mono ?_
  rintro e w4 ⟨rfl, hg4⟩
  go_wp2_with fail
  go_ret
  exact ⟨rfl, gtrans hg1 (gtrans hg2 (gtrans hg3 hg4))⟩

end Go.Proofs.Ytdoahnkjkbpdaaa.Feast
