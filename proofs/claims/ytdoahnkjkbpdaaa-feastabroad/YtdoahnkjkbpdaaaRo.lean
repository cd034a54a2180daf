/-
  The document's answer for layer 4, on: which date may be, a date's number, the first and the last day, a day's year, a number's date; and what the chapter's example fixes. Conditions: as each theorem says.
-/
import Derived.Test.YtdoahnkjkbpdaaaRd
namespace Go.Proofs.Ytdoahnkjkbpdaaa.Hebrew
open Go.ChangeShapes Go.WideShapes Go.ChangeAt Go.RowKit
open Go.Proofs.Ytdoahnkjkbpdaaa.Divs Go.Proofs.Ytdoahnkjkbpdaaa.Grow Go.Proofs.Ytdoahnkjkbpdaaa.Mol
open Go.Proofs.Ytdoahnkjkbpdaaa.Year (lh mh pt md mp p1 p2 po dl ny yl)
open Go.Proofs.Ytdoahnkjkbpdaaa.Heb (hd ha ups)

def DRel (y m d : Int) (w : World) (s i : Value) (wr : World) : Prop :=
  ∃ k : Int, 1 ≤ k ∧ k ≤ m ∧ s = .int .i64 (ny y + d - 1 + ha (yl y) (lh y) k) ∧ i = .int .i64 k ∧ Later (w.alloc (.cells #[.int .i64 y, .int .i64 m, .int .i64 d] 43)) wr

theorem rfirst_any (w : World) : Calls Try.prog 44 #[] w fun e w' => e = .returned (.int .i64 (ny 3762)) ∧ Later w w' := by
  have Y := Lib.hid (fun W => rnewyear_any 3762 W (by omega) (by omega))
  go_enter Try.func44, Try.ntmps44
  go_wp2_with fail
  refine (Y.out _).mono ?_
  rintro e w1 ⟨rfl, hg1⟩
  go_wp2_with fail
  go_ret
  exact ⟨rfl, hg1⟩

theorem rlast_any (w : World) : Calls Try.prog 45 #[] w fun e w' => e = .returned (.int .i64 (ny 10000 - 1)) ∧ Later w w' := by
  have Y := Lib.hid (fun W => rnewyear_any 9999 W (by omega) (by omega))
  have L := Lib.hid (fun W => rlen_any 9999 W (by omega) (by omega))
  have E := Lib.hid (Heb.ny_next 9999)
  have b1 := Year.ny_bd 9999 (by omega) (by omega)
  have b2 := Heb.yl_bd 9999
  go_enter Try.func45, Try.ntmps45
  go_wp2_with fail
  refine (Y.out _).mono ?_
  rintro e w1 ⟨rfl, hg1⟩
  go_wp2_with fail
  refine (L.out _).mono ?_
  rintro e w2 ⟨rfl, hg2⟩
  go_wp2_with fail
  go_ret
  exact ⟨ret1 (by have := E.out; simp at this; omega), gtrans hg1 hg2⟩

def YRel (h : Int) (w : World) (x y : Value) (wr : World) : Prop := ∃ i j : Int, 3762 ≤ i ∧ i ≤ h ∧ h < j ∧ j ≤ 10000 ∧ x = .int .i64 i ∧ y = .int .i64 j ∧ Later w wr

set_option maxHeartbeats 1000000 in
theorem ryear_any (n h : Int) (w : World) (h1 : 3762 ≤ h) (h2 : h ≤ 9999) (a1 : ny h ≤ n) (a2 : n < ny (h + 1)) :
    Calls Try.prog 47 #[.int .i64 n] w fun e w' => e = .returned (.int .i64 h) ∧ Later w w' := by
  have Y := Lib.hid (fun (k : Int) (k1 : 3762 ≤ k) (k2 : k ≤ 10000) W => rnewyear_any k W (by omega) (by omega))
  have O := Lib.hid (fun k => Heb.ny_one_of n h k a1 a2)
  clear a1 a2
  go_enter Try.func47, Try.ntmps47
  go_wp2_with fail
  go_loopw [3, 4] (fun x y wr => YRel h w x y wr) (fun x y _ => (intOf y - intOf x).toNat)
  case atStart => exact ⟨3762, 10000, by omega, by omega, by omega, by omega, rfl, rfl, Later.refl w⟩
  case round =>
    obtain ⟨i, j, i0, i1, j0, j1, rfl, rfl, hg⟩ := hrel
    have hq : (i + j).tdiv 2 = (i + j) / 2 := Int.tdiv_eq_ediv_of_nonneg (by omega)
    by_cases hlt : 1 < j - i
    · have hh : i < (i + j) / 2 ∧ (i + j) / 2 < j := by omega
      have o := O.out ((i + j) / 2)
      by_cases hm : (i + j) / 2 ≤ h
      · have t : ny ((i + j) / 2) ≤ n := o.2 hm
        clear o
        go_wp2_with fail
        refine (Y.out _ (by omega) (by omega) _).mono ?_
        rintro e w1 ⟨rfl, hg1⟩
        go_wp2_with fail
        go_roundw
        case rel => exact ⟨(i + j) / 2, j, by omega, by omega, by omega, by omega, rfl, rfl, gtrans hg hg1⟩
        case measure => simp [intOf]; omega
      · have t : ¬ ny ((i + j) / 2) ≤ n := fun x => hm (o.1 x)
        clear o
        go_wp2_with fail
        refine (Y.out _ (by omega) (by omega) _).mono ?_
        rintro e w1 ⟨rfl, hg1⟩
        go_wp2_with fail
        go_roundw
        case rel => exact ⟨i, (i + j) / 2, by omega, by omega, by omega, by omega, rfl, rfl, gtrans hg hg1⟩
        case measure => simp [intOf]; omega
    · obtain rfl : i = h := by omega
      go_wp2_with fail
      go_ret
      exact ⟨rfl, hg⟩

def ORel (n h m : Int) (w : World) (x y : Value) (wr : World) : Prop :=
  ∃ k : Int, 1 ≤ k ∧ k ≤ m ∧ x = .int .i64 (n - ny h - ha (yl h) (lh h) k) ∧ y = .int .i64 k ∧ Later w wr

set_option maxHeartbeats 1000000 in
theorem rof_any (n h m : Int) (w : World) (h1 : 3762 ≤ h) (h2 : h ≤ 9999) (a1 : ny h ≤ n) (a2 : n < ny (h + 1)) (m1 : 1 ≤ m) (m2 : m ≤ 13) (g1 : ha (yl h) (lh h) m ≤ n - ny h) (g2 : n - ny h < ha (yl h) (lh h) (m + 1)) :
    Calls Try.prog 27 #[.int .i64 n] w fun e w' => e = .returned (.agg #[.int .i64 h, .int .i64 m, .int .i64 (n - ny h - ha (yl h) (lh h) m + 1)]) ∧ Later w w' := by
  have Y := Lib.hid (fun W => ryear_any n h W h1 h2 a1 a2)
  have N := Lib.hid (fun W => rnewyear_any h W (by omega) (by omega))
  have D := Lib.hid (fun k W => rdays_any h k W)
  have hb := Year.ny_bd h (by omega) (by omega)
  have hb2 := Year.ny_bd (h + 1) (by omega) (by omega)
  have hn : -10000000 ≤ n ∧ n ≤ 10000000 := by omega
  clear a1 a2 hb2
  go_enter Try.func27, Try.ntmps27
  go_wp2_with fail
  refine (Y.out _).mono ?_
  rintro e w1 ⟨rfl, hg1⟩
  go_wp2_with fail
  refine (N.out _).mono ?_
  rintro e w2 ⟨rfl, hg2⟩
  go_wp2_with fail
  go_loopw [4, 5] (fun x y wr => ORel n h m (w.alloc (.cells #[.int .i64 0, .int .i64 0, .int .i64 0] 43)) x y wr) (fun _ y _ => (20 - intOf y).toNat)
  case atStart => exact ⟨1, by omega, by omega, by rw [Heb.ha_one]; simp, rfl, gtrans hg1 hg2⟩
  case round =>
    obtain ⟨k, k1, k2, rfl, rfl, hg⟩ := hrel
    have ba := Heb.ha_bd (yl h) (lh h) k
    have st := Heb.ha_step (yl h) (lh h) k k1 (by omega)
    have hr := rd_yes h k h1 h2
    have bd := rd_bd h k
    by_cases hlt : k < m
    · have mo := Heb.ha_mono (yl h) (lh h) (k + 1) m (by omega) (by omega) (by omega)
      have t : rd h k ≤ n - ny h - ha (yl h) (lh h) k := by omega
      have HS := Lib.hid st
      have HR := Lib.hid hr
      clear st hr mo g1 g2
      go_wp2_with fail
      refine (D.out _ _).mono ?_
      rintro e w3 ⟨rfl, hg3⟩
      go_wp2_with fail
      refine (D.out _ _).mono ?_
      rintro e w4 ⟨rfl, hg4⟩
      go_wp2_with fail
      go_roundw
      case rel => exact ⟨k + 1, by omega, by omega, by rw [HS.out, HR.out, Int.sub_sub (n - ny h)], rfl, gtrans hg (gtrans hg3 hg4)⟩
      case measure => simp [intOf]; omega
    · obtain rfl : k = m := by omega
      have t : ¬ rd h k ≤ n - ny h - ha (yl h) (lh h) k := by omega
      clear st hr g1 g2
      go_wp2_with fail
      refine (D.out _ _).mono ?_
      rintro e w3 ⟨rfl, hg3⟩
      have hG := gtrans hg hg3
      have c0 := cell4 hG 0 rfl
      have c1 := cell4 hG 1 rfl
      have c2 := cell4 hG 2 rfl
      have f0 := froz4 hG 0
      have f1 := froz4 hG 1
      have f2 := froz4 hG 2
      go_wp2_with fail
      refine bodyPost_ret (v := .agg #[.int .i64 h, .int .i64 k, .int .i64 (n - ny h - ha (yl h) (lh h) k + 1)]) ?_ rfl ⟨rfl, ?_⟩
      · exact results_cell_row (P := Try.prog) (fn := Try.f27) Try.results27 _ _ w.heap.size 43 _ (0, 0) _ rfl (row3 (heap_late hG)) Try.underlying43 rfl (by kernel_rfl)
      exact (((gtrans ((Later.refl w).alloc _ _) hG).setCell (Nat.le_refl _) _).setCell (Nat.le_refl _) _).setCell (Nat.le_refl _) _

theorem day_example (W : World) : Calls Try.prog 30 #[.agg #[.int .i64 5784, .int .i64 8, .int .i64 15]] W fun e w' => e = .returned (.tuple #[.int .i64 738999, .int .i64 0]) ∧ Later W w' := by
  have k := day_yes 5784 8 15 W (by omega) (by omega) (by omega) (by rw [Year.yl_example, Year.lh_example]; decide)
  rw [show ny 5784 + ha (yl 5784) (lh 5784) 8 + 15 - 1 = 738999 by rw [Year.ny_example, Year.yl_example, Year.lh_example, Heb.ha_example]; rfl] at k
  exact k

theorem of_example (W : World) : Calls Try.prog 23 #[.int .i64 738779] W fun e w' => e = .returned (.tuple #[.agg #[.int .i64 5784, .int .i64 1, .int .i64 1], .int .i64 0]) ∧ Later W w' := by
  have hn := Heb.ny_next 5784
  have hy := Year.ny_example
  have hl := Year.yl_example
  have e1 : ha (yl 5784) (lh 5784) 1 = 0 := Heb.ha_one _ _
  have e2 : ha (yl 5784) (lh 5784) (1 + 1) = 30 := by rw [Year.yl_example, Year.lh_example]; decide
  have k := of_yes 738779 5784 1 W (by omega) (by omega) (by omega) (by omega) (by omega) (by omega) (by omega) (by omega)
  rw [show 738779 - ny 5784 - ha (yl 5784) (lh 5784) 1 + 1 = 1 by rw [e1, hy]; rfl] at k
  exact k

theorem days_example (W : World) : Calls Try.prog 54 #[.int .i64 5784, .int .i64 6] W fun e w' => e = .returned (.int .i64 30) ∧ Later W w' := by
  have k := days_yes 5784 6 W (by omega) (by omega)
  rw [Year.yl_example, Year.lh_example, Heb.hd_example] at k
  exact k

end Go.Proofs.Ytdoahnkjkbpdaaa.Hebrew
