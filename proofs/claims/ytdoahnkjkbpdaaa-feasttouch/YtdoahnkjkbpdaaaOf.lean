/-
  A Hebrew date's number, and a number's Hebrew date, by the program. Conditions: as each theorem says.
-/
import Derived.Test.YtdoahnkjkbpdaaaYo
namespace Go.Proofs.Ytdoahnkjkbpdaaa.Hebrew
open Go.ChangeShapes Go.WideShapes Go.ChangeAt Go.RowKit
open Go.Proofs.Ytdoahnkjkbpdaaa.Divs Go.Proofs.Ytdoahnkjkbpdaaa.Grow Go.Proofs.Ytdoahnkjkbpdaaa.Mol
open Go.Proofs.Ytdoahnkjkbpdaaa.Year (lh mh pt md mp p1 p2 po dl ny yl)
open Go.Proofs.Ytdoahnkjkbpdaaa.Heb (hd ha ups)

theorem of_early (n : Int) (w : World) (hn : n < ny 3762) :
    Calls Try.prog 23 #[.int .i64 n] w fun e w' => e = .returned (.tuple #[.agg #[.int .i64 0, .int .i64 0, .int .i64 0], .int .i64 41]) ∧ Later w w' := by
  have F := Lib.hid firstday_any
  go_enter Try.func23, Try.ntmps23
  go_wp2_with fail
  refine (F.out _).mono ?_
  rintro e w1 ⟨rfl, hg1⟩
  have c0 := cell4 hg1 0 rfl
  have c1 := cell4 hg1 1 rfl
  have c2 := cell4 hg1 2 rfl
  have f0 := froz4 hg1 0
  have f1 := froz4 hg1 1
  have f2 := froz4 hg1 2
  go_wp2_with fail
  refine bodyPost_ret (v := .tuple #[.agg #[.int .i64 0, .int .i64 0, .int .i64 0], .int .i64 41]) ?_ rfl ⟨rfl, ?_⟩
  · exact results_row_tmp (P := Try.prog) (fn := Try.f23) Try.results23 _ _ w.heap.size 43 _ (0, 0) _ _ rfl rfl (row3 (heap_late hg1)) Try.underlying43 rfl (by kernel_rfl)
  exact (((gtrans ((Later.refl w).alloc _ _) hg1).setCell (Nat.le_refl _) _).setCell (Nat.le_refl _) _).setCell (Nat.le_refl _) _

theorem of_late (n : Int) (w : World) (hn1 : ny 3762 ≤ n) (hn : ny 10000 - 1 < n) :
    Calls Try.prog 23 #[.int .i64 n] w fun e w' => e = .returned (.tuple #[.agg #[.int .i64 0, .int .i64 0, .int .i64 0], .int .i64 41]) ∧ Later w w' := by
  have F := Lib.hid firstday_any
  have L := Lib.hid lastday_any
  have t1 : ¬ n < ny 3762 := by omega
  clear hn1
  go_enter Try.func23, Try.ntmps23
  go_wp2_with fail
  refine (F.out _).mono ?_
  rintro e w1 ⟨rfl, hg1⟩
  go_wp2_with fail
  refine (L.out _).mono ?_
  rintro e w2 ⟨rfl, hg2⟩
  have hg := gtrans hg1 hg2
  have c0 := cell4 hg 0 rfl
  have c1 := cell4 hg 1 rfl
  have c2 := cell4 hg 2 rfl
  have f0 := froz4 hg 0
  have f1 := froz4 hg 1
  have f2 := froz4 hg 2
  go_wp2_with fail
  refine bodyPost_ret (v := .tuple #[.agg #[.int .i64 0, .int .i64 0, .int .i64 0], .int .i64 41]) ?_ rfl ⟨rfl, ?_⟩
  · exact results_row_tmp (P := Try.prog) (fn := Try.f23) Try.results23 _ _ w.heap.size 43 _ (0, 0) _ _ rfl rfl (row3 (heap_late hg)) Try.underlying43 rfl (by kernel_rfl)
  exact (((gtrans ((Later.refl w).alloc _ _) hg).setCell (Nat.le_refl _) _).setCell (Nat.le_refl _) _).setCell (Nat.le_refl _) _

set_option maxHeartbeats 1000000 in
theorem of_yes (n h m : Int) (w : World) (h1 : 3762 ≤ h) (h2 : h ≤ 9999) (a1 : ny h ≤ n) (a2 : n < ny (h + 1)) (m1 : 1 ≤ m) (m2 : m ≤ 13) (g1 : ha (yl h) (lh h) m ≤ n - ny h) (g2 : n - ny h < ha (yl h) (lh h) (m + 1)) :
    Calls Try.prog 23 #[.int .i64 n] w fun e w' => e = .returned (.tuple #[.agg #[.int .i64 h, .int .i64 m, .int .i64 (n - ny h - ha (yl h) (lh h) m + 1)], .int .i64 0]) ∧ Later w w' := by
  have F := Lib.hid firstday_any
  have L := Lib.hid lastday_any
  have Y := Lib.hid (fun W => yearof_any n h W h1 h2 a1 a2)
  have R := Lib.hid (fun W => yreckon_yes h W h1 h2)
  have hl := Heb.yl_bd h
  have D := Lib.hid (fun W => date_any h (ny h) (yl h) (lh h) (n - ny h) m W (by omega) m1 m2 g1 g2)
  have b1 := Heb.ny_mono 3762 h h1
  have b2 := Heb.ny_mono (h + 1) 10000 (by omega)
  have t1 : ¬ n < ny 3762 := by omega
  have t2 : ¬ ny 10000 - 1 < n := by omega
  have b3 := Year.ny_bd h (by omega) (by omega)
  have b4 := Year.ny_bd (h + 1) (by omega) (by omega)
  have b5 : -10000000 ≤ n ∧ n ≤ 10000000 := by omega
  have HL := Lib.hid hl
  clear a1 a2 g1 g2 b1 b2 b4 hl
  go_enter Try.func23, Try.ntmps23
  go_wp2_with fail
  refine (F.out _).mono ?_
  rintro e w1 ⟨rfl, hg1⟩
  go_wp2_with fail
  refine (L.out _).mono ?_
  rintro e w2 ⟨rfl, hg2⟩
  go_wp2_with fail
  refine (Y.out _).mono ?_
  rintro e w3 ⟨rfl, hg3⟩
  go_wp2_with fail
  refine (R.out _).mono ?_
  rintro e w4 ⟨rfl, hg4⟩
  go_wp2_with fail
  refine (D.out _).mono ?_
  rintro e w5 ⟨rfl, hg5⟩
  have hg := gtrans (gtrans hg1 (gtrans hg2 (gtrans hg3 hg4))) (gtrans ((Later.refl w4).alloc _ _) hg5)
  have c0 := cell4 hg 0 rfl
  have c1 := cell4 hg 1 rfl
  have c2 := cell4 hg 2 rfl
  have f0 := froz4 hg 0
  have f1 := froz4 hg 1
  have f2 := froz4 hg 2
  go_wp2_with fail
  refine bodyPost_ret (v := .tuple #[.agg #[.int .i64 h, .int .i64 m, .int .i64 (n - ny h - ha (yl h) (lh h) m + 1)], .int .i64 0]) ?_ rfl ⟨rfl, ?_⟩
  · exact results_row_tmp (P := Try.prog) (fn := Try.f23) Try.results23 _ _ w.heap.size 43 _ (0, 0) _ _ rfl rfl (row3 (heap_late hg)) Try.underlying43 rfl (by kernel_rfl)
  exact (((gtrans ((Later.refl w).alloc _ _) hg).setCell (Nat.le_refl _) _).setCell (Nat.le_refl _) _).setCell (Nat.le_refl _) _

end Go.Proofs.Ytdoahnkjkbpdaaa.Hebrew
