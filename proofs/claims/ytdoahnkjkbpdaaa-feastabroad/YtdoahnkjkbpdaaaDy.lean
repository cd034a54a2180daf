/-
  A Hebrew date's number, by the program. Conditions: as each theorem says.
-/
import Derived.Test.YtdoahnkjkbpdaaaOf
namespace Go.Proofs.Ytdoahnkjkbpdaaa.Hebrew
open Go.ChangeShapes Go.WideShapes Go.ChangeAt Go.RowKit
open Go.Proofs.Ytdoahnkjkbpdaaa.Divs Go.Proofs.Ytdoahnkjkbpdaaa.Grow Go.Proofs.Ytdoahnkjkbpdaaa.Mol
open Go.Proofs.Ytdoahnkjkbpdaaa.Year (lh mh pt md mp p1 p2 po dl ny yl)
open Go.Proofs.Ytdoahnkjkbpdaaa.Heb (hd ha ups)

theorem alloc_g {w : World} {P : Program} {f : FuncId} {args : Array Value} {v : Value} {o : Obj} (h : Calls P f args w fun e w' => e = .returned v ∧ w' = w.alloc o) : Calls P f args w fun e w' => e = .returned v ∧ Later w w' :=
  h.mono fun _ _ ⟨he, hw⟩ => ⟨he, hw ▸ (Later.refl w).put o⟩

theorem day_year (y m d : Int) (w : World) (hb : y < 3762 ∨ 9999 < y) :
    Calls Try.prog 30 #[.agg #[.int .i64 y, .int .i64 m, .int .i64 d]] w fun e w' => e = .returned (.tuple #[.int .i64 0, .int .i64 40]) ∧ Later w w' := by
  have R := Lib.hid (fun W => yreckon_no y W hb)
  clear hb
  go_enter Try.func30, Try.ntmps30
  go_wp2_with fail
  refine (R.out _).mono ?_
  rintro e w1 ⟨rfl, hg1⟩
  go_wp2_with fail
  refine region_grown (by kernel_rfl) (by kernel_rfl) ?_
  repeat (go_big_quiet_step (fail))
  refine wpQuiet_nil (grown_end ?_)
  intro w2 hg2
  go_wp2_with fail
  go_ret2
  exact ⟨rfl, gtrans ((gtrans ((Later.refl w).alloc _ _) hg1).alloc _ _) hg2⟩

theorem day_low (y m d : Int) (w : World) (h1 : 3762 ≤ y) (h2 : y ≤ 9999) (hd : d < 1) :
    Calls Try.prog 30 #[.agg #[.int .i64 y, .int .i64 m, .int .i64 d]] w fun e w' => e = .returned (.tuple #[.int .i64 0, .int .i64 40]) ∧ Later w w' := by
  have R := Lib.hid (fun W => yreckon_yes y W h1 h2)
  go_enter Try.func30, Try.ntmps30
  go_wp2_with fail
  refine (R.out _).mono ?_
  rintro e w1 ⟨rfl, hg1⟩
  go_wp2_with fail
  have x2 := gw_cell (gsome ((Later.refl w1).put (.cells #[.int .i64 y, .int .i64 (ny y), .int .i64 (yl y), .bool (lh y)] 62)) (cell4 hg1 2 rfl))
  refine region_grown (by kernel_rfl) (by kernel_rfl) ?_
  repeat (go_big_quiet_step (fail))
  refine wpQuiet_nil (grown_end ?_)
  intro w2 hg2
  clear x2
  go_wp2_with fail
  go_ret2
  exact ⟨rfl, gtrans ((gtrans ((Later.refl w).alloc _ _) hg1).alloc _ _) hg2⟩

set_option maxHeartbeats 1000000 in
theorem day_high (y m d : Int) (w : World) (h1 : 3762 ≤ y) (h2 : y ≤ 9999) (d1 : 1 ≤ d) (d2 : hd (yl y) (lh y) m < d) :
    Calls Try.prog 30 #[.agg #[.int .i64 y, .int .i64 m, .int .i64 d]] w fun e w' => e = .returned (.tuple #[.int .i64 0, .int .i64 40]) ∧ Later w w' := by
  have R := Lib.hid (fun W => yreckon_yes y W h1 h2)
  have hl := Heb.yl_bd y
  have K := Lib.hid (fun W => alloc_g (ydays_any y (ny y) (yl y) (lh y) m W (by omega)))
  have t1 : decide (d < 1) = false := by simp; omega
  clear hl
  go_enter Try.func30, Try.ntmps30
  go_wp2_with fail
  refine (R.out _).mono ?_
  rintro e w1 ⟨rfl, hg1⟩
  go_wp2_with fail
  have x1 := gw_cell (gsome ((Later.refl w1).put (.cells #[.int .i64 y, .int .i64 (ny y), .int .i64 (yl y), .bool (lh y)] 62)) (cell4 hg1 1 rfl))
  have x2 := gw_cell (gsome ((Later.refl w1).put (.cells #[.int .i64 y, .int .i64 (ny y), .int .i64 (yl y), .bool (lh y)] 62)) (cell4 hg1 2 rfl))
  have y0 := gw_new w1 #[.int .i64 y, .int .i64 (ny y), .int .i64 (yl y), .bool (lh y)] 62 0 (.int .i64 y) rfl
  have y1 := gw_new w1 #[.int .i64 y, .int .i64 (ny y), .int .i64 (yl y), .bool (lh y)] 62 1 (.int .i64 (ny y)) rfl
  have y2 := gw_new w1 #[.int .i64 y, .int .i64 (ny y), .int .i64 (yl y), .bool (lh y)] 62 2 (.int .i64 (yl y)) rfl
  have y3 := gw_new w1 #[.int .i64 y, .int .i64 (ny y), .int .i64 (yl y), .bool (lh y)] 62 3 (.bool (lh y)) rfl
  refine region_grown (by kernel_rfl) (by kernel_rfl) ?_
  repeat (go_big_quiet_step ((go_at_call 51; exact in_grown (K.out _))))
  refine wpQuiet_nil (grown_end ?_)
  intro w2 hg2
  clear x1 x2 y0 y1 y2 y3
  go_wp2_with fail
  go_ret2
  exact ⟨rfl, gtrans ((gtrans ((Later.refl w).alloc _ _) hg1).alloc _ _) hg2⟩

set_option maxHeartbeats 1000000 in
theorem day_yes (y m d : Int) (w : World) (h1 : 3762 ≤ y) (h2 : y ≤ 9999) (d1 : 1 ≤ d) (d2 : d ≤ hd (yl y) (lh y) m) :
    Calls Try.prog 30 #[.agg #[.int .i64 y, .int .i64 m, .int .i64 d]] w fun e w' => e = .returned (.tuple #[.int .i64 (ny y + ha (yl y) (lh y) m + d - 1), .int .i64 0]) ∧ Later w w' := by
  have R := Lib.hid (fun W => yreckon_yes y W h1 h2)
  have hl := Heb.yl_bd y
  have K := Lib.hid (fun W => alloc_g (ydays_any y (ny y) (yl y) (lh y) m W (by omega)))
  have A := Lib.hid (fun W => ahead_any y (ny y) (yl y) (lh y) m W (by omega) (by omega))
  have t1 : decide (d < 1) = false := by simp; omega
  have b1 := Year.ny_bd y (by omega) (by omega)
  have b2 := Heb.ha_bd (yl y) (lh y) m
  have b3 := Heb.hd_bd (yl y) (lh y) m
  clear hl
  go_enter Try.func30, Try.ntmps30
  go_wp2_with fail
  refine (R.out _).mono ?_
  rintro e w1 ⟨rfl, hg1⟩
  go_wp2_with fail
  have X1 := Lib.hid (gw_cell (gsome ((Later.refl w1).put (.cells #[.int .i64 y, .int .i64 (ny y), .int .i64 (yl y), .bool (lh y)] 62)) (cell4 hg1 1 rfl)))
  have X2 := Lib.hid (gw_cell (gsome ((Later.refl w1).put (.cells #[.int .i64 y, .int .i64 (ny y), .int .i64 (yl y), .bool (lh y)] 62)) (cell4 hg1 2 rfl)))
  have Y0 := Lib.hid (gw_new w1 #[.int .i64 y, .int .i64 (ny y), .int .i64 (yl y), .bool (lh y)] 62 0 (.int .i64 y) rfl)
  have Y1 := Lib.hid (gw_new w1 #[.int .i64 y, .int .i64 (ny y), .int .i64 (yl y), .bool (lh y)] 62 1 (.int .i64 (ny y)) rfl)
  have Y2 := Lib.hid (gw_new w1 #[.int .i64 y, .int .i64 (ny y), .int .i64 (yl y), .bool (lh y)] 62 2 (.int .i64 (yl y)) rfl)
  have Y3 := Lib.hid (gw_new w1 #[.int .i64 y, .int .i64 (ny y), .int .i64 (yl y), .bool (lh y)] 62 3 (.bool (lh y)) rfl)
  have x1 := X1.out
  have x2 := X2.out
  have y0 := Y0.out
  have y1 := Y1.out
  have y2 := Y2.out
  have y3 := Y3.out
  refine region_grown (by kernel_rfl) (by kernel_rfl) ?_
  repeat (go_big_quiet_step ((go_at_call 51; exact in_grown (K.out _))))
  refine wpQuiet_nil (grown_end ?_)
  intro w2 hg2
  clear x1 x2 y0 y1 y2 y3
  go_wp2_with fail
  have x1 := gw_cell (X1.out ⟨w2, hg2⟩)
  have x2 := gw_cell (X2.out ⟨w2, hg2⟩)
  have y0 := gw_cell (Y0.out ⟨w2, hg2⟩)
  have y1 := gw_cell (Y1.out ⟨w2, hg2⟩)
  have y2 := gw_cell (Y2.out ⟨w2, hg2⟩)
  have y3 := gw_cell (Y3.out ⟨w2, hg2⟩)
  refine region_grown (by kernel_rfl) (by kernel_rfl) ?_
  repeat (go_big_quiet_step ((go_at_call 52; exact in_grown (A.out _))))
  refine wpQuiet_nil (grown_end ?_)
  intro w3 hg3
  clear x1 x2 y0 y1 y2 y3
  go_wp2_with fail
  go_ret2
  exact ⟨rfl, gtrans (gtrans ((gtrans ((Later.refl w).alloc _ _) hg1).alloc _ _) hg2) hg3⟩

end Go.Proofs.Ytdoahnkjkbpdaaa.Hebrew
