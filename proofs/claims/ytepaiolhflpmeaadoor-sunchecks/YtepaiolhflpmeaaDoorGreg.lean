/-
  What Day, Of and Nth of layer 2 answer. Conditions: the numbers are ints, the table of months lies where the program lays it, as each theorem says.
-/
import Derived.Test.YtepaiolhflpmeaaDoorMonth
namespace Go.Proofs.YtepaiolhflpmeaaDoor.Greg
open Go.ChangeShapes Go.WideShapes Go.ChangeAt Go.RowKit
open Go.Proofs.YtepaiolhflpmeaaDoor.Divs Go.Proofs.YtepaiolhflpmeaaDoor.Grow
open Go.Proofs.YtepaiolhflpmeaaDoor.Cal (lp ln tab dm ya ma dn yr mo om od)

theorem day_low (y m d : Int) (w : World) (h : d < 1) : Calls Tryd.prog 16 #[.agg #[.int .i64 y, .int .i64 m, .int .i64 d]] w fun e w' => e = .returned (.tuple #[.int .i64 0, .int .i64 20]) ∧ Later w w' := by
  have x2 := gw_new w #[.int .i64 y, .int .i64 m, .int .i64 d] 44 2 (.int .i64 d) rfl
  have X2 := Lib.hid x2
  clear x2
  go_enter Tryd.func16, Tryd.ntmps16
  go_wp2_with fail
  have x2 := X2.out
  refine region_grown (by kernel_rfl) (by kernel_rfl) ?_
  repeat (go_big_quiet_step (fail))
  refine wpQuiet_nil (grown_end ?_)
  intro w2 hg2
  clear x2
  go_wp2_with fail
  go_ret2
  exact ⟨rfl, gtrans ((Later.refl w).alloc _ _) hg2⟩

theorem day_high (y m d : Int) (w : World) (hL : Laid w) (h0 : 1 ≤ d) (h : dm y m < d) : Calls Tryd.prog 16 #[.agg #[.int .i64 y, .int .i64 m, .int .i64 d]] w fun e w' => e = .returned (.tuple #[.int .i64 0, .int .i64 20]) ∧ Later w w' := by
  have X0 := Lib.hid (gw_new w #[.int .i64 y, .int .i64 m, .int .i64 d] 44 0 (.int .i64 y) rfl)
  have X1 := Lib.hid (gw_new w #[.int .i64 y, .int .i64 m, .int .i64 d] 44 1 (.int .i64 m) rfl)
  have X2 := Lib.hid (gw_new w #[.int .i64 y, .int .i64 m, .int .i64 d] 44 2 (.int .i64 d) rfl)
  have hd : decide (d < 1) = false := by simp; omega
  go_enter Tryd.func16, Tryd.ntmps16
  go_wp2_with fail
  have x0 := X0.out
  have x1 := X1.out
  have x2 := X2.out
  have hL1 : Laid (w.alloc (.cells #[.int .i64 y, .int .i64 m, .int .i64 d] 44)) := hL.grown ((Later.refl w).alloc _ _)
  refine region_grown (by kernel_rfl) (by kernel_rfl) ?_
  repeat (go_big_quiet_step ((go_at_call 21; exact in_grown (same_g (days_any _ _ _ (hL1.gw _))))))
  refine wpQuiet_nil (grown_end ?_)
  intro w2 hg2
  clear x0 x1 x2
  go_wp2_with fail
  go_ret2
  exact ⟨rfl, gtrans ((Later.refl w).alloc _ _) hg2⟩

theorem day_no (y m d : Int) (w : World) (hL : Laid w) (h : d < 1 ∨ dm y m < d) : Calls Tryd.prog 16 #[.agg #[.int .i64 y, .int .i64 m, .int .i64 d]] w fun e w' => e = .returned (.tuple #[.int .i64 0, .int .i64 20]) ∧ Later w w' := by
  by_cases h0 : d < 1
  · exact day_low y m d w h0
  · exact day_high y m d w hL (by omega) (by omega)

theorem day_yes (y m d : Int) (w : World) (hL : Laid w) (h1 : 1 ≤ y) (h2 : y ≤ 9999) (h3 : 1 ≤ m) (h4 : m ≤ 12) (d1 : 1 ≤ d) (d2 : d ≤ dm y m) :
    Calls Tryd.prog 16 #[.agg #[.int .i64 y, .int .i64 m, .int .i64 d]] w fun e w' => e = .returned (.tuple #[.int .i64 (dn y m d), .int .i64 0]) ∧ Later w w' := by
  have X0 := Lib.hid (gw_new w #[.int .i64 y, .int .i64 m, .int .i64 d] 44 0 (.int .i64 y) rfl)
  have X1 := Lib.hid (gw_new w #[.int .i64 y, .int .i64 m, .int .i64 d] 44 1 (.int .i64 m) rfl)
  have X2 := Lib.hid (gw_new w #[.int .i64 y, .int .i64 m, .int .i64 d] 44 2 (.int .i64 d) rfl)
  have hd : decide (d < 1) = false := by simp; omega
  have hy := Cal.ya_bd y h1 (by omega)
  have hm := Cal.ma_bd y m (by omega)
  have hl := ln_le y
  have hdm := Cal.dm_le y m
  go_enter Tryd.func16, Tryd.ntmps16
  go_wp2_with fail
  have x0 := X0.out
  have x1 := X1.out
  have x2 := X2.out
  have hL1 : Laid (w.alloc (.cells #[.int .i64 y, .int .i64 m, .int .i64 d] 44)) := hL.grown ((Later.refl w).alloc _ _)
  refine region_grown (by kernel_rfl) (by kernel_rfl) ?_
  repeat (go_big_quiet_step ((go_at_call 21; exact in_grown (same_g (days_any _ _ _ (hL1.gw _))))))
  refine wpQuiet_nil (grown_end ?_)
  intro w2 hg2
  clear x0 x1 x2
  go_wp2_with fail
  have x0 := gw_cell (X0.out ⟨w2, hg2⟩)
  have x1 := gw_cell (X1.out ⟨w2, hg2⟩)
  have x2 := gw_cell (X2.out ⟨w2, hg2⟩)
  have hL2 : Laid w2 := hL1.grown hg2
  refine region_grown (by kernel_rfl) (by kernel_rfl) ?_
  repeat (go_big_quiet_step ((go_at_call 30; exact in_grown (mstart_any _ _ _ (hL2.gw _) h1 h2 h3 h4))))
  refine wpQuiet_nil (grown_end ?_)
  intro w3 hg3
  clear x0 x1 x2
  go_wp2_with fail
  go_ret2
  exact ⟨ret2 (by unfold dn; omega) rfl, gtrans (gtrans ((Later.refl w).alloc _ _) hg2) hg3⟩

end Go.Proofs.YtepaiolhflpmeaaDoor.Greg
