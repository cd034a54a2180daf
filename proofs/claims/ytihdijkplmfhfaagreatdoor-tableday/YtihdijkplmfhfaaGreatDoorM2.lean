/-
  Texts of mine, merged: each part says what it holds. Conditions: as each theorem states.
-/
import Derived.Test.YtihdijkplmfhfaaGreatDoorM1

/- What Day, Of and Nth of layer 2 answer. Conditions: the numbers are ints, the table of months lies where the program lays it, as each theorem says. -/
namespace Go.Proofs.YtihdijkplmfhfaaGreatDoor.Greg
set_option maxRecDepth 100000
open Go.ChangeShapes Go.WideShapes Go.ChangeAt Go.RowKit
open Go.Proofs.YtihdijkplmfhfaaGreatDoor.Divs Go.Proofs.YtihdijkplmfhfaaGreatDoor.Grow
open Go.Proofs.YtihdijkplmfhfaaGreatDoor.Cal (lp ln tab dm ya ma dn yr mo om od)

theorem day_low (y m d : Int) (w : World) (h : d < 1) : Calls Tryz.prog 25 #[.agg #[.int .i64 y, .int .i64 m, .int .i64 d]] w fun e w' => e = .returned (.tuple #[.int .i64 0, .int .i64 20]) ∧ Later w w' := by
  have x2 := gw_new w #[.int .i64 y, .int .i64 m, .int .i64 d] 63 2 (.int .i64 d) rfl
  have X2 := Lib.hid x2
  clear x2
  go_enter Tryz.func25, Tryz.ntmps25
  go_wp2_with fail
  have x2 := X2.out
  refine region_grown (by kernel_rfl) (by kernel_rfl) ?_
  repeat (go_big_quiet_step (fail))
  refine wpQuiet_nil (grown_end ?_)
  intro w2 hg2
  clear x2
  go_wp2_with fail
  go_ret2
  exact ⟨rfl, gtrans ((Later.refl w).alloc _ _) hg2⟩

theorem day_high (y m d : Int) (w : World) (hL : Laid w) (h0 : 1 ≤ d) (h : dm y m < d) : Calls Tryz.prog 25 #[.agg #[.int .i64 y, .int .i64 m, .int .i64 d]] w fun e w' => e = .returned (.tuple #[.int .i64 0, .int .i64 20]) ∧ Later w w' := by
  have X0 := Lib.hid (gw_new w #[.int .i64 y, .int .i64 m, .int .i64 d] 63 0 (.int .i64 y) rfl)
  have X1 := Lib.hid (gw_new w #[.int .i64 y, .int .i64 m, .int .i64 d] 63 1 (.int .i64 m) rfl)
  have X2 := Lib.hid (gw_new w #[.int .i64 y, .int .i64 m, .int .i64 d] 63 2 (.int .i64 d) rfl)
  have hd : decide (d < 1) = false := by simp; omega
  go_enter Tryz.func25, Tryz.ntmps25
  go_wp2_with fail
  have x0 := X0.out
  have x1 := X1.out
  have x2 := X2.out
  have hL1 : Laid (w.alloc (.cells #[.int .i64 y, .int .i64 m, .int .i64 d] 63)) := hL.grown ((Later.refl w).alloc _ _)
  refine region_grown (by kernel_rfl) (by kernel_rfl) ?_
  repeat (go_big_quiet_step ((go_at_call 52; exact in_grown (same_g (days_any _ _ _ (hL1.gw _))))))
  refine wpQuiet_nil (grown_end ?_)
  intro w2 hg2
  clear x0 x1 x2
  go_wp2_with fail
  go_ret2
  exact ⟨rfl, gtrans ((Later.refl w).alloc _ _) hg2⟩

theorem day_no (y m d : Int) (w : World) (hL : Laid w) (h : d < 1 ∨ dm y m < d) : Calls Tryz.prog 25 #[.agg #[.int .i64 y, .int .i64 m, .int .i64 d]] w fun e w' => e = .returned (.tuple #[.int .i64 0, .int .i64 20]) ∧ Later w w' := by
  by_cases h0 : d < 1
  · exact day_low y m d w h0
  · exact day_high y m d w hL (by omega) (by omega)

theorem day_yes (y m d : Int) (w : World) (hL : Laid w) (h1 : 1 ≤ y) (h2 : y ≤ 9999) (h3 : 1 ≤ m) (h4 : m ≤ 12) (d1 : 1 ≤ d) (d2 : d ≤ dm y m) :
    Calls Tryz.prog 25 #[.agg #[.int .i64 y, .int .i64 m, .int .i64 d]] w fun e w' => e = .returned (.tuple #[.int .i64 (dn y m d), .int .i64 0]) ∧ Later w w' := by
  have X0 := Lib.hid (gw_new w #[.int .i64 y, .int .i64 m, .int .i64 d] 63 0 (.int .i64 y) rfl)
  have X1 := Lib.hid (gw_new w #[.int .i64 y, .int .i64 m, .int .i64 d] 63 1 (.int .i64 m) rfl)
  have X2 := Lib.hid (gw_new w #[.int .i64 y, .int .i64 m, .int .i64 d] 63 2 (.int .i64 d) rfl)
  have hd : decide (d < 1) = false := by simp; omega
  have hy := Cal.ya_bd y h1 (by omega)
  have hm := Cal.ma_bd y m (by omega)
  have hl := ln_le y
  have hdm := Cal.dm_le y m
  go_enter Tryz.func25, Tryz.ntmps25
  go_wp2_with fail
  have x0 := X0.out
  have x1 := X1.out
  have x2 := X2.out
  have hL1 : Laid (w.alloc (.cells #[.int .i64 y, .int .i64 m, .int .i64 d] 63)) := hL.grown ((Later.refl w).alloc _ _)
  refine region_grown (by kernel_rfl) (by kernel_rfl) ?_
  repeat (go_big_quiet_step ((go_at_call 52; exact in_grown (same_g (days_any _ _ _ (hL1.gw _))))))
  refine wpQuiet_nil (grown_end ?_)
  intro w2 hg2
  clear x0 x1 x2
  go_wp2_with fail
  have x0 := gw_cell (X0.out ⟨w2, hg2⟩)
  have x1 := gw_cell (X1.out ⟨w2, hg2⟩)
  have x2 := gw_cell (X2.out ⟨w2, hg2⟩)
  have hL2 : Laid w2 := hL1.grown hg2
  refine region_grown (by kernel_rfl) (by kernel_rfl) ?_
  repeat (go_big_quiet_step ((go_at_call 53; exact in_grown (mstart_any _ _ _ (hL2.gw _) h1 h2 h3 h4))))
  refine wpQuiet_nil (grown_end ?_)
  intro w3 hg3
  clear x0 x1 x2
  go_wp2_with fail
  go_ret2
  exact ⟨ret2 (by unfold dn; omega) rfl, gtrans (gtrans ((Later.refl w).alloc _ _) hg2) hg3⟩

end Go.Proofs.YtihdijkplmfhfaaGreatDoor.Greg

/- What Of and Nth of layer 2 answer. Conditions: the numbers are ints, the table of months lies where the program lays it, as each theorem says. -/
namespace Go.Proofs.YtihdijkplmfhfaaGreatDoor.Greg
set_option maxRecDepth 100000
open Go.ChangeShapes Go.WideShapes Go.ChangeAt Go.RowKit
open Go.Proofs.YtihdijkplmfhfaaGreatDoor.Divs Go.Proofs.YtihdijkplmfhfaaGreatDoor.Grow
open Go.Proofs.YtihdijkplmfhfaaGreatDoor.Cal (lp ln tab dm ya ma dn yr mo om od)

theorem of_no (n : Int) (w : World) (h : n < 1 ∨ 3652059 < n) : Calls Tryz.prog 70 #[.int .i64 n] w fun e w' => e = .returned (.tuple #[.agg #[.int .i64 0, .int .i64 0, .int .i64 0], .int .i64 21]) ∧ Later w w' := by
  by_cases h1 : n < 1
  · clear h
    go_enter Tryz.func70, Tryz.ntmps70
    go_wp2
    exact bodyPost_ret (v := .tuple #[.agg #[.int .i64 0, .int .i64 0, .int .i64 0], .int .i64 21]) (by simp [results, Tryz.results70, go_sem]) rfl ⟨rfl, (Later.refl w).alloc _ _⟩
  · have h2 : 3652059 < n := by omega
    clear h
    go_enter Tryz.func70, Tryz.ntmps70
    go_wp2
    exact bodyPost_ret (v := .tuple #[.agg #[.int .i64 0, .int .i64 0, .int .i64 0], .int .i64 21]) (by simp [results, Tryz.results70, go_sem]) rfl ⟨rfl, (Later.refl w).alloc _ _⟩

set_option maxHeartbeats 1000000 in
theorem of_yes (n : Int) (w : World) (hL : Laid w) (h1 : 1 ≤ n) (h2 : n ≤ 3652059) : Calls Tryz.prog 70 #[.int .i64 n] w fun e w' => e = .returned (.tuple #[.agg #[.int .i64 (yr n), .int .i64 (om n), .int .i64 (od n)], .int .i64 0]) ∧ Later w w' := by
  obtain ⟨a, b, c, d, e, f, _, _, _, _⟩ := Cal.of_spec n h1 h2
  have hy := Cal.ya_bd (yr n) a (by omega)
  go_enter Tryz.func70, Tryz.ntmps70
  go_wp2_with fail
  refine (yr_any _ _ h1 h2).mono ?_
  rintro e w' ⟨rfl, n1, rfl⟩
  go_wp2_with fail
  refine (ya_any _ _ a (by omega)).mono ?_
  rintro e w' ⟨rfl, rfl⟩
  go_wp2_with fail
  have hL1 : Laid ((w.alloc (.cells #[.int .i64 0, .int .i64 0, .int .i64 0] 63)).drewN n1) := hL.grown ((Later.refl w).alloc _ _)
  refine (mof_any _ _ _ hL1 a b e f).mono ?_
  rintro e w1 ⟨rfl, hg1⟩
  have c0 : w1.cell? ⟨w.heap.size, 0, none⟩ = some (.int .i64 0) := gsome hg1 (by simp)
  have c1 : w1.cell? ⟨w.heap.size, 1, none⟩ = some (.int .i64 0) := gsome hg1 (by simp)
  have c2 : w1.cell? ⟨w.heap.size, 2, none⟩ = some (.int .i64 0) := gsome hg1 (by simp)
  have hf : ∀ i, w1.frozen? ⟨w.heap.size, i, none⟩ = false := fun i => (gfrozen hg1 _ i (by simp)).trans (by simp)
  have f0 := hf 0
  have f1 := hf 1
  have f2 := hf 2
  clear hf
  go_wp2_with fail
  refine bodyPost_ret (v := .tuple #[.agg #[.int .i64 (yr n), .int .i64 (om n), .int .i64 (od n)], .int .i64 0]) ?_ rfl ⟨rfl, ?_⟩
  · simp [results, Tryz.results70, go_sem, c0, c1, c2]
    exact ⟨rfl, rfl⟩
  · have hG : Later w w1 := gtrans ((Later.refl w).alloc _ _) hg1
    exact ((hG.setCell (Nat.le_refl _) _).setCell (Nat.le_refl _) _).setCell (Nat.le_refl _) _

theorem nth_date (y m v k : Int) (w : World) (h : dm y m = 0) (hL : Laid w) : Calls Tryz.prog 133 #[.int .i64 y, .int .i64 m, .int .i64 v, .int .i64 k] w fun e w' => e = .returned (.tuple #[.int .i64 0, .int .i64 20]) ∧ Later w w' := by
  have t : (dm y m == 0) = true := by rw [h]; rfl
  clear h
  go_enter Tryz.func133, Tryz.ntmps133
  go_wp2_with fail
  refine (days_any _ _ _ hL).mono ?_
  rintro e w' ⟨rfl, rfl⟩
  go_wp2_with fail
  go_ret2
  exact ⟨rfl, Later.refl _⟩

theorem nth_bad (y m v k : Int) (w : World) (h : ¬ dm y m = 0) (hL : Laid w) (hb : v < 0 ∨ 6 < v ∨ (¬ k = -1 ∧ (k < 1 ∨ 5 < k))) : Calls Tryz.prog 133 #[.int .i64 y, .int .i64 m, .int .i64 v, .int .i64 k] w fun e w' => e = .returned (.tuple #[.int .i64 0, .int .i64 22]) ∧ Later w w' := by
  have t : (dm y m == 0) = false := beq_eq_false_iff_ne.2 h
  clear h
  by_cases h1 : v < 0
  · clear hb
    go_enter Tryz.func133, Tryz.ntmps133
    go_wp2_with fail
    refine (days_any _ _ _ hL).mono ?_
    rintro e w' ⟨rfl, rfl⟩
    go_wp2_with fail
    go_ret2
    exact ⟨rfl, Later.refl _⟩
  by_cases h2 : 7 ≤ v
  · clear hb
    go_enter Tryz.func133, Tryz.ntmps133
    go_wp2_with fail
    refine (days_any _ _ _ hL).mono ?_
    rintro e w' ⟨rfl, rfl⟩
    go_wp2_with fail
    go_ret2
    exact ⟨rfl, Later.refl _⟩
  have h3 : ¬ k = -1 ∧ (k < 1 ∨ 5 < k) := by omega
  clear hb
  have u : (k != -1) = true := bne_iff_ne.2 h3.1
  by_cases h4 : k < 1
  · clear h3
    go_enter Tryz.func133, Tryz.ntmps133
    go_wp2_with fail
    refine (days_any _ _ _ hL).mono ?_
    rintro e w' ⟨rfl, rfl⟩
    go_wp2_with fail
    go_ret2
    exact ⟨rfl, Later.refl _⟩
  have h5 : 5 < k := by omega
  clear h3
  go_enter Tryz.func133, Tryz.ntmps133
  go_wp2_with fail
  refine (days_any _ _ _ hL).mono ?_
  rintro e w' ⟨rfl, rfl⟩
  go_wp2_with fail
  go_ret2
  exact ⟨rfl, Later.refl _⟩

theorem nth_last (y m v : Int) (w : World) (hL : Laid w) (h1 : 1 ≤ y) (h2 : y ≤ 9999) (h3 : 1 ≤ m) (h4 : m ≤ 12) (v0 : 0 ≤ v) (v1 : v < 7) :
    Calls Tryz.prog 133 #[.int .i64 y, .int .i64 m, .int .i64 v, .int .i64 (-1)] w fun e w' => e = .returned (.tuple #[.int .i64 (fo (ya y + ma y m + 1 + dm y m - 1 - 7 + 1) v), .int .i64 0]) ∧ Later w w' := by
  have hy := Cal.ya_bd y h1 (by omega)
  have hm := Cal.ma_bd y m (by omega)
  have hl := ln_le y
  have hd := Cal.dm_bd y m h1 h2 h3 h4
  have t : (dm y m == 0) = false := beq_eq_false_iff_ne.2 (by omega)
  go_enter Tryz.func133, Tryz.ntmps133
  go_wp2_with fail
  refine (days_any _ _ _ hL).mono ?_
  rintro e w' ⟨rfl, rfl⟩
  go_wp2_with fail
  refine (mstart_any _ _ _ hL h1 h2 h3 h4).mono ?_
  rintro e w1 ⟨rfl, hg1⟩
  go_wp2_with fail
  refine (fo_any _ _ _ (by omega) (by omega) v0 v1).mono ?_
  rintro e w2 ⟨rfl, n, rfl⟩
  go_wp2_with fail
  go_ret2
  exact ⟨rfl, hg1⟩

theorem nth_none (y m v k : Int) (w : World) (hL : Laid w) (h1 : 1 ≤ y) (h2 : y ≤ 9999) (h3 : 1 ≤ m) (h4 : m ≤ 12) (v0 : 0 ≤ v) (v1 : v < 7) (k1 : 1 ≤ k) (k2 : k ≤ 5) (hn : ya y + ma y m + 1 + dm y m - 1 < fo (ya y + ma y m + 1) v + (k - 1) * 7) :
    Calls Tryz.prog 133 #[.int .i64 y, .int .i64 m, .int .i64 v, .int .i64 k] w fun e w' => e = .returned (.tuple #[.int .i64 0, .int .i64 22]) ∧ Later w w' := by
  have hy := Cal.ya_bd y h1 (by omega)
  have hm := Cal.ma_bd y m (by omega)
  have hl := ln_le y
  have hd := Cal.dm_bd y m h1 h2 h3 h4
  have t : (dm y m == 0) = false := beq_eq_false_iff_ne.2 (by omega)
  have u : (k == -1) = false := beq_eq_false_iff_ne.2 (by omega)
  have u' : (k != -1) = true := bne_iff_ne.2 (by omega)
  have hf := fo_bd (ya y + ma y m + 1) v v0 v1
  have hf1 := hf.1
  have hf2 := hf.2.1
  clear hf
  go_enter Tryz.func133, Tryz.ntmps133
  go_wp2_with fail
  refine (days_any _ _ _ hL).mono ?_
  rintro e w' ⟨rfl, rfl⟩
  go_wp2_with fail
  refine (mstart_any _ _ _ hL h1 h2 h3 h4).mono ?_
  rintro e w1 ⟨rfl, hg1⟩
  go_wp2_with fail
  refine (fo_any _ _ _ (by omega) (by omega) v0 v1).mono ?_
  rintro e w2 ⟨rfl, n, rfl⟩
  go_wp2_with fail
  go_ret2
  exact ⟨rfl, hg1⟩

theorem nth_some (y m v k : Int) (w : World) (hL : Laid w) (h1 : 1 ≤ y) (h2 : y ≤ 9999) (h3 : 1 ≤ m) (h4 : m ≤ 12) (v0 : 0 ≤ v) (v1 : v < 7) (k1 : 1 ≤ k) (k2 : k ≤ 5) (hn : fo (ya y + ma y m + 1) v + (k - 1) * 7 ≤ ya y + ma y m + 1 + dm y m - 1) :
    Calls Tryz.prog 133 #[.int .i64 y, .int .i64 m, .int .i64 v, .int .i64 k] w fun e w' => e = .returned (.tuple #[.int .i64 (fo (ya y + ma y m + 1) v + (k - 1) * 7), .int .i64 0]) ∧ Later w w' := by
  have hy := Cal.ya_bd y h1 (by omega)
  have hm := Cal.ma_bd y m (by omega)
  have hl := ln_le y
  have hd := Cal.dm_bd y m h1 h2 h3 h4
  have t : (dm y m == 0) = false := beq_eq_false_iff_ne.2 (by omega)
  have u : (k == -1) = false := beq_eq_false_iff_ne.2 (by omega)
  have u' : (k != -1) = true := bne_iff_ne.2 (by omega)
  have hf := fo_bd (ya y + ma y m + 1) v v0 v1
  have hf1 := hf.1
  have hf2 := hf.2.1
  clear hf
  go_enter Tryz.func133, Tryz.ntmps133
  go_wp2_with fail
  refine (days_any _ _ _ hL).mono ?_
  rintro e w' ⟨rfl, rfl⟩
  go_wp2_with fail
  refine (mstart_any _ _ _ hL h1 h2 h3 h4).mono ?_
  rintro e w1 ⟨rfl, hg1⟩
  go_wp2_with fail
  refine (fo_any _ _ _ (by omega) (by omega) v0 v1).mono ?_
  rintro e w2 ⟨rfl, n, rfl⟩
  go_wp2_with fail
  go_ret2
  exact ⟨rfl, hg1⟩

end Go.Proofs.YtihdijkplmfhfaaGreatDoor.Greg

/- What the document's own answers of layer 2 come to, call by call: leap years, months, weekdays, and whether a date may be. Conditions: the numbers are ints, as each theorem says. -/
namespace Go.Proofs.YtihdijkplmfhfaaGreatDoor.Greg
set_option maxRecDepth 100000
open Go.ChangeShapes Go.WideShapes Go.ChangeAt Go.RowKit
open Go.Proofs.YtihdijkplmfhfaaGreatDoor.Divs Go.Proofs.YtihdijkplmfhfaaGreatDoor.Grow
open Go.Proofs.YtihdijkplmfhfaaGreatDoor.Cal (lp ln tab dm ya ma dn yr mo om od)

theorem rleap_any (y : Int) (w : World) : Calls Tryz.prog 106 #[.int .i64 y] w fun e w' => e = .returned (.bool (lp y)) ∧ w = w' := by
  have HL := Lib.hid (lp_of y)
  by_cases hs : 0 ≤ y
  · rcases Bool.eq_false_or_eq_true (y % 4 == 0) with t4 | t4 <;> rcases Bool.eq_false_or_eq_true (y % 100 == 0) with t100 | t100 <;> rcases Bool.eq_false_or_eq_true (y % 400 == 0) with t400 | t400
    all_goals
      have u100 : (y % 100 != 0) = !(y % 100 == 0) := rfl
      rw [t100] at u100
      go_enter Tryz.func106, Tryz.ntmps106
      go_wp2
      go_ret
      exact ⟨retb (by rw [HL.out]; simp [t4, u100, t400]), rfl⟩
  · have e4 := tm0 y 4
    have e100 := tm0 y 100
    have e400 := tm0 y 400
    rcases Bool.eq_false_or_eq_true (y % 4 == 0) with t4 | t4 <;> rcases Bool.eq_false_or_eq_true (y % 100 == 0) with t100 | t100 <;> rcases Bool.eq_false_or_eq_true (y % 400 == 0) with t400 | t400
    all_goals
      rw [t4] at e4
      rw [t400] at e400
      have u100 : (y.tmod 100 != 0) = !(y.tmod 100 == 0) := rfl
      have v100 : (y % 100 != 0) = !(y % 100 == 0) := rfl
      rw [t100] at e100 v100
      rw [e100] at u100
      have T4 := Lib.hid t4
      have T400 := Lib.hid t400
      have V100 := Lib.hid v100
      clear t4 t400 v100 t100
      go_enter Tryz.func106, Tryz.ntmps106
      go_wp2
      go_ret
      exact ⟨retb (by rw [HL.out, T4.out, T400.out, V100.out]; rfl), rfl⟩

theorem long_any (y : Int) (w : World) : Calls Tryz.prog 72 #[.int .i64 y] w fun e w' => e = .returned (.int .i64 (ln y)) ∧ w = w' := by
  have hk := fun W => rleap_any y W
  rcases Cal.ln_cases y with ⟨h, e⟩ | ⟨h, e⟩
  all_goals
    rw [h] at hk
    have HK := Lib.hid hk
    have HE := Lib.hid e
    clear hk h e
    go_enter Tryz.func72, Tryz.ntmps72
    go_wp2_with (go_at_call 106; refine (HK.out _).mono ?_; rintro e w' ⟨rfl, rfl⟩)
    go_ret
    exact ⟨ret1 HE.out.symm, rfl⟩

theorem rdays_no (y m : Int) (w : World) (h : y < 1 ∨ 9999 < y ∨ m < 1 ∨ 12 < m) : Calls Tryz.prog 73 #[.int .i64 y, .int .i64 m] w fun e w' => e = .returned (.int .i64 (dm y m)) ∧ w = w' := by
  have HV := Lib.hid (Cal.dm_no y m h)
  by_cases h1 : y < 1
  · clear h
    go_enter Tryz.func73, Tryz.ntmps73
    go_wp2
    go_ret
    exact ⟨ret1 HV.out.symm, rfl⟩
  by_cases h2 : 9999 < y
  · clear h
    go_enter Tryz.func73, Tryz.ntmps73
    go_wp2
    go_ret
    exact ⟨ret1 HV.out.symm, rfl⟩
  by_cases h3 : m < 1
  · clear h
    go_enter Tryz.func73, Tryz.ntmps73
    go_wp2
    go_ret
    exact ⟨ret1 HV.out.symm, rfl⟩
  have h4 : 12 < m := by omega
  clear h
  go_enter Tryz.func73, Tryz.ntmps73
  go_wp2
  go_ret
  exact ⟨ret1 HV.out.symm, rfl⟩

theorem rdays_yes (y m : Int) (w : World) (h1 : 1 ≤ y) (h2 : y ≤ 9999) (h3 : 1 ≤ m) (h4 : m ≤ 12) : Calls Tryz.prog 73 #[.int .i64 y, .int .i64 m] w fun e w' => e = .returned (.int .i64 (dm y m)) ∧ w = w' := by
  by_cases h5 : m = 2
  · subst h5
    have HF := Lib.hid (dm_feb y h1 h2)
    have hk := fun W => rleap_any y W
    clear h3 h4
    cases hl : lp y with
    | true =>
      have HL := Lib.hid hl
      rw [hl] at hk
      have HK := Lib.hid hk
      clear hl hk
      go_enter Tryz.func73, Tryz.ntmps73
      go_wp2_with (go_at_call 106; refine (HK.out _).mono ?_; rintro e w' ⟨rfl, rfl⟩)
      go_ret
      exact ⟨ret1 (by rw [HF.out, HL.out]; rfl), rfl⟩
    | false =>
      have HL := Lib.hid hl
      rw [hl] at hk
      have HK := Lib.hid hk
      clear hl hk
      go_enter Tryz.func73, Tryz.ntmps73
      go_wp2_with (go_at_call 106; refine (HK.out _).mono ?_; rintro e w' ⟨rfl, rfl⟩)
      go_ret
      exact ⟨ret1 (by rw [HF.out, HL.out]; rfl), rfl⟩
  · have hv := dm_not y m h1 h2 h3 h4 h5
    obtain rfl | rfl | rfl | rfl | rfl | rfl | rfl | rfl | rfl | rfl | rfl : m = 1 ∨ m = 3 ∨ m = 4 ∨ m = 5 ∨ m = 6 ∨ m = 7 ∨ m = 8 ∨ m = 9 ∨ m = 10 ∨ m = 11 ∨ m = 12 := by omega
    all_goals
      have HV := Lib.hid hv
      clear hv h3 h4 h5
      go_enter Tryz.func73, Tryz.ntmps73
      go_wp2
      go_ret
      exact ⟨ret1 (by rw [HV.out]; decide), rfl⟩

theorem rdays_any (y m : Int) (w : World) : Calls Tryz.prog 73 #[.int .i64 y, .int .i64 m] w fun e w' => e = .returned (.int .i64 (dm y m)) ∧ w = w' := by
  by_cases h : y < 1 ∨ 9999 < y ∨ m < 1 ∨ 12 < m
  · exact rdays_no y m w h
  · exact rdays_yes y m w (by omega) (by omega) (by omega) (by omega)

theorem rmod7 (a : Int) (w : World) (ha0 : -9223372036854775808 ≤ a) (ha1 : a ≤ 9223372036854775807) :
    Calls Tryz.prog 126 #[.int .i64 a, .int .i64 7] w fun e w' => e = .returned (.int .i64 (a % 7)) ∧ w = w' := by
  have ht := tpair a 7 (by omega)
  have hm0 := Int.emod_nonneg a (show (7 : Int) ≠ 0 by omega)
  have hm1 := Int.emod_lt_of_pos a (show (0 : Int) < 7 by omega)
  by_cases hs : a < 0
  · by_cases hr : a.tmod 7 < 0
    · obtain ⟨h1, h2⟩ := ht.1 hr
      have hr0 : 0 ≤ a.tmod 7 + 7 := by omega
      have hr1 : a.tmod 7 + 7 < 7 := by omega
      have H2 := Lib.hid h2
      clear h1 h2 ht hm0 hm1
      go_enter Tryz.func126, Tryz.ntmps126
      go_wp2
      go_ret
      exact ⟨ret1 H2.out, rfl⟩
    · obtain ⟨h1, h2⟩ := ht.2 (by omega)
      have H2 := Lib.hid h2
      clear h1 h2 ht hm0 hm1
      go_enter Tryz.func126, Tryz.ntmps126
      go_wp2
      go_ret
      exact ⟨ret1 H2.out, rfl⟩
  · have h0 : 0 ≤ a := by omega
    have h3 : ¬ a % 7 < 0 := by omega
    clear ht
    go_enter Tryz.func126, Tryz.ntmps126
    go_wp2
    go_ret
    exact ⟨rfl, rfl⟩

theorem rweekday_any (n : Int) (w : World) (h0 : -9223372036854775808 ≤ n) (h1 : n ≤ 9223372036854775807) : Calls Tryz.prog 97 #[.int .i64 n] w fun e w' => e = .returned (.int .i64 (n % 7)) ∧ w = w' := by
  go_enter Tryz.func97, Tryz.ntmps97
  go_wp2_with (go_at_call 126; refine (rmod7 _ _ h0 h1).mono ?_; rintro e w' ⟨rfl, rfl⟩)
  go_ret
  exact ⟨rfl, rfl⟩

/-- May a date be? -/
def mayB (y m d : Int) : Bool := decide (1 ≤ d ∧ d ≤ dm y m)

end Go.Proofs.YtihdijkplmfhfaaGreatDoor.Greg

/- What the document's own Day and Of come to: year by year, month by month, they are the reckoned ones. Conditions: the date may be (its day from 0 on), the number is a day's. -/
namespace Go.Proofs.YtihdijkplmfhfaaGreatDoor.Greg
set_option maxRecDepth 100000
open Go.ChangeShapes Go.WideShapes Go.ChangeAt Go.RowKit
open Go.Proofs.YtihdijkplmfhfaaGreatDoor.Divs Go.Proofs.YtihdijkplmfhfaaGreatDoor.Grow
open Go.Proofs.YtihdijkplmfhfaaGreatDoor.Cal (lp ln tab dm ya ma dn yr mo om od)

def YRel (y d : Int) (n i : Value) : Prop := ∃ k : Int, 1 ≤ k ∧ k ≤ y ∧ i = .int .i64 k ∧ n = .int .i64 (d + ya k)
def NRel (y m d : Int) (n i : Value) : Prop := ∃ k : Int, 1 ≤ k ∧ k ≤ m ∧ i = .int .i64 k ∧ n = .int .i64 (d + ya y + ma y k)

set_option maxHeartbeats 1000000 in
theorem rday_any (y m d : Int) (w : World) (h1 : 1 ≤ y) (h2 : y ≤ 9999) (h3 : 1 ≤ m) (h4 : m ≤ 12) (d1 : 0 ≤ d) (d2 : d ≤ 31) :
    Calls Tryz.prog 149 #[.agg #[.int .i64 y, .int .i64 m, .int .i64 d]] w fun e w' => e = .returned (.int .i64 (dn y m d)) ∧ Later w w' := by
  go_enter Tryz.func149, Tryz.ntmps149
  go_wp2
  go_loop [3, 4] (fun n i => YRel y d n i) (fun _ i => (9999 - intOf i).toNat)
  case atStart => exact ⟨1, by omega, by omega, rfl, by rw [Cal.ya_one]; simp⟩
  case round =>
    obtain ⟨k, k1, k2, rfl, rfl⟩ := hrel
    have hy := Cal.ya_bd k k1 (by omega)
    have hl := ln_le k
    by_cases hlt : k < y
    · have HS := Lib.hid (Cal.ya_succ k)
      go_wp2_with (go_at_call 72; refine (long_any _ _).mono ?_; rintro e w' ⟨rfl, rfl⟩)
      go_round
      case rel => exact ⟨k + 1, by omega, by omega, rfl, by rw [HS.out, Int.add_assoc]⟩
      case measure => simp [intOf]; omega
    · obtain rfl : k = y := by omega
      go_wp2_with fail
      go_loop [3, 5] (fun n i => NRel k m d n i) (fun _ i => (12 - intOf i).toNat)
      case atStart => exact ⟨1, by omega, by omega, rfl, by rw [Cal.ma_one]; simp⟩
      case round =>
        obtain ⟨j, j1, j2, rfl, rfl⟩ := hrel
        have hm := Cal.ma_bd k j (by omega)
        by_cases hlt : j < m
        · have HS := Lib.hid (Cal.ma_succ k j h1 h2 j1 (by omega))
          have hd := Cal.dm_le k j
          go_wp2_with (go_at_call 73; refine (rdays_any _ _ _).mono ?_; rintro e w' ⟨rfl, rfl⟩)
          go_round
          case rel => exact ⟨j + 1, by omega, by omega, rfl, by rw [HS.out, Int.add_assoc (d + ya k)]⟩
          case measure => simp [intOf]; omega
        · obtain rfl : j = m := by omega
          go_wp2_with fail
          go_ret
          exact ⟨ret1 (by unfold dn; omega), (Later.refl w).alloc _ _⟩

def OYRel (n : Int) (r i : Value) : Prop := ∃ k : Int, 1 ≤ k ∧ k ≤ 9999 ∧ ya k < n ∧ i = .int .i64 k ∧ r = .int .i64 (n - ya k)
def OMRel (n y : Int) (r i : Value) : Prop := ∃ k : Int, 1 ≤ k ∧ k ≤ 12 ∧ ma y k < n - ya y ∧ i = .int .i64 k ∧ r = .int .i64 (n - ya y - ma y k)

set_option maxHeartbeats 1000000 in
theorem rof_any (n : Int) (w : World) (h1 : 1 ≤ n) (h2 : n ≤ 3652059) :
    Calls Tryz.prog 45 #[.int .i64 n] w fun e w' => e = .returned (.agg #[.int .i64 (yr n), .int .i64 (om n), .int .i64 (od n)]) ∧ Later w w' := by
  go_enter Tryz.func45, Tryz.ntmps45
  go_wp2
  go_loop [0, 3] (fun r i => OYRel n r i) (fun _ i => (9999 - intOf i).toNat)
  case atStart => exact ⟨1, by omega, by omega, by rw [Cal.ya_one]; omega, rfl, by rw [Cal.ya_one]; simp⟩
  case round =>
    obtain ⟨y, y1, y2, y3, rfl, rfl⟩ := hrel
    have hy := Cal.ya_bd y y1 (by omega)
    have hl := ln_le y
    have hs := Cal.ya_succ y
    by_cases hgt : ln y < n - ya y
    · have hmax : y + 1 ≤ 9999 := by
        by_cases e : y = 9999
        · subst e
          have := Cal.ya_end
          have e2 : ya (9999 + 1) = ya 10000 := rfl
          omega
        · omega
      have hgt2 : ya (y + 1) < n := by omega
      have HS := Lib.hid hs
      clear hs
      go_wp2_with (go_at_call 72; refine (long_any _ _).mono ?_; rintro e w' ⟨rfl, rfl⟩)
      go_round
      case rel => exact ⟨y + 1, by omega, by omega, hgt2, rfl, by rw [HS.out, Int.sub_sub]⟩
      case measure => simp [intOf]; omega
    · have hyr := Cal.yr_only y n y1 y2 y3 (by omega)
      have HY := Lib.hid hyr
      have hle : n - ya y ≤ ln y := by omega
      clear hyr hs
      go_wp2_with (go_at_call 72; refine (long_any _ _).mono ?_; rintro e w' ⟨rfl, rfl⟩)
      go_loop [0, 4] (fun r i => OMRel n y r i) (fun _ i => (12 - intOf i).toNat)
      case atStart => exact ⟨1, by omega, by omega, by rw [Cal.ma_one]; omega, rfl, by rw [Cal.ma_one]; simp⟩
      case round =>
        obtain ⟨m, m1, m2, m3, rfl, rfl⟩ := hrel
        have hm := Cal.ma_bd y m (by omega)
        have hd := Cal.dm_le y m
        have hs := Cal.ma_succ y m y1 y2 m1 m2
        by_cases hgt : dm y m < n - ya y - ma y m
        · have hmax : m + 1 ≤ 12 := by
            by_cases e : m = 12
            · subst e
              have := Cal.ma_end y
              have e2 : ma y (12 + 1) = ma y 13 := rfl
              omega
            · omega
          have hgt2 : ma y (m + 1) < n - ya y := by omega
          have HS := Lib.hid hs
          clear hs
          go_wp2_with (go_at_call 73; refine (rdays_any _ _ _).mono ?_; rintro e w' ⟨rfl, rfl⟩)
          go_round
          case rel => exact ⟨m + 1, by omega, by omega, hgt2, rfl, by rw [HS.out, Int.sub_sub (n - ya y)]⟩
          case measure => simp [intOf]; omega
        · have HM := Lib.hid (Cal.mo_only y (n - ya y) m m1 m2 m3 (by omega))
          clear hs
          go_wp2_with (go_at_call 73; refine (rdays_any _ _ _).mono ?_; rintro e w' ⟨rfl, rfl⟩)
          refine bodyPost_ret (v := .agg #[.int .i64 y, .int .i64 m, .int .i64 (n - ya y - ma y m)]) (by simp [results, Tryz.results45, go_sem]) rfl ⟨?_, (Later.refl w).alloc _ _⟩
          unfold od om
          rw [HY.out, HM.out]

end Go.Proofs.YtihdijkplmfhfaaGreatDoor.Greg

/- What Nth answers, of the program and of the document: one and the same number, and one and the same error. Conditions: the numbers are ints, the table of months lies where the program lays it. -/
namespace Go.Proofs.YtihdijkplmfhfaaGreatDoor.Greg
set_option maxRecDepth 100000
open Go.ChangeShapes Go.WideShapes Go.ChangeAt Go.RowKit
open Go.Proofs.YtihdijkplmfhfaaGreatDoor.Divs Go.Proofs.YtihdijkplmfhfaaGreatDoor.Grow
open Go.Proofs.YtihdijkplmfhfaaGreatDoor.Cal (lp ln tab dm ya ma dn yr mo om od)

/-- The number of a month's first day. -/
def fst (y m : Int) : Int := ya y + ma y m + 1

/-- Nth's number, and its error. -/
def nthV (y m v k : Int) : Int :=
  if dm y m = 0 ∨ v < 0 ∨ 6 < v ∨ (¬ k = -1 ∧ (k < 1 ∨ 5 < k)) then 0
  else if k = -1 then fo (fst y m + dm y m - 7) v
  else if fo (fst y m) v + (k - 1) * 7 ≤ fst y m + dm y m - 1 then fo (fst y m) v + (k - 1) * 7 else 0
def nthE (y m v k : Int) : Int :=
  if dm y m = 0 then 20 else if v < 0 ∨ 6 < v ∨ (¬ k = -1 ∧ (k < 1 ∨ 5 < k)) then 22
  else if k = -1 then 0
  else if fo (fst y m) v + (k - 1) * 7 ≤ fst y m + dm y m - 1 then 0 else 22

theorem ret2' {a b c d : Int} (h1 : a = c) (h2 : b = d) : Ending.returned (.tuple #[.int .i64 a, .int .i64 b]) = .returned (.tuple #[.int .i64 c, .int .i64 d]) := by rw [h1, h2]

theorem nth_all (y m v k : Int) (w : World) (hL : Laid w) : Calls Tryz.prog 133 #[.int .i64 y, .int .i64 m, .int .i64 v, .int .i64 k] w fun e w' => e = .returned (.tuple #[.int .i64 (nthV y m v k), .int .i64 (nthE y m v k)]) ∧ Later w w' := by
  by_cases h : dm y m = 0
  · refine (nth_date y m v k w h hL).mono fun e w' ⟨he, hg⟩ => ⟨he.trans ?_, hg⟩
    exact ret2' (by unfold nthV; rw [if_pos (Or.inl h)]) (by unfold nthE; rw [if_pos h])
  by_cases hb : v < 0 ∨ 6 < v ∨ (¬ k = -1 ∧ (k < 1 ∨ 5 < k))
  · refine (nth_bad y m v k w h hL hb).mono fun e w' ⟨he, hg⟩ => ⟨he.trans ?_, hg⟩
    exact ret2' (by unfold nthV; rw [if_pos (Or.inr hb)]) (by unfold nthE; rw [if_neg h, if_pos hb])
  obtain ⟨h1, h2, h3, h4⟩ := Cal.dm_some y m h
  have hn : ¬ (dm y m = 0 ∨ v < 0 ∨ 6 < v ∨ (¬ k = -1 ∧ (k < 1 ∨ 5 < k))) := by omega
  by_cases hk : k = -1
  · subst hk
    refine (nth_last y m v w hL h1 h2 h3 h4 (by omega) (by omega)).mono fun e w' ⟨he, hg⟩ => ⟨he.trans ?_, hg⟩
    exact ret2' (by unfold nthV; rw [if_neg hn, if_pos rfl]; congr 1; unfold fst; omega) (by unfold nthE; rw [if_neg h, if_neg hb, if_pos rfl])
  by_cases hs : fo (fst y m) v + (k - 1) * 7 ≤ fst y m + dm y m - 1
  · refine (nth_some y m v k w hL h1 h2 h3 h4 (by omega) (by omega) (by omega) (by omega) hs).mono fun e w' ⟨he, hg⟩ => ⟨he.trans ?_, hg⟩
    exact ret2' (by unfold nthV; rw [if_neg hn, if_neg hk, if_pos hs]; rfl) (by unfold nthE; rw [if_neg h, if_neg hb, if_neg hk, if_pos hs])
  · refine (nth_none y m v k w hL h1 h2 h3 h4 (by omega) (by omega) (by omega) (by omega) (by unfold fst at hs; omega)).mono fun e w' ⟨he, hg⟩ => ⟨he.trans ?_, hg⟩
    exact ret2' (by unfold nthV; rw [if_neg hn, if_neg hk, if_neg hs]) (by unfold nthE; rw [if_neg h, if_neg hb, if_neg hk, if_neg hs])

theorem rnth_date (y m v k : Int) (w : World) (h : dm y m = 0) : Calls Tryz.prog 132 #[.int .i64 y, .int .i64 m, .int .i64 v, .int .i64 k] w fun e w' => e = .returned (.tuple #[.int .i64 0, .int .i64 20]) ∧ Later w w' := by
  have t : (dm y m == 0) = true := by rw [h]; rfl
  clear h
  go_enter Tryz.func132, Tryz.ntmps132
  go_wp2_with fail
  refine (rdays_any _ _ _).mono ?_
  rintro e w' ⟨rfl, rfl⟩
  go_wp2_with fail
  go_ret2
  exact ⟨rfl, Later.refl _⟩

theorem rnth_bad (y m v k : Int) (w : World) (h : ¬ dm y m = 0) (hb : v < 0 ∨ 6 < v ∨ (¬ k = -1 ∧ (k < 1 ∨ 5 < k))) : Calls Tryz.prog 132 #[.int .i64 y, .int .i64 m, .int .i64 v, .int .i64 k] w fun e w' => e = .returned (.tuple #[.int .i64 0, .int .i64 22]) ∧ Later w w' := by
  have t : (dm y m == 0) = false := beq_eq_false_iff_ne.2 h
  clear h
  by_cases h1 : v < 0
  · clear hb
    go_enter Tryz.func132, Tryz.ntmps132
    go_wp2_with fail
    refine (rdays_any _ _ _).mono ?_
    rintro e w' ⟨rfl, rfl⟩
    go_wp2_with fail
    go_ret2
    exact ⟨rfl, Later.refl _⟩
  by_cases h2 : 6 < v
  · clear hb
    go_enter Tryz.func132, Tryz.ntmps132
    go_wp2_with fail
    refine (rdays_any _ _ _).mono ?_
    rintro e w' ⟨rfl, rfl⟩
    go_wp2_with fail
    go_ret2
    exact ⟨rfl, Later.refl _⟩
  have h3 : ¬ k = -1 ∧ (k < 1 ∨ 5 < k) := by omega
  clear hb
  have u : (k != -1) = true := bne_iff_ne.2 h3.1
  by_cases h4 : k < 1
  · clear h3
    go_enter Tryz.func132, Tryz.ntmps132
    go_wp2_with fail
    refine (rdays_any _ _ _).mono ?_
    rintro e w' ⟨rfl, rfl⟩
    go_wp2_with fail
    go_ret2
    exact ⟨rfl, Later.refl _⟩
  have h5 : 5 < k := by omega
  clear h3
  go_enter Tryz.func132, Tryz.ntmps132
  go_wp2_with fail
  refine (rdays_any _ _ _).mono ?_
  rintro e w' ⟨rfl, rfl⟩
  go_wp2_with fail
  go_ret2
  exact ⟨rfl, Later.refl _⟩

/-- The last one met so far. -/
def lst (f g c : Int) : Int := if c = 0 then 0 else f + g + (c - 1) * 7

/-- The loop's relation: c of the weekday have been met among the first j days. -/
def WRel (f g t k : Int) (met last i : Value) : Prop := ∃ j c : Int, 0 ≤ j ∧ j ≤ t ∧ 7 * c ≤ j - g + 6 ∧ j - g + 6 < 7 * c + 7 ∧ (k = -1 ∨ c < k) ∧ i = .int .i64 j ∧ met = .int .i64 c ∧ last = .int .i64 (lst f g c)

/-- What the search comes to. -/
def seekV (f g t k : Int) : Int := if k = -1 then lst f g ((t - g + 6) / 7) else if g + (k - 1) * 7 < t then f + g + (k - 1) * 7 else 0
def seekE (g t k : Int) : Int := if k = -1 then 0 else if g + (k - 1) * 7 < t then 0 else 22

set_option maxHeartbeats 2000000 in
theorem rnth_core (y m v k f g t : Int) (w : World) (HT : Hid (∀ W, Calls Tryz.prog 73 #[.int .i64 y, .int .i64 m] W fun e w' => e = .returned (.int .i64 t) ∧ W = w'))
    (HR : Hid (∀ W, Calls Tryz.prog 149 #[.agg #[.int .i64 y, .int .i64 m, .int .i64 1]] W fun e w' => e = .returned (.int .i64 f) ∧ Later W w'))
    (t0 : 28 ≤ t) (t1 : t ≤ 31) (f0 : 1 ≤ f) (f1 : f ≤ 3652059) (g0 : 0 ≤ g) (g1 : g ≤ 6) (v0 : 0 ≤ v) (v1 : v < 7) (HG : Hid ((f + g) % 7 = v)) (hk : k = -1 ∨ (1 ≤ k ∧ k ≤ 5)) :
    Calls Tryz.prog 132 #[.int .i64 y, .int .i64 m, .int .i64 v, .int .i64 k] w fun e w' => e = .returned (.tuple #[.int .i64 (seekV f g t k), .int .i64 (seekE g t k)]) ∧ Later w w' := by
  have q0 : (t == 0) = false := beq_eq_false_iff_ne.2 (by omega)
  by_cases hk1 : k = -1
  · have u : (k == -1) = true := by rw [hk1]; rfl
    have u' : (k != -1) = false := by rw [hk1]; rfl
    have hkm : k < 0 := by omega
    have HK := Lib.hid hk1
    clear hk hk1
    go_enter Tryz.func132, Tryz.ntmps132
    go_wp2_with fail
    refine (HT.out _).mono ?_
    rintro e w' ⟨rfl, rfl⟩
    go_wp2_with fail
    refine (HR.out _).mono ?_
    rintro e w1 ⟨rfl, hg1⟩
    go_wp2_with fail
    go_loop [11, 12, 13] (fun met last i => WRel f g t k met last i) (fun _ _ i => (31 - intOf i).toNat)
    case atStart => exact ⟨0, 0, by omega, by omega, by omega, by omega, Or.inl HK.out, rfl, rfl, by unfold lst; simp⟩
    case round =>
      obtain ⟨j, c, j0, j1, c0, c1, ck, rfl, rfl, rfl⟩ := hrel
      clear ck
      by_cases hlt : j < t
      · by_cases hw : (f + j) % 7 = v
        · have hw1 : ((f + j) % 7 != v) = false := by rw [hw]; simp
          have hj : j = g + 7 * c := by have := HG.out; omega
          have e1 : (c + 1 == k) = false := beq_eq_false_iff_ne.2 (by omega)
          have HL : Hid (f + j = lst f g (c + 1)) := by
            have : f + j = lst f g (c + 1) := by unfold lst; rw [if_neg (by omega)]; omega
            exact this
          have hc2 : c ≤ 5 := by omega
          clear hw
          have HJ := Lib.hid hj
          clear hj
          go_wp2_with (first
            | (go_at_call 73; refine (HT.out _).mono ?_; rintro e w' ⟨rfl, rfl⟩)
            | (go_at_call 97; refine (rweekday_any _ _ (by omega) (by omega)).mono ?_; rintro e w' ⟨rfl, rfl⟩))
          go_round
          case rel => exact ⟨j + 1, c + 1, by omega, by omega, by have := HJ.out; omega, by have := HJ.out; omega, Or.inl HK.out, rfl, rfl, by rw [HL.out]⟩
          case measure => simp [intOf]; omega
        · have hw1 : ((f + j) % 7 != v) = true := bne_iff_ne.2 hw
          have hj : ¬ j = g + 7 * c := by have := HG.out; omega
          have HJ := Lib.hid hj
          clear hj hw
          go_wp2_with (first
            | (go_at_call 73; refine (HT.out _).mono ?_; rintro e w' ⟨rfl, rfl⟩)
            | (go_at_call 97; refine (rweekday_any _ _ (by omega) (by omega)).mono ?_; rintro e w' ⟨rfl, rfl⟩))
          go_round
          case rel => exact ⟨j + 1, c, by omega, by omega, by omega, by have := HJ.out; omega, Or.inl HK.out, rfl, rfl, rfl⟩
          case measure => simp [intOf]; omega
      · obtain rfl : j = t := by omega
        have HV : Hid (lst f g c = seekV f g j k) := by
          have : lst f g c = seekV f g j k := by unfold seekV; rw [if_pos HK.out, show (j - g + 6) / 7 = c from by omega]
          exact this
        have HE : Hid ((0 : Int) = seekE g j k) := by
          have : (0 : Int) = seekE g j k := by unfold seekE; rw [if_pos HK.out]
          exact this
        go_wp2_with (first
          | (go_at_call 73; refine (HT.out _).mono ?_; rintro e w' ⟨rfl, rfl⟩)
          | (go_at_call 97; refine (rweekday_any _ _ (by omega) (by omega)).mono ?_; rintro e w' ⟨rfl, rfl⟩))
        go_ret2
        exact ⟨ret2' HV.out HE.out, hg1⟩
  · have k1 : 1 ≤ k := by omega
    have k2 : k ≤ 5 := by omega
    have u : (k == -1) = false := beq_eq_false_iff_ne.2 hk1
    have u' : (k != -1) = true := bne_iff_ne.2 hk1
    have HK := Lib.hid hk1
    clear hk hk1
    go_enter Tryz.func132, Tryz.ntmps132
    go_wp2_with fail
    refine (HT.out _).mono ?_
    rintro e w' ⟨rfl, rfl⟩
    go_wp2_with fail
    refine (HR.out _).mono ?_
    rintro e w1 ⟨rfl, hg1⟩
    go_wp2_with fail
    go_loop [11, 12, 13] (fun met last i => WRel f g t k met last i) (fun _ _ i => (31 - intOf i).toNat)
    case atStart => exact ⟨0, 0, by omega, by omega, by omega, by omega, Or.inr (by omega), rfl, rfl, by unfold lst; simp⟩
    case round =>
      obtain ⟨j, c, j0, j1, c0, c1, ck, rfl, rfl, rfl⟩ := hrel
      have ck' : c < k := by omega
      clear ck
      by_cases hlt : j < t
      · by_cases hw : (f + j) % 7 = v
        · have hw1 : ((f + j) % 7 != v) = false := by rw [hw]; simp
          have hj : j = g + 7 * c := by have := HG.out; omega
          have HL : Hid (f + j = lst f g (c + 1)) := by
            have : f + j = lst f g (c + 1) := by unfold lst; rw [if_neg (by omega)]; omega
            exact this
          have hc2 : c ≤ 5 := by omega
          clear hw
          by_cases hck : c + 1 = k
          · have e1 : (c + 1 == k) = true := by rw [hck]; simp
            have HV : Hid (f + j = seekV f g t k) := by
              have : f + j = seekV f g t k := by unfold seekV; rw [if_neg HK.out, if_pos (by omega)]; omega
              exact this
            have HE : Hid ((0 : Int) = seekE g t k) := by
              have : (0 : Int) = seekE g t k := by unfold seekE; rw [if_neg HK.out, if_pos (by omega)]
              exact this
            clear hj hck
            go_wp2_with (first
              | (go_at_call 73; refine (HT.out _).mono ?_; rintro e w' ⟨rfl, rfl⟩)
              | (go_at_call 97; refine (rweekday_any _ _ (by omega) (by omega)).mono ?_; rintro e w' ⟨rfl, rfl⟩))
            go_ret2
            exact ⟨ret2' HV.out HE.out, hg1⟩
          · have e1 : (c + 1 == k) = false := beq_eq_false_iff_ne.2 hck
            have hck' : c + 1 < k := by omega
            have HJ := Lib.hid hj
            clear hj hck
            go_wp2_with (first
              | (go_at_call 73; refine (HT.out _).mono ?_; rintro e w' ⟨rfl, rfl⟩)
              | (go_at_call 97; refine (rweekday_any _ _ (by omega) (by omega)).mono ?_; rintro e w' ⟨rfl, rfl⟩))
            go_round
            case rel => exact ⟨j + 1, c + 1, by omega, by omega, by have := HJ.out; omega, by have := HJ.out; omega, Or.inr hck', rfl, rfl, by rw [HL.out]⟩
            case measure => simp [intOf]; omega
        · have hw1 : ((f + j) % 7 != v) = true := bne_iff_ne.2 hw
          have hj : ¬ j = g + 7 * c := by have := HG.out; omega
          have HJ := Lib.hid hj
          clear hj hw
          go_wp2_with (first
            | (go_at_call 73; refine (HT.out _).mono ?_; rintro e w' ⟨rfl, rfl⟩)
            | (go_at_call 97; refine (rweekday_any _ _ (by omega) (by omega)).mono ?_; rintro e w' ⟨rfl, rfl⟩))
          go_round
          case rel => exact ⟨j + 1, c, by omega, by omega, by omega, by have := HJ.out; omega, Or.inr ck', rfl, rfl, rfl⟩
          case measure => simp [intOf]; omega
      · obtain rfl : j = t := by omega
        have HV : Hid ((0 : Int) = seekV f g j k) := by
          have : (0 : Int) = seekV f g j k := by unfold seekV; rw [if_neg HK.out, if_neg (by omega)]
          exact this
        have HE : Hid ((22 : Int) = seekE g j k) := by
          have : (22 : Int) = seekE g j k := by unfold seekE; rw [if_neg HK.out, if_neg (by omega)]
          exact this
        go_wp2_with (first
          | (go_at_call 73; refine (HT.out _).mono ?_; rintro e w' ⟨rfl, rfl⟩)
          | (go_at_call 97; refine (rweekday_any _ _ (by omega) (by omega)).mono ?_; rintro e w' ⟨rfl, rfl⟩))
        go_ret2
        exact ⟨ret2' HV.out HE.out, hg1⟩

theorem rnth_all (y m v k : Int) (w : World) : Calls Tryz.prog 132 #[.int .i64 y, .int .i64 m, .int .i64 v, .int .i64 k] w fun e w' => e = .returned (.tuple #[.int .i64 (nthV y m v k), .int .i64 (nthE y m v k)]) ∧ Later w w' := by
  by_cases h : dm y m = 0
  · refine (rnth_date y m v k w h).mono fun e w' ⟨he, hg⟩ => ⟨he.trans ?_, hg⟩
    exact ret2' (by unfold nthV; rw [if_pos (Or.inl h)]) (by unfold nthE; rw [if_pos h])
  by_cases hb : v < 0 ∨ 6 < v ∨ (¬ k = -1 ∧ (k < 1 ∨ 5 < k))
  · refine (rnth_bad y m v k w h hb).mono fun e w' ⟨he, hg⟩ => ⟨he.trans ?_, hg⟩
    exact ret2' (by unfold nthV; rw [if_pos (Or.inr hb)]) (by unfold nthE; rw [if_neg h, if_pos hb])
  obtain ⟨h1, h2, h3, h4⟩ := Cal.dm_some y m h
  have hn : ¬ (dm y m = 0 ∨ v < 0 ∨ 6 < v ∨ (¬ k = -1 ∧ (k < 1 ∨ 5 < k))) := by omega
  have hd := Cal.dm_bd y m h1 h2 h3 h4
  have hf := Cal.dn_bd y m 1 h1 h2 h3 h4 (by omega) (by omega)
  have hfe : dn y m 1 = fst y m := rfl
  rw [hfe] at hf
  have hb1 := fo_bd (fst y m) v (by omega) (by omega)
  have hb2 := fo_bd (fst y m + dm y m - 7) v (by omega) (by omega)
  have hR := fun W => rday_any y m 1 W h1 h2 h3 h4 (by omega) (by omega)
  rw [hfe] at hR
  have core := rnth_core y m v k (fst y m) (fo (fst y m) v - fst y m) (dm y m) w (Lib.hid fun W => rdays_any y m W) (Lib.hid hR) hd.1 hd.2 hf.2.2.1 hf.2.2.2 (by omega) (by omega) (by omega) (by omega)
    (Lib.hid (by rw [show fst y m + (fo (fst y m) v - fst y m) = fo (fst y m) v from by omega]; exact hb1.2.2)) (by omega)
  refine core.mono fun e w' ⟨he, hg⟩ => ⟨he.trans (ret2' ?_ ?_), hg⟩
  · unfold seekV nthV
    rw [if_neg hn]
    by_cases hk : k = -1
    · rw [if_pos hk, if_pos hk]
      unfold lst
      rw [if_neg (by omega)]
      omega
    · rw [if_neg hk, if_neg hk]
      by_cases hs : fo (fst y m) v + (k - 1) * 7 ≤ fst y m + dm y m - 1
      · rw [if_pos hs, if_pos (by omega)]; omega
      · rw [if_neg hs, if_neg (by omega)]
  · unfold seekE nthE
    rw [if_neg h, if_neg hb]
    by_cases hk : k = -1
    · rw [if_pos hk, if_pos hk]
    · rw [if_neg hk, if_neg hk]
      by_cases hs : fo (fst y m) v + (k - 1) * 7 ≤ fst y m + dm y m - 1
      · rw [if_pos hs, if_pos (by omega)]
      · rw [if_neg hs, if_neg (by omega)]

end Go.Proofs.YtihdijkplmfhfaaGreatDoor.Greg

/- Plain facts on clocks, in whole numbers: which zones may be, a turn's instant, when clocks are shifted, what they tell, and what happens at a turn. No condition but those that each theorem states. -/
namespace Go.Proofs.YtihdijkplmfhfaaGreatDoor.Zo
set_option maxRecDepth 100000
open Go.Proofs.YtihdijkplmfhfaaGreatDoor.Cal (lp ln tab dm ya ma dn yr mo om od)
open Go.Proofs.YtihdijkplmfhfaaGreatDoor.Greg (fo fst nthV nthE)

/-- A turn: month, week, weekday, minute. -/
structure Tn where
  m : Int
  k : Int
  v : Int
  u : Int

/-- A zone: base, shift, and its two turns. -/
structure Zn where
  b : Int
  s : Int
  p : Tn
  q : Tn

def ztB (t : Tn) : Bool := t.m == 0 && (t.k == 0 && (t.v == 0 && t.u == 0))

def okB (t : Tn) : Bool := decide (1 ≤ t.m ∧ t.m ≤ 12 ∧ 1 ≤ t.k ∧ t.k ≤ 5 ∧ 0 ≤ t.v ∧ t.v ≤ 6 ∧ 0 ≤ t.u ∧ t.u ≤ 1439)

theorem ztB_iff (t : Tn) : ztB t = true ↔ t.m = 0 ∧ t.k = 0 ∧ t.v = 0 ∧ t.u = 0 := by simp [ztB]

theorem okB_iff (t : Tn) : okB t = true ↔ 1 ≤ t.m ∧ t.m ≤ 12 ∧ 1 ≤ t.k ∧ t.k ≤ 5 ∧ 0 ≤ t.v ∧ t.v ≤ 6 ∧ 0 ≤ t.u ∧ t.u ≤ 1439 := by simp [okB]

/-- May a turn not be, where the shift is s? -/
def wrB (s : Int) (t : Tn) : Bool := if s = 0 then !ztB t else !okB t

/-- Are the months of both far enough from each other? -/
def apB (z : Zn) : Bool := decide ((2 ≤ z.p.m - z.q.m ∧ z.p.m - z.q.m ≤ 10) ∨ (2 ≤ z.q.m - z.p.m ∧ z.q.m - z.p.m ≤ 10))

theorem apB_iff (z : Zn) : apB z = true ↔ (2 ≤ z.p.m - z.q.m ∧ z.p.m - z.q.m ≤ 10) ∨ (2 ≤ z.q.m - z.p.m ∧ z.q.m - z.p.m ≤ 10) := by simp [apB]

def badB (z : Zn) : Bool := wrB z.s z.p || (wrB z.s z.q || (!decide (z.s = 0) && !apB z))

/-- The error of a zone, or 0. -/
def ck (z : Zn) : Int := if z.b < -720 ∨ 840 < z.b then 60 else if z.s < 0 ∨ 120 < z.s then 61 else if badB z = true then 62 else 0

/-- A zone that may be. -/
def May (z : Zn) : Prop := -720 ≤ z.b ∧ z.b ≤ 840 ∧ 0 ≤ z.s ∧ z.s ≤ 120 ∧ ((z.s = 0 ∧ ztB z.p = true ∧ ztB z.q = true) ∨ (1 ≤ z.s ∧ okB z.p = true ∧ okB z.q = true ∧ apB z = true))

theorem ck_may (z : Zn) : ck z = 0 ↔ May z := by
  unfold ck May
  by_cases h1 : z.b < -720 ∨ 840 < z.b
  · rw [if_pos h1]; constructor
    · intro h; omega
    · intro h; omega
  rw [if_neg h1]
  by_cases h2 : z.s < 0 ∨ 120 < z.s
  · rw [if_pos h2]; constructor
    · intro h; omega
    · intro h; omega
  rw [if_neg h2]
  by_cases h3 : z.s = 0
  · have e : badB z = (!ztB z.p || !ztB z.q) := by unfold badB wrB; simp [h3]
    rw [e]
    cases ztB z.p <;> cases ztB z.q <;> simp <;> omega
  · have e : badB z = (!okB z.p || (!okB z.q || !apB z)) := by unfold badB wrB; simp [h3]
    rw [e]
    cases okB z.p <;> cases okB z.q <;> cases apB z <;> simp <;> omega

theorem ck_cases (z : Zn) : ck z = 0 ∨ ck z = 60 ∨ ck z = 61 ∨ ck z = 62 := by
  unfold ck
  split
  · omega
  · split
    · omega
    · split <;> omega

/-- Which one of a month: 5 is the last one. -/
def wk (k : Int) : Int := if k = 5 then -1 else k

/-- A turn's instant in a year. -/
def wn (z : Zn) (t : Tn) (y : Int) : Int := nthV y t.m t.v (wk t.k) * 1440 + t.u - z.b

/-- The year of an instant's unshifted day. -/
def yz (z : Zn) (t : Int) : Int := yr ((t + z.b) / 1440)

/-- Is t between the turns a and b? -/
def inB (a b t : Int) : Bool := if a < b then decide (a ≤ t ∧ t < b) else decide (t < b ∨ a ≤ t)

/-- Are clocks shifted? -/
def sm (z : Zn) (t : Int) : Bool := if z.s = 0 then false else inB (wn z z.p (yz z t)) (wn z z.q (yz z t)) t

/-- What clocks tell. -/
def td (z : Zn) (t : Int) : Int := if sm z t = true then t + z.b + z.s else t + z.b

theorem td_cases (z : Zn) (t : Int) : (sm z t = true ∧ td z t = t + z.b + z.s) ∨ (sm z t = false ∧ td z t = t + z.b) := by
  unfold td; cases sm z t <;> simp

theorem sm_zero (z : Zn) (t : Int) (h : z.s = 0) : sm z t = false := by unfold sm; rw [if_pos h]

theorem inB_iff (a b t : Int) : inB a b t = true ↔ (a < b ∧ a ≤ t ∧ t < b) ∨ (b ≤ a ∧ (t < b ∨ a ≤ t)) := by
  unfold inB
  split <;> simp <;> omega

theorem inB_not (a b t : Int) : inB a b t = false ↔ (a < b ∧ (t < a ∨ b ≤ t)) ∨ (b ≤ a ∧ b ≤ t ∧ t < a) := by
  rw [← Bool.not_eq_true, inB_iff]; omega

/-- A turn's day lies in its month. -/
theorem nth_in (y : Int) (t : Tn) (h1 : 1 ≤ y) (h2 : y ≤ 9999) (h : okB t = true) :
    ya y + ma y t.m + 1 ≤ nthV y t.m t.v (wk t.k) ∧ nthV y t.m t.v (wk t.k) ≤ ya y + ma y t.m + dm y t.m ∧ nthE y t.m t.v (wk t.k) = 0 := by
  rw [okB_iff] at h
  have d := Cal.dm_bd y t.m h1 h2 (by omega) (by omega)
  have f1 := Greg.fo_bd (fst y t.m) t.v (by omega) (by omega)
  have f2 := Greg.fo_bd (fst y t.m + dm y t.m - 7) t.v (by omega) (by omega)
  unfold nthV nthE wk
  by_cases h5 : t.k = 5
  · rw [if_pos h5, if_neg (by omega), if_pos rfl, if_neg (by omega), if_neg (by omega), if_pos rfl]
    unfold fst at *
    omega
  · rw [if_neg h5, if_neg (by omega), if_neg (by omega), if_pos (by omega), if_neg (by omega), if_neg (by omega), if_neg (by omega), if_pos (by omega)]
    unfold fst at *
    omega

theorem ln_le (y : Int) : 365 ≤ ln y ∧ ln y ≤ 366 := by rcases Cal.ln_cases y with ⟨_, e⟩ | ⟨_, e⟩ <;> omega

/-- A turn's day lies in its year. -/
theorem nth_year (y : Int) (t : Tn) (h1 : 1 ≤ y) (h2 : y ≤ 9999) (h : okB t = true) :
    ya y < nthV y t.m t.v (wk t.k) ∧ nthV y t.m t.v (wk t.k) ≤ ya (y + 1) := by
  obtain ⟨a, b, _⟩ := nth_in y t h1 h2 h
  rw [okB_iff] at h
  have s := Cal.ma_succ y t.m h1 h2 (by omega) (by omega)
  have c := Cal.ma_bd y t.m (by omega)
  have d := Cal.ma_bd y (t.m + 1) (by omega)
  have e := Cal.ya_succ y
  omega

theorem wn_bd (z : Zn) (y : Int) (t : Tn) (hz : May z) (h1 : 1 ≤ y) (h2 : y ≤ 9999) (h : okB t = true) :
    ya y * 1440 + 600 ≤ wn z t y ∧ wn z t y < ya (y + 1) * 1440 + 1440 + 720 ∧ ya y * 1440 + 1440 ≤ wn z t y + z.b ∧ wn z t y + z.b < ya (y + 1) * 1440 + 1440 := by
  obtain ⟨a, b⟩ := nth_year y t h1 h2 h
  rw [okB_iff] at h
  unfold May at hz
  unfold wn
  omega

theorem yz_in (z : Zn) (t y : Int) (h1 : 1 ≤ y) (h2 : y ≤ 9999) (a : ya y * 1440 + 1440 ≤ t + z.b) (b : t + z.b < ya (y + 1) * 1440 + 1440) : yz z t = y := by
  unfold yz
  exact Cal.yr_only y _ h1 h2 (by omega) (by omega)

/-- Of two turns of a year the one in the earlier month comes first. -/
theorem wn_lt (z : Zn) (y : Int) (s t : Tn) (h1 : 1 ≤ y) (h2 : y ≤ 9999) (hs : okB s = true) (ht : okB t = true) (h : s.m + 2 ≤ t.m) :
    wn z s y + 28 * 1440 ≤ wn z t y := by
  obtain ⟨a, b, _⟩ := nth_in y s h1 h2 hs
  obtain ⟨c, d, _⟩ := nth_in y t h1 h2 ht
  rw [okB_iff] at hs ht
  have e := Cal.ma_succ y s.m h1 h2 (by omega) (by omega)
  have f := Cal.ma_succ y (s.m + 1) h1 h2 (by omega) (by omega)
  have g := Cal.ma_mono y (s.m + 1 + 1) t.m (by omega)
  have i := Cal.dm_bd y (s.m + 1) h1 h2 (by omega) (by omega)
  unfold wn
  omega

/-- A turn that is not in the last month lies ahead of the next year's beginning, by a month's days. -/
theorem wn_end (z : Zn) (y : Int) (t : Tn) (h1 : 1 ≤ y) (h2 : y ≤ 9999) (ht : okB t = true) (h : t.m ≤ 11) :
    wn z t y + z.b + 28 * 1440 < ya (y + 1) * 1440 + 1440 := by
  obtain ⟨c, d, _⟩ := nth_in y t h1 h2 ht
  rw [okB_iff] at ht
  have e := Cal.ma_succ y t.m h1 h2 (by omega) (by omega)
  have f := Cal.ma_mono y (t.m + 1) 12 (by omega)
  have g := Cal.ma_succ y 12 h1 h2 (by omega) (by omega)
  have g2 : ma y (12 + 1) = ln y := Cal.ma_end y
  have i := Cal.dm_bd y 12 h1 h2 (by omega) (by omega)
  have j := Cal.ya_succ y
  unfold wn
  omega

theorem sm_of (z : Zn) (t y : Int) (hs : ¬ z.s = 0) (h1 : 1 ≤ y) (h2 : y ≤ 9999) (a : ya y * 1440 + 1440 ≤ t + z.b) (b : t + z.b < ya (y + 1) * 1440 + 1440) :
    sm z t = inB (wn z z.p y) (wn z z.q y) t := by
  unfold sm
  rw [if_neg hs, yz_in z t y h1 h2 a b]

/-- The two turns' months, told apart. -/
theorem may_on (z : Zn) (hz : May z) (hs : ¬ z.s = 0) : okB z.p = true ∧ okB z.q = true ∧ (z.p.m + 2 ≤ z.q.m ∨ z.q.m + 2 ≤ z.p.m) := by
  unfold May at hz
  rcases hz with ⟨_, _, _, _, ⟨h, _⟩ | ⟨_, a, b, c⟩⟩
  · exact absurd h hs
  · rw [apB_iff] at c
    exact ⟨a, b, by omega⟩

/-- A minute ahead of a turn it is the same year, or the one ahead of it, if the turn is at its very beginning. -/
theorem ahead (z : Zn) (y : Int) (t : Tn) (hz : May z) (h1 : 2 ≤ y) (h2 : y ≤ 9999) (h : okB t = true) :
    (ya y * 1440 + 1440 ≤ wn z t y - 1 + z.b ∧ wn z t y - 1 + z.b < ya (y + 1) * 1440 + 1440) ∨ (t.m = 1 ∧ wn z t y + z.b = ya y * 1440 + 1440) := by
  obtain ⟨_, _, c, d⟩ := wn_bd z y t hz (by omega) h2 h
  by_cases e : ya y * 1440 + 1440 ≤ wn z t y - 1 + z.b
  · left; omega
  · right
    refine ⟨?_, by omega⟩
    obtain ⟨f, _, _⟩ := nth_in y t (by omega) h2 h
    rw [okB_iff] at h
    by_cases hm : t.m = 1
    · exact hm
    · have g := Cal.ma_mono y 2 t.m (by omega)
      have i := Cal.ma_succ y 1 (by omega) h2 (by omega) (by omega)
      have j := Cal.dm_bd y 1 (by omega) h2 (by omega) (by omega)
      have k := Cal.ma_one y
      have l : ma y (1 + 1) = ma y 2 := rfl
      unfold wn at e c
      omega

/-- At a turn clocks are set, and not a minute ahead. -/
theorem turns (z : Zn) (y : Int) (hz : May z) (hs : ¬ z.s = 0) (h1 : 3 ≤ y) (h2 : y ≤ 9990) :
    sm z (wn z z.p y) = true ∧ sm z (wn z z.p y - 1) = false ∧ sm z (wn z z.q y) = false ∧ sm z (wn z z.q y - 1) = true := by
  obtain ⟨op, oq, hm⟩ := may_on z hz hs
  have hmp := (okB_iff z.p).1 op
  have hmq := (okB_iff z.q).1 oq
  obtain ⟨p1, p2, p3, p4⟩ := wn_bd z y z.p hz (by omega) (by omega) op
  obtain ⟨q1, q2, q3, q4⟩ := wn_bd z y z.q hz (by omega) (by omega) oq
  have ne : wn z z.p y + 28 * 1440 ≤ wn z z.q y ∨ wn z z.q y + 28 * 1440 ≤ wn z z.p y := by
    rcases hm with h | h
    · exact .inl (wn_lt z y z.p z.q (by omega) (by omega) op oq h)
    · exact .inr (wn_lt z y z.q z.p (by omega) (by omega) oq op h)
  have e : y - 1 + 1 = y := by omega
  refine ⟨?_, ?_, ?_, ?_⟩
  · rw [sm_of z _ y hs (by omega) (by omega) p3 p4, inB_iff]; omega
  · rcases ahead z y z.p hz (by omega) (by omega) op with ⟨a, b⟩ | ⟨a, b⟩
    · rw [sm_of z _ y hs (by omega) (by omega) a b, inB_not]; omega
    · have l := Cal.ya_lt (y - 1) y (by omega)
      rw [sm_of z _ (y - 1) hs (by omega) (by omega) (by omega) (by rw [e]; omega), inB_not]
      have h := wn_lt z (y - 1) z.p z.q (by omega) (by omega) op oq (by omega)
      have g := wn_end z (y - 1) z.q (by omega) (by omega) oq (by unfold May at hz; rw [apB_iff] at hz; omega)
      rw [e] at g
      omega
  · rw [sm_of z _ y hs (by omega) (by omega) q3 q4, inB_not]; omega
  · rcases ahead z y z.q hz (by omega) (by omega) oq with ⟨a, b⟩ | ⟨a, b⟩
    · rw [sm_of z _ y hs (by omega) (by omega) a b, inB_iff]; omega
    · have l := Cal.ya_lt (y - 1) y (by omega)
      rw [sm_of z _ (y - 1) hs (by omega) (by omega) (by omega) (by rw [e]; omega), inB_iff]
      have h := wn_lt z (y - 1) z.q z.p (by omega) (by omega) oq op (by omega)
      have g := wn_end z (y - 1) z.p (by omega) (by omega) op (by unfold May at hz; rw [apB_iff] at hz; omega)
      rw [e] at g
      omega

/-- The instants at which clocks tell a minute. -/
def ins (z : Zn) (n : Int) : List Int := (if sm z (n - z.b - z.s) = true then [n - z.b - z.s] else []) ++ (if sm z (n - z.b) = true then [] else [n - z.b])

/-- An instant's day, and its year, are reckoned. -/
theorem day_bd (z : Zn) (t : Int) (hz : May z) (h1 : 576000 ≤ t) (h2 : t ≤ 5258879999) : 1 ≤ (t + z.b) / 1440 ∧ (t + z.b) / 1440 ≤ 3652059 := by
  unfold May at hz; omega

end Go.Proofs.YtihdijkplmfhfaaGreatDoor.Zo
