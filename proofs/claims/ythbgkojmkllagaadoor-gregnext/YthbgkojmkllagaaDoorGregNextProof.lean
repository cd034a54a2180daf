/-
  The statement GregNext: for any day's number but the last the next number's date is the next day of that month, or the first one of the next month, or of the next year, and its weekday is the next one. Condition: the table of months is what the program's text lays (the card ties it).
-/
import Derived.Test.YthbgkojmkllagaaDoorLift
namespace Go.Proofs.YthbgkojmkllagaaDoor.gregNext
open Go.ChangeShapes Go.WideShapes Go.ChangeAt Go.RowKit Go.Joins
open Go.Proofs.YthbgkojmkllagaaDoor.Divs Go.Proofs.YthbgkojmkllagaaDoor.Greg
open Go.Proofs.YthbgkojmkllagaaDoor.Cal (lp ln tab dm ya ma dn yr mo om od)
set_option linter.unusedVariables false

theorem next_in (n : Int) (h1 : 1 ≤ n) (h2 : n < 3652059) :
    (od n < dm (yr n) (om n) ∧ yr (n + 1) = yr n ∧ om (n + 1) = om n ∧ od (n + 1) = od n + 1)
    ∨ (dm (yr n) (om n) ≤ od n ∧ om n < 12 ∧ yr (n + 1) = yr n ∧ om (n + 1) = om n + 1 ∧ od (n + 1) = 1)
    ∨ (dm (yr n) (om n) ≤ od n ∧ 12 ≤ om n ∧ yr (n + 1) = yr n + 1 ∧ om (n + 1) = 1 ∧ od (n + 1) = 1) := by
  obtain ⟨i1, i2, i3, i4, i5, i6⟩ := Cal.of_in n h1 (by omega)
  have hd := Cal.dn_of n
  have hs := Cal.ma_succ (yr n) (om n) i1 i2 i3 i4
  by_cases a : od n < dm (yr n) (om n)
  · obtain ⟨k1, k2, k3⟩ := Cal.of_back (yr n) (om n) (od n + 1) i1 i2 i3 i4 (by omega) (by omega)
    have e : dn (yr n) (om n) (od n + 1) = n + 1 := by unfold Cal.dn at *; omega
    rw [e] at k1 k2 k3
    exact Or.inl ⟨a, k1, k2, k3⟩
  · by_cases b : om n < 12
    · have hb := Cal.dm_bd (yr n) (om n + 1) i1 i2 (by omega) (by omega)
      obtain ⟨k1, k2, k3⟩ := Cal.of_back (yr n) (om n + 1) 1 i1 i2 (by omega) (by omega) (by omega) (by omega)
      have e : dn (yr n) (om n + 1) 1 = n + 1 := by unfold Cal.dn at *; omega
      rw [e] at k1 k2 k3
      exact Or.inr (Or.inl ⟨by omega, b, k1, k2, k3⟩)
    · have e12 : om n = 12 := by omega
      have hend := Cal.ma_end (yr n)
      have hy := Cal.ya_succ (yr n)
      rw [e12] at hs
      have e13 : ma (yr n) (12 + 1) = ma (yr n) 13 := rfl
      have hlt : yr n < 9999 := by
        by_cases c : yr n = 9999
        · have h9 := Cal.ya_end
          have e9 : ya (yr n + 1) = ya 10000 := by rw [c]; rfl
          unfold Cal.dn at hd
          rw [e12] at hd a
          omega
        · omega
      have hb := Cal.dm_bd (yr n + 1) 1 (by omega) (by omega) (by omega) (by omega)
      have h1m := Cal.ma_one (yr n + 1)
      obtain ⟨k1, k2, k3⟩ := Cal.of_back (yr n + 1) 1 1 (by omega) (by omega) (by omega) (by omega) (by omega) (by omega)
      have e : dn (yr n + 1) 1 1 = n + 1 := by
        unfold Cal.dn at *
        rw [e12] at hd a i6
        omega
      rw [e] at k1 k2 k3
      exact Or.inr (Or.inr ⟨by omega, by omega, k1, k2, k3⟩)

theorem walk (n : Int) (wn : (Lit.int .i64 n).wf = true) (w : World) (hL : Laid w) :
    Calls Tryd.prog 7 #[.int .i64 n] w fun e w' => e = .returned (.bool true) ∧ Grown w w' := by
  obtain ⟨n0, n1⟩ := bounds_i64 wn
  clear wn
  by_cases h1 : n < 1
  · go_enter Tryd.func7, Tryd.ntmps7
    go_wp2_with fail
    refine (awake_any _ hL).mono ?_
    rintro e w1 ⟨rfl, hg1⟩
    go_wp2_with fail
    go_ret
    exact ⟨rfl, hg1⟩
  by_cases h2 : 3652059 ≤ n
  · go_enter Tryd.func7, Tryd.ntmps7
    go_wp2_with fail
    refine (awake_any _ hL).mono ?_
    rintro e w1 ⟨rfl, hg1⟩
    go_wp2_with fail
    go_ret
    exact ⟨rfl, hg1⟩
  have h1' : 1 ≤ n := by omega
  have h2' : n < 3652059 := by omega
  clear h1 h2 n0 n1
  obtain ⟨i1, i2, i3, i4, i5, i6⟩ := Cal.of_in n h1' (by omega)
  have HA := Lib.hid (fun W hW => of_yes n W hW h1' (by omega))
  have hb := fun W hW => of_yes (n + 1) W hW (by omega) (by omega)
  have HW := Lib.hid (fun W => weekday_any n W (by omega) (by omega))
  have HX := Lib.hid (fun W => weekday_any (n + 1) W (by omega) (by omega))
  have E7 := Lib.hid (show ((n % 7 + 1) % 7 != (n + 1) % 7) = false from by simp)
  have HD := Lib.hid (fun W hW => days_any (yr n) (om n) W hW)
  have hdm := Cal.dm_le (yr n) (om n)
  have hs0 : 0 ≤ n % 7 := by omega
  have hs1 : n % 7 < 7 := by omega
  generalize hs : n % 7 = s at HW E7 hs0 hs1
  clear hs
  generalize (n + 1) % 7 = r at HX E7
  rcases next_in n h1' h2' with ⟨a, k1, k2, k3⟩ | ⟨a, b, k1, k2, k3⟩ | ⟨a, b, k1, k2, k3⟩
  · rw [k1, k2, k3] at hb
    have HB := Lib.hid hb
    clear hb k1 k2 k3
    generalize dm (yr n) (om n) = t at *
    generalize yr n = y at *
    generalize om n = m at *
    generalize od n = d at *
    have e7 := E7.out
    go_enter Tryd.func7, Tryd.ntmps7
    go_wp2_with fail
    refine (HA.out _ hL).mono ?_
    rintro e w1 ⟨rfl, hg1⟩
    go_wp2_with fail
    have hg1' := hg1.alloc #[.int .i64 y, .int .i64 m, .int .i64 d] 23
    refine (HB.out _ (hL.grown hg1')).mono ?_
    rintro e w2 ⟨rfl, hg2⟩
    have hz : w1.heap.size < w2.heap.size := Nat.lt_of_lt_of_le (by simp) hg2.2.2
    have hg2' := hg2.alloc #[.int .i64 y, .int .i64 m, .int .i64 (d + 1)] 23
    have hL2 := (hL.grown hg1').grown hg2'
    have X0 := Lib.hid (gw_new w1 #[.int .i64 y, .int .i64 m, .int .i64 d] 23 0 (.int .i64 y) rfl)
    have X1 := Lib.hid (gw_new w1 #[.int .i64 y, .int .i64 m, .int .i64 d] 23 1 (.int .i64 m) rfl)
    have X2 := Lib.hid (gw_new w1 #[.int .i64 y, .int .i64 m, .int .i64 d] 23 2 (.int .i64 d) rfl)
    have Y0 := Lib.hid (gw_new w2 #[.int .i64 y, .int .i64 m, .int .i64 (d + 1)] 23 0 (.int .i64 y) rfl)
    have Y1 := Lib.hid (gw_new w2 #[.int .i64 y, .int .i64 m, .int .i64 (d + 1)] 23 1 (.int .i64 m) rfl)
    have Y2 := Lib.hid (gw_new w2 #[.int .i64 y, .int .i64 m, .int .i64 (d + 1)] 23 2 (.int .i64 (d + 1)) rfl)
    go_wp2_with fail
    refine (HW.out _).mono ?_
    rintro e w3 ⟨rfl, j3, rfl⟩
    go_wp2_with fail
    refine (HX.out _).mono ?_
    rintro e w4 ⟨rfl, j4, rfl⟩
    go_wp2_with fail
    have hLW : Laid ((w2.alloc (.cells #[.int .i64 y, .int .i64 m, .int .i64 (d + 1)] 23)).drewN (j3 + j4)) := hL2
    have hGW : Grown (w1.alloc (.cells #[.int .i64 y, .int .i64 m, .int .i64 d] 23)) ((w2.alloc (.cells #[.int .i64 y, .int .i64 m, .int .i64 (d + 1)] 23)).drewN (j3 + j4)) := hg2'
    have hGV : Grown (w2.alloc (.cells #[.int .i64 y, .int .i64 m, .int .i64 (d + 1)] 23)) ((w2.alloc (.cells #[.int .i64 y, .int .i64 m, .int .i64 (d + 1)] 23)).drewN (j3 + j4)) := Grown.refl _
    generalize (w2.alloc (.cells #[.int .i64 y, .int .i64 m, .int .i64 (d + 1)] 23)).drewN (j3 + j4) = V at hLW hGW hGV ⊢
    have x0 := gw_cell (X0.out ⟨V, hGW⟩)
    have x1 := gw_cell (X1.out ⟨V, hGW⟩)
    have x2 := gw_cell (X2.out ⟨V, hGW⟩)
    refine region_grown (by kernel_rfl) (by kernel_rfl) ?_
    repeat (go_big_quiet_step ((go_at_call 13; exact in_grown (same_g (HD.out _ (hLW.gw _))))))
    refine wpQuiet_nil (grown_end ?_)
    intro w5 hg5
    clear x0 x1 x2
    have hX5 := gtrans hGW hg5
    have hY5 := gtrans hGV hg5
    have c1 : w5.cell? ⟨w1.heap.size, 1, none⟩ = some (.int .i64 m) := X1.out ⟨w5, hX5⟩
    go_wp2_with fail
    refine (awake_any _ (hLW.grown hg5)).mono ?_
    rintro e w6 ⟨rfl, hg6⟩
    have hX6 := gtrans hX5 hg6
    have hY6 := gtrans hY5 hg6
    clear c1
    have c0 : w6.cell? ⟨w1.heap.size, 0, none⟩ = some (.int .i64 y) := X0.out ⟨w6, hX6⟩
    have c1 : w6.cell? ⟨w1.heap.size, 1, none⟩ = some (.int .i64 m) := X1.out ⟨w6, hX6⟩
    have c2 : w6.cell? ⟨w1.heap.size, 2, none⟩ = some (.int .i64 d) := X2.out ⟨w6, hX6⟩
    have b0 : w6.cell? ⟨w2.heap.size, 0, none⟩ = some (.int .i64 y) := Y0.out ⟨w6, hY6⟩
    have b1 : w6.cell? ⟨w2.heap.size, 1, none⟩ = some (.int .i64 m) := Y1.out ⟨w6, hY6⟩
    have b2 : w6.cell? ⟨w2.heap.size, 2, none⟩ = some (.int .i64 (d + 1)) := Y2.out ⟨w6, hY6⟩
    go_wp2_with fail
    go_ret
    exact ⟨by simp, gtrans hg1' hX6⟩
  · rw [k1, k2, k3] at hb
    have HB := Lib.hid hb
    clear hb k1 k2 k3
    generalize dm (yr n) (om n) = t at *
    generalize yr n = y at *
    generalize om n = m at *
    generalize od n = d at *
    have e7 := E7.out
    go_enter Tryd.func7, Tryd.ntmps7
    go_wp2_with fail
    refine (HA.out _ hL).mono ?_
    rintro e w1 ⟨rfl, hg1⟩
    go_wp2_with fail
    have hg1' := hg1.alloc #[.int .i64 y, .int .i64 m, .int .i64 d] 23
    refine (HB.out _ (hL.grown hg1')).mono ?_
    rintro e w2 ⟨rfl, hg2⟩
    have hz : w1.heap.size < w2.heap.size := Nat.lt_of_lt_of_le (by simp) hg2.2.2
    have hg2' := hg2.alloc #[.int .i64 y, .int .i64 (m + 1), .int .i64 1] 23
    have hL2 := (hL.grown hg1').grown hg2'
    have X0 := Lib.hid (gw_new w1 #[.int .i64 y, .int .i64 m, .int .i64 d] 23 0 (.int .i64 y) rfl)
    have X1 := Lib.hid (gw_new w1 #[.int .i64 y, .int .i64 m, .int .i64 d] 23 1 (.int .i64 m) rfl)
    have X2 := Lib.hid (gw_new w1 #[.int .i64 y, .int .i64 m, .int .i64 d] 23 2 (.int .i64 d) rfl)
    have Y0 := Lib.hid (gw_new w2 #[.int .i64 y, .int .i64 (m + 1), .int .i64 1] 23 0 (.int .i64 y) rfl)
    have Y1 := Lib.hid (gw_new w2 #[.int .i64 y, .int .i64 (m + 1), .int .i64 1] 23 1 (.int .i64 (m + 1)) rfl)
    have Y2 := Lib.hid (gw_new w2 #[.int .i64 y, .int .i64 (m + 1), .int .i64 1] 23 2 (.int .i64 1) rfl)
    go_wp2_with fail
    refine (HW.out _).mono ?_
    rintro e w3 ⟨rfl, j3, rfl⟩
    go_wp2_with fail
    refine (HX.out _).mono ?_
    rintro e w4 ⟨rfl, j4, rfl⟩
    go_wp2_with fail
    have hLW : Laid ((w2.alloc (.cells #[.int .i64 y, .int .i64 (m + 1), .int .i64 1] 23)).drewN (j3 + j4)) := hL2
    have hGW : Grown (w1.alloc (.cells #[.int .i64 y, .int .i64 m, .int .i64 d] 23)) ((w2.alloc (.cells #[.int .i64 y, .int .i64 (m + 1), .int .i64 1] 23)).drewN (j3 + j4)) := hg2'
    have hGV : Grown (w2.alloc (.cells #[.int .i64 y, .int .i64 (m + 1), .int .i64 1] 23)) ((w2.alloc (.cells #[.int .i64 y, .int .i64 (m + 1), .int .i64 1] 23)).drewN (j3 + j4)) := Grown.refl _
    generalize (w2.alloc (.cells #[.int .i64 y, .int .i64 (m + 1), .int .i64 1] 23)).drewN (j3 + j4) = V at hLW hGW hGV ⊢
    have x0 := gw_cell (X0.out ⟨V, hGW⟩)
    have x1 := gw_cell (X1.out ⟨V, hGW⟩)
    have x2 := gw_cell (X2.out ⟨V, hGW⟩)
    refine region_grown (by kernel_rfl) (by kernel_rfl) ?_
    repeat (go_big_quiet_step ((go_at_call 13; exact in_grown (same_g (HD.out _ (hLW.gw _))))))
    refine wpQuiet_nil (grown_end ?_)
    intro w5 hg5
    clear x0 x1 x2
    have hX5 := gtrans hGW hg5
    have hY5 := gtrans hGV hg5
    have c1 : w5.cell? ⟨w1.heap.size, 1, none⟩ = some (.int .i64 m) := X1.out ⟨w5, hX5⟩
    go_wp2_with fail
    refine (awake_any _ (hLW.grown hg5)).mono ?_
    rintro e w6 ⟨rfl, hg6⟩
    have hX6 := gtrans hX5 hg6
    have hY6 := gtrans hY5 hg6
    clear c1
    have c0 : w6.cell? ⟨w1.heap.size, 0, none⟩ = some (.int .i64 y) := X0.out ⟨w6, hX6⟩
    have c1 : w6.cell? ⟨w1.heap.size, 1, none⟩ = some (.int .i64 m) := X1.out ⟨w6, hX6⟩
    have c2 : w6.cell? ⟨w1.heap.size, 2, none⟩ = some (.int .i64 d) := X2.out ⟨w6, hX6⟩
    have b0 : w6.cell? ⟨w2.heap.size, 0, none⟩ = some (.int .i64 y) := Y0.out ⟨w6, hY6⟩
    have b1 : w6.cell? ⟨w2.heap.size, 1, none⟩ = some (.int .i64 (m + 1)) := Y1.out ⟨w6, hY6⟩
    have b2 : w6.cell? ⟨w2.heap.size, 2, none⟩ = some (.int .i64 1) := Y2.out ⟨w6, hY6⟩
    go_wp2_with fail
    go_ret
    exact ⟨by simp, gtrans hg1' hX6⟩
  · rw [k1, k2, k3] at hb
    have HB := Lib.hid hb
    clear hb k1 k2 k3
    generalize dm (yr n) (om n) = t at *
    generalize yr n = y at *
    generalize om n = m at *
    generalize od n = d at *
    have e7 := E7.out
    go_enter Tryd.func7, Tryd.ntmps7
    go_wp2_with fail
    refine (HA.out _ hL).mono ?_
    rintro e w1 ⟨rfl, hg1⟩
    go_wp2_with fail
    have hg1' := hg1.alloc #[.int .i64 y, .int .i64 m, .int .i64 d] 23
    refine (HB.out _ (hL.grown hg1')).mono ?_
    rintro e w2 ⟨rfl, hg2⟩
    have hz : w1.heap.size < w2.heap.size := Nat.lt_of_lt_of_le (by simp) hg2.2.2
    have hg2' := hg2.alloc #[.int .i64 (y + 1), .int .i64 1, .int .i64 1] 23
    have hL2 := (hL.grown hg1').grown hg2'
    have X0 := Lib.hid (gw_new w1 #[.int .i64 y, .int .i64 m, .int .i64 d] 23 0 (.int .i64 y) rfl)
    have X1 := Lib.hid (gw_new w1 #[.int .i64 y, .int .i64 m, .int .i64 d] 23 1 (.int .i64 m) rfl)
    have X2 := Lib.hid (gw_new w1 #[.int .i64 y, .int .i64 m, .int .i64 d] 23 2 (.int .i64 d) rfl)
    have Y0 := Lib.hid (gw_new w2 #[.int .i64 (y + 1), .int .i64 1, .int .i64 1] 23 0 (.int .i64 (y + 1)) rfl)
    have Y1 := Lib.hid (gw_new w2 #[.int .i64 (y + 1), .int .i64 1, .int .i64 1] 23 1 (.int .i64 1) rfl)
    have Y2 := Lib.hid (gw_new w2 #[.int .i64 (y + 1), .int .i64 1, .int .i64 1] 23 2 (.int .i64 1) rfl)
    go_wp2_with fail
    refine (HW.out _).mono ?_
    rintro e w3 ⟨rfl, j3, rfl⟩
    go_wp2_with fail
    refine (HX.out _).mono ?_
    rintro e w4 ⟨rfl, j4, rfl⟩
    go_wp2_with fail
    have hLW : Laid ((w2.alloc (.cells #[.int .i64 (y + 1), .int .i64 1, .int .i64 1] 23)).drewN (j3 + j4)) := hL2
    have hGW : Grown (w1.alloc (.cells #[.int .i64 y, .int .i64 m, .int .i64 d] 23)) ((w2.alloc (.cells #[.int .i64 (y + 1), .int .i64 1, .int .i64 1] 23)).drewN (j3 + j4)) := hg2'
    have hGV : Grown (w2.alloc (.cells #[.int .i64 (y + 1), .int .i64 1, .int .i64 1] 23)) ((w2.alloc (.cells #[.int .i64 (y + 1), .int .i64 1, .int .i64 1] 23)).drewN (j3 + j4)) := Grown.refl _
    generalize (w2.alloc (.cells #[.int .i64 (y + 1), .int .i64 1, .int .i64 1] 23)).drewN (j3 + j4) = V at hLW hGW hGV ⊢
    have x0 := gw_cell (X0.out ⟨V, hGW⟩)
    have x1 := gw_cell (X1.out ⟨V, hGW⟩)
    have x2 := gw_cell (X2.out ⟨V, hGW⟩)
    refine region_grown (by kernel_rfl) (by kernel_rfl) ?_
    repeat (go_big_quiet_step ((go_at_call 13; exact in_grown (same_g (HD.out _ (hLW.gw _))))))
    refine wpQuiet_nil (grown_end ?_)
    intro w5 hg5
    clear x0 x1 x2
    have hX5 := gtrans hGW hg5
    have hY5 := gtrans hGV hg5
    have c1 : w5.cell? ⟨w1.heap.size, 1, none⟩ = some (.int .i64 m) := X1.out ⟨w5, hX5⟩
    go_wp2_with fail
    refine (awake_any _ (hLW.grown hg5)).mono ?_
    rintro e w6 ⟨rfl, hg6⟩
    have hX6 := gtrans hX5 hg6
    have hY6 := gtrans hY5 hg6
    clear c1
    have c0 : w6.cell? ⟨w1.heap.size, 0, none⟩ = some (.int .i64 y) := X0.out ⟨w6, hX6⟩
    have c1 : w6.cell? ⟨w1.heap.size, 1, none⟩ = some (.int .i64 m) := X1.out ⟨w6, hX6⟩
    have c2 : w6.cell? ⟨w1.heap.size, 2, none⟩ = some (.int .i64 d) := X2.out ⟨w6, hX6⟩
    have b0 : w6.cell? ⟨w2.heap.size, 0, none⟩ = some (.int .i64 (y + 1)) := Y0.out ⟨w6, hY6⟩
    have b1 : w6.cell? ⟨w2.heap.size, 1, none⟩ = some (.int .i64 1) := Y1.out ⟨w6, hY6⟩
    have b2 : w6.cell? ⟨w2.heap.size, 2, none⟩ = some (.int .i64 1) := Y2.out ⟨w6, hY6⟩
    go_wp2_with fail
    go_ret
    exact ⟨by simp, gtrans hg1' hX6⟩

set_option maxHeartbeats 1000000 in
set_option maxRecDepth 100000 in
theorem lifted (os : Os) (started : os.Started) (H : Type) (enc : TypeId × Value → H) :
    ReturnsInHanded {} Tryd.checked os 7 .any (fun w args => (Rows.gregNextSpec.pre enc Tryd.prog Tryd.f7 [] false w args ∧ laidMetH Tryd.prog laidL w) ∧ sizedMet enc Tryd.prog Tryd.f7 (OpenSpec.ofChange Rows.gregNextSpec) false w args)
      (Rows.gregNextSpec.post enc Tryd.prog Tryd.f7 false true false false) := by
  refine returnsInHanded_of_change_and (C := Tryd.checked) (X := fun w _ => laidMetH Tryd.prog laidL w) (fun _ _ _ hh h => h.of_heap hh) own started (by kernel_rfl) Tryd.func7
    (ChangeSpec.witness_shaped (enc := enc) (C := Tryd.checked) (os := os) (X := fun w _ => laidMetH Tryd.prog laidL w) false (World.doorLaid Tryd.prog 400 os) #[.int .i64 0] 8 rfl (World.shaped_of_RefB (by kernel_rfl) (by kernel_rfl)) (by kernel_rfl) (by kernel_rfl) (by kernel_rfl) (door_met os _)) ?_
  intro W base args ds gs before hval0 hW _ _ hL _
  have hval : ∀ (j : Nat) t v, Tryd.f7.params[j]? = some t → args[j]? = some v → Value.okWide Tryd.prog W .any base t v := hval0
  have hW' := hW
  obtain ⟨p, q, hA0, hV, rfl, hfz, hnd⟩ := hW
  have hA : DataW.TrodAll enc Tryd.prog W 0 (fun _ => true) true Tryd.f7.params.toList args.toList ds p := hA0
  rw [Tryd.params7] at hA hval
  obtain ⟨v0, vs0, d0, ds0, p0, q0, hargs, rfl, rfl, h0, r0⟩ := trodAll_cons hA
  obtain ⟨rfl, rfl, rfl⟩ := trodAll_nil r0
  obtain rfl : args = #[v0] := by cases args; simp_all
  obtain ⟨rfl, rfl⟩ := trodVars_none hV
  obtain ⟨a0, rfl, rfl, rfl, w0⟩ := open_int Tryd.underlying3 (hval 0 3 v0 rfl rfl) h0
  clear hA0 hval0
  simp only [List.append_nil] at hW'
  refine (walk a0 w0 W (of_laid hL)).mono fun e W' ⟨he, hg⟩ => ?_
  subst he
  exact ⟨_, rfl, post_of_same (pa := []) (pv := []) hW' (fun _ _ _ => (trodAll_cons_mk (shut_bool Tryd.underlying4 _) trodAll_mk0)) (fun sp _ => (trodAll_cons_mk (shut_int Tryd.underlying3 w0) trodAll_mk0)) (fun _ _ => rfl) rfl
    (hg.frame _) hg.2.1 (ok_one (by kernel_rfl) rfl (okWide_bool_mk Tryd.underlying4 _))⟩

theorem over : Rows.gregNextRow.holds Tryd.pinned (OpenSpec.ofChange Rows.gregNextSpec) :=
  OpenClaim.holds_of_wide 7 Tryd.f7 rfl rfl rfl rfl rfl rfl rfl ⟨rfl, rfl, rfl, rfl, rfl⟩ rfl rfl rfl rfl rfl (by kernel_rfl) Tryd.func7 (by kernel_rfl)
    (of_decide_eq_true (by kernel_rfl)) (by unfold Func.isWrapper; first | (rw [if_pos (by decide +kernel)]; kernel_rfl) | (rw [if_neg (by decide +kernel)]; exact ⟨rfl, rfl⟩))
    (fun os started H enc _ => lifted os started H enc)

/-- The statement. -/
theorem proved : Rows.GregNextCardSaid :=
  Claim7.holds_tied_plain_at .later [] [.data] true (true, "aacca204a4741e31dc60c47b29a7724d966c80bbda26557ec97b9370967abf46") false
    over (fun _ h => by cases h) (by kernel_rfl) (fun _ h => by cases h) gregNext_row_tie rfl ⟨rfl, rfl⟩ (by kernel_rfl) rfl
    (fun f fn hf hfn => by
      obtain rfl : f = 7 := Option.some.inj ((show Tryd.prog.funcNamed "newel/newellaw02.GregNext" = some 7 by kernel_rfl).symm.trans hf) |>.symm
      obtain rfl : fn = Tryd.f7 := (Option.some.inj (Tryd.func7.symm.trans hfn)).symm
      exact ⟨by kernel_rfl, fun j t ht => by
        rw [Tryd.params7] at ht
        have hm : t ∈ [3] := by simpa using Array.mem_of_getElem? ht
        have hall : ([3].all fun u => !Tryd.prog.wantsStandIn u) = true := by kernel_rfl
        exact (show Tryd.prog.wantsStandIn t = false by simpa using List.all_eq_true.1 hall t hm)⟩)
    (by kernel_rfl)
#print axioms proved
end Go.Proofs.YthbgkojmkllagaaDoor.gregNext
