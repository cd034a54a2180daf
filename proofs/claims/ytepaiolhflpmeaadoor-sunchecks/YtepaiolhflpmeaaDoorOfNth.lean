/-
  What Of and Nth of layer 2 answer. Conditions: the numbers are ints, the table of months lies where the program lays it, as each theorem says.
-/
import Derived.Test.YtepaiolhflpmeaaDoorGreg
namespace Go.Proofs.YtepaiolhflpmeaaDoor.Greg
open Go.ChangeShapes Go.WideShapes Go.ChangeAt Go.RowKit
open Go.Proofs.YtepaiolhflpmeaaDoor.Divs Go.Proofs.YtepaiolhflpmeaaDoor.Grow
open Go.Proofs.YtepaiolhflpmeaaDoor.Cal (lp ln tab dm ya ma dn yr mo om od)

theorem of_no (n : Int) (w : World) (h : n < 1 ∨ 3652059 < n) : Calls Tryd.prog 19 #[.int .i64 n] w fun e w' => e = .returned (.tuple #[.agg #[.int .i64 0, .int .i64 0, .int .i64 0], .int .i64 21]) ∧ Later w w' := by
  by_cases h1 : n < 1
  · clear h
    go_enter Tryd.func19, Tryd.ntmps19
    go_wp2
    exact bodyPost_ret (v := .tuple #[.agg #[.int .i64 0, .int .i64 0, .int .i64 0], .int .i64 21]) (by simp [results, Tryd.results19, go_sem]) rfl ⟨rfl, (Later.refl w).alloc _ _⟩
  · have h2 : 3652059 < n := by omega
    clear h
    go_enter Tryd.func19, Tryd.ntmps19
    go_wp2
    exact bodyPost_ret (v := .tuple #[.agg #[.int .i64 0, .int .i64 0, .int .i64 0], .int .i64 21]) (by simp [results, Tryd.results19, go_sem]) rfl ⟨rfl, (Later.refl w).alloc _ _⟩

set_option maxHeartbeats 1000000 in
theorem of_yes (n : Int) (w : World) (hL : Laid w) (h1 : 1 ≤ n) (h2 : n ≤ 3652059) : Calls Tryd.prog 19 #[.int .i64 n] w fun e w' => e = .returned (.tuple #[.agg #[.int .i64 (yr n), .int .i64 (om n), .int .i64 (od n)], .int .i64 0]) ∧ Later w w' := by
  obtain ⟨a, b, c, d, e, f, _, _, _, _⟩ := Cal.of_spec n h1 h2
  have hy := Cal.ya_bd (yr n) a (by omega)
  go_enter Tryd.func19, Tryd.ntmps19
  go_wp2_with fail
  refine (yr_any _ _ h1 h2).mono ?_
  rintro e w' ⟨rfl, n1, rfl⟩
  go_wp2_with fail
  refine (ya_any _ _ a (by omega)).mono ?_
  rintro e w' ⟨rfl, rfl⟩
  go_wp2_with fail
  have hL1 : Laid ((w.alloc (.cells #[.int .i64 0, .int .i64 0, .int .i64 0] 44)).drewN n1) := hL.grown ((Later.refl w).alloc _ _)
  refine (mof_any _ _ _ hL1 a b e f).mono ?_
  rintro e w1 ⟨rfl, hg1⟩
  have c0 : w1.cell? ⟨w.heap.size, 0, none⟩ = some (.int .i64 0) := gsome hg1 (by simp)
  have c1 : w1.cell? ⟨w.heap.size, 1, none⟩ = some (.int .i64 0) := gsome hg1 (by simp)
  have c2 : w1.cell? ⟨w.heap.size, 2, none⟩ = some (.int .i64 0) := gsome hg1 (by simp)
  have hf : ∀ i, w1.frozen? ⟨w.heap.size, i, none⟩ = false := fun i => (gfrozen hg1 _ i (by simp)).trans (by simp)
  have f0 := hf 0
  have f1 := hf 1
  have f2 := hf 2
  clear hf
  go_wp2_with fail
  refine bodyPost_ret (v := .tuple #[.agg #[.int .i64 (yr n), .int .i64 (om n), .int .i64 (od n)], .int .i64 0]) ?_ rfl ⟨rfl, ?_⟩
  · simp [results, Tryd.results19, go_sem, c0, c1, c2]
    exact ⟨rfl, rfl⟩
  · have hG : Later w w1 := gtrans ((Later.refl w).alloc _ _) hg1
    exact ((hG.setCell (Nat.le_refl _) _).setCell (Nat.le_refl _) _).setCell (Nat.le_refl _) _

theorem nth_date (y m v k : Int) (w : World) (h : dm y m = 0) (hL : Laid w) : Calls Tryd.prog 49 #[.int .i64 y, .int .i64 m, .int .i64 v, .int .i64 k] w fun e w' => e = .returned (.tuple #[.int .i64 0, .int .i64 20]) ∧ Later w w' := by
  have t : (dm y m == 0) = true := by rw [h]; rfl
  clear h
  go_enter Tryd.func49, Tryd.ntmps49
  go_wp2_with fail
  refine (days_any _ _ _ hL).mono ?_
  rintro e w' ⟨rfl, rfl⟩
  go_wp2_with fail
  go_ret2
  exact ⟨rfl, Later.refl _⟩

theorem nth_bad (y m v k : Int) (w : World) (h : ¬ dm y m = 0) (hL : Laid w) (hb : v < 0 ∨ 6 < v ∨ (¬ k = -1 ∧ (k < 1 ∨ 5 < k))) : Calls Tryd.prog 49 #[.int .i64 y, .int .i64 m, .int .i64 v, .int .i64 k] w fun e w' => e = .returned (.tuple #[.int .i64 0, .int .i64 22]) ∧ Later w w' := by
  have t : (dm y m == 0) = false := beq_eq_false_iff_ne.2 h
  clear h
  by_cases h1 : v < 0
  · clear hb
    go_enter Tryd.func49, Tryd.ntmps49
    go_wp2_with fail
    refine (days_any _ _ _ hL).mono ?_
    rintro e w' ⟨rfl, rfl⟩
    go_wp2_with fail
    go_ret2
    exact ⟨rfl, Later.refl _⟩
  by_cases h2 : 7 ≤ v
  · clear hb
    go_enter Tryd.func49, Tryd.ntmps49
    go_wp2_with fail
    refine (days_any _ _ _ hL).mono ?_
    rintro e w' ⟨rfl, rfl⟩
    go_wp2_with fail
    go_ret2
    exact ⟨rfl, Later.refl _⟩
  have h3 : ¬ k = -1 ∧ (k < 1 ∨ 5 < k) := by omega
  clear hb
  have u : (k != -1) = true := bne_iff_ne.2 h3.1
  by_cases h4 : k < 1
  · clear h3
    go_enter Tryd.func49, Tryd.ntmps49
    go_wp2_with fail
    refine (days_any _ _ _ hL).mono ?_
    rintro e w' ⟨rfl, rfl⟩
    go_wp2_with fail
    go_ret2
    exact ⟨rfl, Later.refl _⟩
  have h5 : 5 < k := by omega
  clear h3
  go_enter Tryd.func49, Tryd.ntmps49
  go_wp2_with fail
  refine (days_any _ _ _ hL).mono ?_
  rintro e w' ⟨rfl, rfl⟩
  go_wp2_with fail
  go_ret2
  exact ⟨rfl, Later.refl _⟩

theorem nth_last (y m v : Int) (w : World) (hL : Laid w) (h1 : 1 ≤ y) (h2 : y ≤ 9999) (h3 : 1 ≤ m) (h4 : m ≤ 12) (v0 : 0 ≤ v) (v1 : v < 7) :
    Calls Tryd.prog 49 #[.int .i64 y, .int .i64 m, .int .i64 v, .int .i64 (-1)] w fun e w' => e = .returned (.tuple #[.int .i64 (fo (ya y + ma y m + 1 + dm y m - 1 - 7 + 1) v), .int .i64 0]) ∧ Later w w' := by
  have hy := Cal.ya_bd y h1 (by omega)
  have hm := Cal.ma_bd y m (by omega)
  have hl := ln_le y
  have hd := Cal.dm_bd y m h1 h2 h3 h4
  have t : (dm y m == 0) = false := beq_eq_false_iff_ne.2 (by omega)
  go_enter Tryd.func49, Tryd.ntmps49
  go_wp2_with fail
  refine (days_any _ _ _ hL).mono ?_
  rintro e w' ⟨rfl, rfl⟩
  go_wp2_with fail
  refine (mstart_any _ _ _ hL h1 h2 h3 h4).mono ?_
  rintro e w1 ⟨rfl, hg1⟩
  go_wp2_with fail
  refine (fo_any _ _ _ (by omega) (by omega) v0 v1).mono ?_
  rintro e w2 ⟨rfl, n, rfl⟩
  go_wp2_with fail
  go_ret2
  exact ⟨rfl, hg1⟩

theorem nth_none (y m v k : Int) (w : World) (hL : Laid w) (h1 : 1 ≤ y) (h2 : y ≤ 9999) (h3 : 1 ≤ m) (h4 : m ≤ 12) (v0 : 0 ≤ v) (v1 : v < 7) (k1 : 1 ≤ k) (k2 : k ≤ 5) (hn : ya y + ma y m + 1 + dm y m - 1 < fo (ya y + ma y m + 1) v + (k - 1) * 7) :
    Calls Tryd.prog 49 #[.int .i64 y, .int .i64 m, .int .i64 v, .int .i64 k] w fun e w' => e = .returned (.tuple #[.int .i64 0, .int .i64 22]) ∧ Later w w' := by
  have hy := Cal.ya_bd y h1 (by omega)
  have hm := Cal.ma_bd y m (by omega)
  have hl := ln_le y
  have hd := Cal.dm_bd y m h1 h2 h3 h4
  have t : (dm y m == 0) = false := beq_eq_false_iff_ne.2 (by omega)
  have u : (k == -1) = false := beq_eq_false_iff_ne.2 (by omega)
  have u' : (k != -1) = true := bne_iff_ne.2 (by omega)
  have hf := fo_bd (ya y + ma y m + 1) v v0 v1
  have hf1 := hf.1
  have hf2 := hf.2.1
  clear hf
  go_enter Tryd.func49, Tryd.ntmps49
  go_wp2_with fail
  refine (days_any _ _ _ hL).mono ?_
  rintro e w' ⟨rfl, rfl⟩
  go_wp2_with fail
  refine (mstart_any _ _ _ hL h1 h2 h3 h4).mono ?_
  rintro e w1 ⟨rfl, hg1⟩
  go_wp2_with fail
  refine (fo_any _ _ _ (by omega) (by omega) v0 v1).mono ?_
  rintro e w2 ⟨rfl, n, rfl⟩
  go_wp2_with fail
  go_ret2
  exact ⟨rfl, hg1⟩

theorem nth_some (y m v k : Int) (w : World) (hL : Laid w) (h1 : 1 ≤ y) (h2 : y ≤ 9999) (h3 : 1 ≤ m) (h4 : m ≤ 12) (v0 : 0 ≤ v) (v1 : v < 7) (k1 : 1 ≤ k) (k2 : k ≤ 5) (hn : fo (ya y + ma y m + 1) v + (k - 1) * 7 ≤ ya y + ma y m + 1 + dm y m - 1) :
    Calls Tryd.prog 49 #[.int .i64 y, .int .i64 m, .int .i64 v, .int .i64 k] w fun e w' => e = .returned (.tuple #[.int .i64 (fo (ya y + ma y m + 1) v + (k - 1) * 7), .int .i64 0]) ∧ Later w w' := by
  have hy := Cal.ya_bd y h1 (by omega)
  have hm := Cal.ma_bd y m (by omega)
  have hl := ln_le y
  have hd := Cal.dm_bd y m h1 h2 h3 h4
  have t : (dm y m == 0) = false := beq_eq_false_iff_ne.2 (by omega)
  have u : (k == -1) = false := beq_eq_false_iff_ne.2 (by omega)
  have u' : (k != -1) = true := bne_iff_ne.2 (by omega)
  have hf := fo_bd (ya y + ma y m + 1) v v0 v1
  have hf1 := hf.1
  have hf2 := hf.2.1
  clear hf
  go_enter Tryd.func49, Tryd.ntmps49
  go_wp2_with fail
  refine (days_any _ _ _ hL).mono ?_
  rintro e w' ⟨rfl, rfl⟩
  go_wp2_with fail
  refine (mstart_any _ _ _ hL h1 h2 h3 h4).mono ?_
  rintro e w1 ⟨rfl, hg1⟩
  go_wp2_with fail
  refine (fo_any _ _ _ (by omega) (by omega) v0 v1).mono ?_
  rintro e w2 ⟨rfl, n, rfl⟩
  go_wp2_with fail
  go_ret2
  exact ⟨rfl, hg1⟩

end Go.Proofs.YtepaiolhflpmeaaDoor.Greg
