/-
  The document's instants of a minute, and whether two rows of numbers are the same. Conditions: the zone may be, the day and the minute may be asked, as each theorem says; the rows are of at most two numbers.
-/
import Derived.Test.YthmlaidmbcgmdaaDoorZi
import Derived.Test.YthmlaidmbcgmdaaDoorZr
namespace Go.Proofs.YthmlaidmbcgmdaaDoor.Zone
open Go.ChangeShapes Go.WideShapes Go.ChangeAt Go.RowKit
open Go.Proofs.YthmlaidmbcgmdaaDoor.Divs Go.Proofs.YthmlaidmbcgmdaaDoor.Grow
open Go.Proofs.YthmlaidmbcgmdaaDoor.Zo

theorem td_early (z : Zn) (n : Int) (hs : 0 < z.s) : (td z (n - z.b - z.s) == n) = sm z (n - z.b - z.s) := by
  rcases td_cases z (n - z.b - z.s) with ⟨h, e⟩ | ⟨h, e⟩
  · rw [h, e]; simp; omega
  · rw [h, e]; simp; omega

theorem td_late (z : Zn) (n : Int) : (td z (n - z.b) == n) = !sm z (n - z.b) := by
  rcases td_cases z (n - z.b) with ⟨h, e⟩ | ⟨h, e⟩
  · have hs : ¬ z.s = 0 := by
      intro h0
      rw [sm_zero z _ h0] at h
      exact absurd h (by simp)
    rw [h, e]; simp; omega
  · rw [h, e]; simp

set_option maxHeartbeats 2000000 in
theorem rinstants_any (z : Zn) (d m : Int) (w : World) (hz : May z) (d0 : 401 ≤ d) (d1 : d ≤ 3651998) (m0 : 0 ≤ m) (m1 : m ≤ 1439) : Calls Tryd.prog 21 #[.agg (zc z), .int .i64 d, .int .i64 m] w fun e w' => ∃ v, e = .returned v ∧ Sl w' v (ins z (d * 1440 + m)) ∧ Later w w' := by
  have hz' := hz
  unfold May at hz'
  obtain ⟨b0, b1, s0, s1, _⟩ := hz'
  have S1 := Lib.hid (fun W => rtold_any z (d * 1440 + m - z.b - z.s) W hz (by omega) (by omega))
  have S2 := Lib.hid (fun W => rtold_any z (d * 1440 + m - z.b) W hz (by omega) (by omega))
  have HN := Lib.hid (Zat.new w z)
  have HW := Lib.hid ((Later.refl w).alloc (zc z) 25)
  obtain ⟨i0, hi, hz0, hz1, hz2⟩ := info_parts info_int
  have HI := Lib.hid hi
  have HZ0 := Lib.hid hz0
  have HZ1 := Lib.hid hz1
  have HZ2 := Lib.hid hz2
  clear hi hz0 hz1 hz2 hz
  have t2 := td_late z (d * 1440 + m)
  unfold ins
  by_cases hs : 0 < z.s
  · have t1 := td_early z (d * 1440 + m) hs
    have t0 : decide (0 < z.s) = true := by simpa using hs
    cases p : sm z (d * 1440 + m - z.b - z.s) <;> cases q : sm z (d * 1440 + m - z.b)
    all_goals
      rw [p] at t1
      rw [q] at t2
      clear p q
    · unfold zc
      go_enter Tryd.func21, Tryd.ntmps21
      go_wp2_with fail
      refine (S1.out _).mono ?_
      rintro e w2 ⟨rfl, hg2⟩
      have HL2 : Hid (Later (w.alloc (.cells (zc z) 25)) w2) := Lib.hid hg2
      obtain ⟨c0, c1, c2, c3, c4, c5, c6, c7, c8, c9⟩ := HN.out.later HL2.out
      clear hg2
      go_wp2_with fail
      refine (S2.out _).mono ?_
      rintro e w5 ⟨rfl, hg5⟩
      have HL5 : Hid (Later (w.alloc (.cells (zc z) 25)) w5) := Lib.hid (gtrans HL2.out hg5)
      clear c0 c1 c2 c3 c4 c5 c6 c7 c8 c9
      obtain ⟨c0, c1, c2, c3, c4, c5, c6, c7, c8, c9⟩ := HN.out.later HL5.out
      clear hg5
      have ON : SL w5 (w.alloc (.cells (zc z) 25)).heap.size (.slice none 0 0) [] := World.ownsRow_nil _ _ _ _
      go_wp2_with (at_builtin; go_loud (refine wpList_append_own _ rfl _ _ 37 rfl (w.alloc (.cells (zc z) 25)).heap.size 3 i0 (.int .i64 0) 1 8 Tryd.underlying37 HI.out HZ0.out HZ1.out HZ2.out rfl (by decide) _ _ _ rfl (World.ownsRow.alloc ON _) ⟨w5.heap.size, 0, none⟩ 1 1 [.int .i64 (d * 1440 + m - z.b)] rfl rfl (cell_one_new _ _ _) (by simp [Value.oneCell']) (by simp only [maxLen]; simp) (by simp) (by have := HL5.out.size; simp only [World.size_alloc] at this ⊢; omega) ?_); go_loud (intro v' w4 hown' hgrow _; obtain ⟨g', cap', rfl⟩ := ownsRow_succ hown'; have HL6 := Lib.hid (later_grown (xs := ([] : List Int)) (HL5.out.put _) (ON.later ((Later.refl _).put _)) hgrow); have HO6 : Hid (SL w4 (w.alloc (.cells (zc z) 25)).heap.size _ (([] : List Int) ++ [d * 1440 + m - z.b])) := Lib.hid (by unfold SL; rw [List.length_append, List.map_append]; exact hown'); clear hown' hgrow; obtain ⟨c0, c1, c2, c3, c4, c5, c6, c7, c8, c9⟩ := HN.out.later HL6.out))
      go_ret
      exact ⟨_, rfl, HO6.out.sl, gtrans HW.out HL6.out⟩
    · unfold zc
      go_enter Tryd.func21, Tryd.ntmps21
      go_wp2_with fail
      refine (S1.out _).mono ?_
      rintro e w2 ⟨rfl, hg2⟩
      have HL2 : Hid (Later (w.alloc (.cells (zc z) 25)) w2) := Lib.hid hg2
      obtain ⟨c0, c1, c2, c3, c4, c5, c6, c7, c8, c9⟩ := HN.out.later HL2.out
      clear hg2
      go_wp2_with fail
      refine (S2.out _).mono ?_
      rintro e w5 ⟨rfl, hg5⟩
      have HL5 : Hid (Later (w.alloc (.cells (zc z) 25)) w5) := Lib.hid (gtrans HL2.out hg5)
      clear c0 c1 c2 c3 c4 c5 c6 c7 c8 c9
      obtain ⟨c0, c1, c2, c3, c4, c5, c6, c7, c8, c9⟩ := HN.out.later HL5.out
      clear hg5
      go_wp2_with fail
      go_ret
      exact ⟨_, rfl, sl_nil _, gtrans HW.out HL5.out⟩
    · unfold zc
      go_enter Tryd.func21, Tryd.ntmps21
      go_wp2_with fail
      refine (S1.out _).mono ?_
      rintro e w2 ⟨rfl, hg2⟩
      have HL2 : Hid (Later (w.alloc (.cells (zc z) 25)) w2) := Lib.hid hg2
      obtain ⟨c0, c1, c2, c3, c4, c5, c6, c7, c8, c9⟩ := HN.out.later HL2.out
      clear hg2
      have ON : SL w2 (w.alloc (.cells (zc z) 25)).heap.size (.slice none 0 0) [] := World.ownsRow_nil _ _ _ _
      go_wp2_with (at_builtin; go_loud (refine wpList_append_own _ rfl _ _ 37 rfl (w.alloc (.cells (zc z) 25)).heap.size 3 i0 (.int .i64 0) 1 8 Tryd.underlying37 HI.out HZ0.out HZ1.out HZ2.out rfl (by decide) _ _ _ rfl (World.ownsRow.alloc ON _) ⟨w2.heap.size, 0, none⟩ 1 1 [.int .i64 (d * 1440 + m - z.b - z.s)] rfl rfl (cell_one_new _ _ _) (by simp [Value.oneCell']) (by simp only [maxLen]; simp) (by simp) (by have := HL2.out.size; simp only [World.size_alloc] at this ⊢; omega) ?_); go_loud (intro v' w4 hown' hgrow _; obtain ⟨g', cap', rfl⟩ := ownsRow_succ hown'; have HL3 := Lib.hid (later_grown (xs := ([] : List Int)) (HL2.out.put _) (ON.later ((Later.refl _).put _)) hgrow); have HO3 : Hid (SL w4 (w.alloc (.cells (zc z) 25)).heap.size _ (([] : List Int) ++ [d * 1440 + m - z.b - z.s])) := Lib.hid (by unfold SL; rw [List.length_append, List.map_append]; exact hown'); clear hown' hgrow; obtain ⟨c0, c1, c2, c3, c4, c5, c6, c7, c8, c9⟩ := HN.out.later HL3.out))
      refine (S2.out _).mono ?_
      rintro e w5 ⟨rfl, hg5⟩
      have HL5 : Hid (Later (w.alloc (.cells (zc z) 25)) w5) := Lib.hid (gtrans HL3.out hg5)
      clear c0 c1 c2 c3 c4 c5 c6 c7 c8 c9
      obtain ⟨c0, c1, c2, c3, c4, c5, c6, c7, c8, c9⟩ := HN.out.later HL5.out
      have HO5 := Lib.hid (HO3.out.later hg5)
      clear hg5
      go_wp2_with (at_builtin; go_loud (refine wpList_append_own _ rfl _ _ 37 rfl (w.alloc (.cells (zc z) 25)).heap.size 3 i0 (.int .i64 0) 1 8 Tryd.underlying37 HI.out HZ0.out HZ1.out HZ2.out rfl (by decide) _ _ _ rfl (World.ownsRow.alloc HO5.out _) ⟨w5.heap.size, 0, none⟩ 1 1 [.int .i64 (d * 1440 + m - z.b)] rfl rfl (cell_one_new _ _ _) (by simp [Value.oneCell']) (by simp only [maxLen]; simp) (by simp) (by have := HL5.out.size; simp only [World.size_alloc] at this ⊢; omega) ?_); go_loud (intro v' w4 hown' hgrow _; obtain ⟨g', cap', rfl⟩ := ownsRow_succ hown'; have HL6 := Lib.hid (later_grown (xs := ([] ++ [d * 1440 + m - z.b - z.s] : List Int)) (HL5.out.put _) (HO5.out.later ((Later.refl _).put _)) hgrow); have HO6 : Hid (SL w4 (w.alloc (.cells (zc z) 25)).heap.size _ (([] ++ [d * 1440 + m - z.b - z.s] : List Int) ++ [d * 1440 + m - z.b])) := Lib.hid (by unfold SL; rw [List.length_append, List.map_append]; exact hown'); clear hown' hgrow; obtain ⟨c0, c1, c2, c3, c4, c5, c6, c7, c8, c9⟩ := HN.out.later HL6.out))
      go_ret
      exact ⟨_, rfl, HO6.out.sl, gtrans HW.out HL6.out⟩
    · unfold zc
      go_enter Tryd.func21, Tryd.ntmps21
      go_wp2_with fail
      refine (S1.out _).mono ?_
      rintro e w2 ⟨rfl, hg2⟩
      have HL2 : Hid (Later (w.alloc (.cells (zc z) 25)) w2) := Lib.hid hg2
      obtain ⟨c0, c1, c2, c3, c4, c5, c6, c7, c8, c9⟩ := HN.out.later HL2.out
      clear hg2
      have ON : SL w2 (w.alloc (.cells (zc z) 25)).heap.size (.slice none 0 0) [] := World.ownsRow_nil _ _ _ _
      go_wp2_with (at_builtin; go_loud (refine wpList_append_own _ rfl _ _ 37 rfl (w.alloc (.cells (zc z) 25)).heap.size 3 i0 (.int .i64 0) 1 8 Tryd.underlying37 HI.out HZ0.out HZ1.out HZ2.out rfl (by decide) _ _ _ rfl (World.ownsRow.alloc ON _) ⟨w2.heap.size, 0, none⟩ 1 1 [.int .i64 (d * 1440 + m - z.b - z.s)] rfl rfl (cell_one_new _ _ _) (by simp [Value.oneCell']) (by simp only [maxLen]; simp) (by simp) (by have := HL2.out.size; simp only [World.size_alloc] at this ⊢; omega) ?_); go_loud (intro v' w4 hown' hgrow _; obtain ⟨g', cap', rfl⟩ := ownsRow_succ hown'; have HL3 := Lib.hid (later_grown (xs := ([] : List Int)) (HL2.out.put _) (ON.later ((Later.refl _).put _)) hgrow); have HO3 : Hid (SL w4 (w.alloc (.cells (zc z) 25)).heap.size _ (([] : List Int) ++ [d * 1440 + m - z.b - z.s])) := Lib.hid (by unfold SL; rw [List.length_append, List.map_append]; exact hown'); clear hown' hgrow; obtain ⟨c0, c1, c2, c3, c4, c5, c6, c7, c8, c9⟩ := HN.out.later HL3.out))
      refine (S2.out _).mono ?_
      rintro e w5 ⟨rfl, hg5⟩
      have HL5 : Hid (Later (w.alloc (.cells (zc z) 25)) w5) := Lib.hid (gtrans HL3.out hg5)
      clear c0 c1 c2 c3 c4 c5 c6 c7 c8 c9
      obtain ⟨c0, c1, c2, c3, c4, c5, c6, c7, c8, c9⟩ := HN.out.later HL5.out
      have HO5 := Lib.hid (HO3.out.later hg5)
      clear hg5
      go_wp2_with fail
      go_ret
      exact ⟨_, rfl, HO5.out.sl, gtrans HW.out HL5.out⟩
  · have t0 : decide (0 < z.s) = false := by simpa using hs
    rw [sm_zero z _ (by omega)] at t2
    rw [sm_zero z _ (by omega), sm_zero z _ (by omega)]
    clear hs
    unfold zc
    go_enter Tryd.func21, Tryd.ntmps21
    have HL2 := Lib.hid (Later.refl (w.alloc (.cells (zc z) 25)))
    go_wp2_with fail
    refine (S2.out _).mono ?_
    rintro e w5 ⟨rfl, hg5⟩
    have HL5 : Hid (Later (w.alloc (.cells (zc z) 25)) w5) := Lib.hid (gtrans HL2.out hg5)
    obtain ⟨c0, c1, c2, c3, c4, c5, c6, c7, c8, c9⟩ := HN.out.later HL5.out
    clear hg5
    have ON : SL w5 (w.alloc (.cells (zc z) 25)).heap.size (.slice none 0 0) [] := World.ownsRow_nil _ _ _ _
    go_wp2_with (at_builtin; go_loud (refine wpList_append_own _ rfl _ _ 37 rfl (w.alloc (.cells (zc z) 25)).heap.size 3 i0 (.int .i64 0) 1 8 Tryd.underlying37 HI.out HZ0.out HZ1.out HZ2.out rfl (by decide) _ _ _ rfl (World.ownsRow.alloc ON _) ⟨w5.heap.size, 0, none⟩ 1 1 [.int .i64 (d * 1440 + m - z.b)] rfl rfl (cell_one_new _ _ _) (by simp [Value.oneCell']) (by simp only [maxLen]; simp) (by simp) (by have := HL5.out.size; simp only [World.size_alloc] at this ⊢; omega) ?_); go_loud (intro v' w4 hown' hgrow _; obtain ⟨g', cap', rfl⟩ := ownsRow_succ hown'; have HL6 := Lib.hid (later_grown (xs := ([] : List Int)) (HL5.out.put _) (ON.later ((Later.refl _).put _)) hgrow); have HO6 : Hid (SL w4 (w.alloc (.cells (zc z) 25)).heap.size _ (([] : List Int) ++ [d * 1440 + m - z.b])) := Lib.hid (by unfold SL; rw [List.length_append, List.map_append]; exact hown'); clear hown' hgrow; obtain ⟨c0, c1, c2, c3, c4, c5, c6, c7, c8, c9⟩ := HN.out.later HL6.out))
    go_ret
    exact ⟨_, rfl, HO6.out.sl, gtrans HW.out HL6.out⟩

end Go.Proofs.YthmlaidmbcgmdaaDoor.Zone
