/-
  What Instants answers, by the program. Conditions: the numbers are ints, the table of months lies where the program lays it.
-/
import Derived.Test.YthmlaidmbcgmdaaDoorZt
import Derived.Maps.AppendAt
import Derived.RangeFuncBox
namespace Go.Proofs.YthmlaidmbcgmdaaDoor.Zone
open Go.ChangeShapes Go.WideShapes Go.ChangeAt Go.RowKit
open Go.Proofs.YthmlaidmbcgmdaaDoor.Divs Go.Proofs.YthmlaidmbcgmdaaDoor.Grow
open Go.Proofs.YthmlaidmbcgmdaaDoor.Greg (Laid)
open Go.Proofs.YthmlaidmbcgmdaaDoor.Zo

theorem info_int : (Tryd.prog.info? 3).map (fun i => (i.zero, i.size, i.bytes)) = some (some (.int .i64 0), 1, 8) := by kernel_rfl

/-- v is a slice of these numbers, its cells laid since the world had b blocks. -/
def SL (W : World) (b : Nat) (v : Value) (xs : List Int) : Prop := W.ownsRow b 3 1 v xs.length (xs.map (Value.int .i64))

theorem SL.later {W W' : World} {b : Nat} {v : Value} {xs : List Int} (h : SL W b v xs) (g : Later W W') : SL W' b v xs :=
  World.ownsRow.kept h g.grownBy (by cases v.ownBlock <;> simp)

theorem later_grown {w a b : World} {v : Value} {xs : List Int} (g : Later w a) (f : SL a w.heap.size v xs) (k : a.grownBy b v.ownBlock) : Later w b :=
  Later.of_below (g.below.grown k g.size (fun j e => (World.ownsRow.lt f j e).1))

/-- v is a slice of these numbers. -/
def Sl (W : World) (v : Value) (xs : List Int) : Prop :=
  (xs = [] ∧ v = .slice none 0 0) ∨ ∃ g cap, v = .slice (some ⟨g, 0, none⟩) xs.length cap ∧ ∀ (i : Nat) (a : Int), xs[i]? = some a → W.cell? ⟨g, i, none⟩ = some (.int .i64 a)

theorem Sl.later {W W' : World} {v : Value} {xs : List Int} (h : Sl W v xs) (g : Later W W') : Sl W' v xs := by
  rcases h with h | ⟨b, cap, e, h⟩
  · exact .inl h
  · exact .inr ⟨b, cap, e, fun i a hi => gsome g (h i a hi)⟩

theorem add_zero (g j : Nat) : (⟨g, 0, none⟩ : Addr).add j = ⟨g, j, none⟩ := by
  unfold Addr.add
  split
  · rename_i h
    rw [h]
  · simp

theorem SL.sl {W : World} {b : Nat} {v : Value} {xs : List Int} (h : SL W b v xs) : Sl W v xs := by
  rcases h.2 with ⟨e, h0⟩ | ⟨g, cap, cur, rfl, _⟩
  · exact .inl ⟨List.length_eq_zero_iff.1 h0, e⟩
  · refine .inr ⟨g, cap, rfl, fun i a hi => ?_⟩
    have c := World.ownsRow.cells h (g := g) rfl i (.int .i64 a) (by rw [List.getElem?_map, hi]; rfl)
    rwa [add_zero] at c

/-- The error of a minute, and the instants that tell it. -/
def iE (z : Zn) (d m : Int) : Int := if ck z = 0 then (if 401 ≤ d ∧ d ≤ 3651998 ∧ 0 ≤ m ∧ m ≤ 1439 then 0 else 64) else ck z

def iL (z : Zn) (d m : Int) : List Int := if iE z d m = 0 then ins z (d * 1440 + m) else []

theorem iE_ok (z : Zn) (d m : Int) : iE z d m = 0 ↔ May z ∧ 401 ≤ d ∧ d ≤ 3651998 ∧ 0 ≤ m ∧ m ≤ 1439 := by
  unfold iE
  rw [← ck_may]
  by_cases h : ck z = 0
  · rw [if_pos h]; split <;> omega
  · rw [if_neg h]; omega

theorem retsi {v : Value} {c d : Int} (h : c = d) : Ending.returned (.tuple #[v, .int .i64 c]) = .returned (.tuple #[v, .int .i64 d]) := by rw [h]

theorem iL_no (z : Zn) (d m : Int) (h : ¬ iE z d m = 0) : iL z d m = [] := by unfold iL; rw [if_neg h]

theorem sl_nil (W : World) : Sl W (.slice none 0 0) [] := .inl ⟨rfl, rfl⟩

theorem wiB_not (n a b : Int) (h : ¬ (a ≤ n ∧ n ≤ b)) : wiB n a b = false := by
  cases hw : wiB n a b with
  | false => rfl
  | true => exact absurd ((wiB_iff _ _ _).1 hw) h

theorem instants_no (z : Zn) (d m : Int) (w : World) (h : ¬ iE z d m = 0) : Calls Tryd.prog 18 #[.agg (zc z), .int .i64 d, .int .i64 m] w fun e w' => ∃ v, e = .returned (.tuple #[v, .int .i64 (iE z d m)]) ∧ Sl w' v (iL z d m) ∧ Later w w' := by
  have C := Lib.hid (fun W => check_any z W)
  have K := Lib.hid (fun n a b W => within_any n a b W)
  rw [iL_no z d m h]
  by_cases h0 : ck z = 0
  · have e0 : (ck z != 0) = false := by simpa using h0
    have HE : Hid (64 = iE z d m) := by
      have : 64 = iE z d m := by
        unfold iE at h ⊢; rw [if_pos h0] at h ⊢
        split at h
        · exact absurd rfl h
        · rename_i g; rw [if_neg g]
      exact this
    by_cases hd : 401 ≤ d ∧ d ≤ 3651998
    · have e1 := (wiB_iff d 401 3651998).2 hd
      have e2 := wiB_not m 0 1439 (by
        intro hm
        unfold iE at h; rw [if_pos h0, if_pos (by omega)] at h
        exact h rfl)
      clear h h0 hd
      unfold zc
      go_enter Tryd.func18, Tryd.ntmps18
      go_wp2_with fail
      refine (C.out _).mono ?_
      rintro e w1 ⟨rfl, hg1⟩
      go_wp2_with (go_at_call 24; refine (K.out _ _ _ _).mono ?_; rintro e w1 ⟨rfl, rfl⟩)
      go_ret2
      exact ⟨_, retsi HE.out, sl_nil _, gtrans ((Later.refl w).alloc _ _) hg1⟩
    · have e1 := wiB_not d 401 3651998 hd
      clear h h0 hd
      unfold zc
      go_enter Tryd.func18, Tryd.ntmps18
      go_wp2_with fail
      refine (C.out _).mono ?_
      rintro e w1 ⟨rfl, hg1⟩
      go_wp2_with (go_at_call 24; refine (K.out _ _ _ _).mono ?_; rintro e w1 ⟨rfl, rfl⟩)
      go_ret2
      exact ⟨_, retsi HE.out, sl_nil _, gtrans ((Later.refl w).alloc _ _) hg1⟩
  · have e0 : (ck z != 0) = true := by simpa using h0
    have HE : Hid (ck z = iE z d m) := by
      have : ck z = iE z d m := by unfold iE; rw [if_neg h0]
      exact this
    clear h h0
    unfold zc
    go_enter Tryd.func18, Tryd.ntmps18
    go_wp2_with fail
    refine (C.out _).mono ?_
    rintro e w1 ⟨rfl, hg1⟩
    go_wp2_with fail
    go_ret2
    exact ⟨_, retsi HE.out, sl_nil _, gtrans ((Later.refl w).alloc _ _) hg1⟩

set_option maxHeartbeats 2000000 in
theorem instants_yes (z : Zn) (d m : Int) (w : World) (hL : Laid w) (h : iE z d m = 0) : Calls Tryd.prog 18 #[.agg (zc z), .int .i64 d, .int .i64 m] w fun e w' => ∃ v, e = .returned (.tuple #[v, .int .i64 (iE z d m)]) ∧ Sl w' v (iL z d m) ∧ Later w w' := by
  obtain ⟨hz, d0, d1, m0, m1⟩ := (iE_ok z d m).1 h
  have hz' := hz
  unfold May at hz'
  obtain ⟨b0, b1, s0, s1, _⟩ := hz'
  have C := Lib.hid (fun W => check_any z W)
  have K := Lib.hid (fun n a b W => within_any n a b W)
  have S1 := Lib.hid (fun W hW => shifted_any z (d * 1440 + m - z.b - z.s) W hW hz (by omega) (by omega))
  have S2 := Lib.hid (fun W hW => shifted_any z (d * 1440 + m - z.b) W hW hz (by omega) (by omega))
  have HN := Lib.hid (Zat.new w z)
  have HL := Lib.hid (hL.grown ((Later.refl w).alloc (zc z) 25))
  have HW := Lib.hid ((Later.refl w).alloc (zc z) 25)
  have HE := Lib.hid h
  have e0 : (ck z != 0) = false := by simpa using (ck_may z).2 hz
  have e1 := (wiB_iff d 401 3651998).2 ⟨d0, d1⟩
  have e2 := (wiB_iff m 0 1439).2 ⟨m0, m1⟩
  have HI' : iL z d m = ins z (d * 1440 + m) := by unfold iL; rw [if_pos h]
  obtain ⟨i0, hi, hz0, hz1, hz2⟩ := info_parts info_int
  have HI := Lib.hid hi
  have HZ0 := Lib.hid hz0
  have HZ1 := Lib.hid hz1
  have HZ2 := Lib.hid hz2
  clear hi hz0 hz1 hz2 hL h hz
  unfold ins at HI'
  rw [HI']
  clear HI'
  cases p : sm z (d * 1440 + m - z.b - z.s) <;> cases q : sm z (d * 1440 + m - z.b)
  · rw [p] at S1; rw [q] at S2
    clear p q
    unfold zc
    go_enter Tryd.func18, Tryd.ntmps18
    go_wp2_with fail
    refine (C.out _).mono ?_
    rintro e w1 ⟨rfl, hg1⟩
    have HL1 : Hid (Later (w.alloc (.cells (zc z) 25)) w1) := Lib.hid hg1
    obtain ⟨c0, c1, c2, c3, c4, c5, c6, c7, c8, c9⟩ := HN.out.later HL1.out
    clear hg1
    go_wp2_with (go_at_call 24; refine (K.out _ _ _ _).mono ?_; rintro e w1 ⟨rfl, rfl⟩)
    refine (S1.out _ (HL.out.grown HL1.out)).mono ?_
    rintro e w2 ⟨rfl, hg2⟩
    have HL2 := Lib.hid (gtrans HL1.out hg2)
    clear c0 c1 c2 c3 c4 c5 c6 c7 c8 c9
    obtain ⟨c0, c1, c2, c3, c4, c5, c6, c7, c8, c9⟩ := HN.out.later HL2.out
    clear hg2
    go_wp2_with fail
    refine (S2.out _ (HL.out.grown HL2.out)).mono ?_
    rintro e w5 ⟨rfl, hg5⟩
    have HL5 := Lib.hid (gtrans HL2.out hg5)
    clear c0 c1 c2 c3 c4 c5 c6 c7 c8 c9
    obtain ⟨c0, c1, c2, c3, c4, c5, c6, c7, c8, c9⟩ := HN.out.later HL5.out
    clear hg5
    have ON : SL w5 (w.alloc (.cells (zc z) 25)).heap.size (.slice none 0 0) [] := World.ownsRow_nil _ _ _ _
    go_wp2_with (at_builtin; go_loud (refine wpList_append_own _ rfl _ _ 37 rfl (w.alloc (.cells (zc z) 25)).heap.size 3 i0 (.int .i64 0) 1 8 Tryd.underlying37 HI.out HZ0.out HZ1.out HZ2.out rfl (by decide) _ _ _ rfl (World.ownsRow.alloc ON _) ⟨w5.heap.size, 0, none⟩ 1 1 [.int .i64 (d * 1440 + m - z.b)] rfl rfl (cell_one_new _ _ _) (by simp [Value.oneCell']) (by simp only [maxLen]; simp) (by simp) (by have := HL5.out.size; simp only [World.size_alloc] at this ⊢; omega) ?_); go_loud (intro v' w4 hown' hgrow _; obtain ⟨g', cap', rfl⟩ := ownsRow_succ hown'; have HL6 := Lib.hid (later_grown (xs := ([] : List Int)) (HL5.out.put _) (ON.later ((Later.refl _).put _)) hgrow); have HO6 : Hid (SL w4 (w.alloc (.cells (zc z) 25)).heap.size _ (([] : List Int) ++ [d * 1440 + m - z.b])) := Lib.hid (by unfold SL; rw [List.length_append, List.map_append]; exact hown'); clear hown' hgrow; obtain ⟨c0, c1, c2, c3, c4, c5, c6, c7, c8, c9⟩ := HN.out.later HL6.out))
    go_ret2
    exact ⟨_, retsi HE.out.symm, HO6.out.sl, gtrans HW.out HL6.out⟩
  · rw [p] at S1; rw [q] at S2
    clear p q
    unfold zc
    go_enter Tryd.func18, Tryd.ntmps18
    go_wp2_with fail
    refine (C.out _).mono ?_
    rintro e w1 ⟨rfl, hg1⟩
    have HL1 : Hid (Later (w.alloc (.cells (zc z) 25)) w1) := Lib.hid hg1
    obtain ⟨c0, c1, c2, c3, c4, c5, c6, c7, c8, c9⟩ := HN.out.later HL1.out
    clear hg1
    go_wp2_with (go_at_call 24; refine (K.out _ _ _ _).mono ?_; rintro e w1 ⟨rfl, rfl⟩)
    refine (S1.out _ (HL.out.grown HL1.out)).mono ?_
    rintro e w2 ⟨rfl, hg2⟩
    have HL2 := Lib.hid (gtrans HL1.out hg2)
    clear c0 c1 c2 c3 c4 c5 c6 c7 c8 c9
    obtain ⟨c0, c1, c2, c3, c4, c5, c6, c7, c8, c9⟩ := HN.out.later HL2.out
    clear hg2
    go_wp2_with fail
    refine (S2.out _ (HL.out.grown HL2.out)).mono ?_
    rintro e w5 ⟨rfl, hg5⟩
    have HL5 := Lib.hid (gtrans HL2.out hg5)
    clear c0 c1 c2 c3 c4 c5 c6 c7 c8 c9
    obtain ⟨c0, c1, c2, c3, c4, c5, c6, c7, c8, c9⟩ := HN.out.later HL5.out
    clear hg5
    go_wp2_with fail
    go_ret2
    exact ⟨_, retsi HE.out.symm, sl_nil _, gtrans HW.out HL5.out⟩
  · rw [p] at S1; rw [q] at S2
    clear p q
    unfold zc
    go_enter Tryd.func18, Tryd.ntmps18
    go_wp2_with fail
    refine (C.out _).mono ?_
    rintro e w1 ⟨rfl, hg1⟩
    have HL1 : Hid (Later (w.alloc (.cells (zc z) 25)) w1) := Lib.hid hg1
    obtain ⟨c0, c1, c2, c3, c4, c5, c6, c7, c8, c9⟩ := HN.out.later HL1.out
    clear hg1
    go_wp2_with (go_at_call 24; refine (K.out _ _ _ _).mono ?_; rintro e w1 ⟨rfl, rfl⟩)
    refine (S1.out _ (HL.out.grown HL1.out)).mono ?_
    rintro e w2 ⟨rfl, hg2⟩
    have HL2 := Lib.hid (gtrans HL1.out hg2)
    clear c0 c1 c2 c3 c4 c5 c6 c7 c8 c9
    obtain ⟨c0, c1, c2, c3, c4, c5, c6, c7, c8, c9⟩ := HN.out.later HL2.out
    clear hg2
    have ON : SL w2 (w.alloc (.cells (zc z) 25)).heap.size (.slice none 0 0) [] := World.ownsRow_nil _ _ _ _
    go_wp2_with (at_builtin; go_loud (refine wpList_append_own _ rfl _ _ 37 rfl (w.alloc (.cells (zc z) 25)).heap.size 3 i0 (.int .i64 0) 1 8 Tryd.underlying37 HI.out HZ0.out HZ1.out HZ2.out rfl (by decide) _ _ _ rfl (World.ownsRow.alloc ON _) ⟨w2.heap.size, 0, none⟩ 1 1 [.int .i64 (d * 1440 + m - z.b - z.s)] rfl rfl (cell_one_new _ _ _) (by simp [Value.oneCell']) (by simp only [maxLen]; simp) (by simp) (by have := HL2.out.size; simp only [World.size_alloc] at this ⊢; omega) ?_); go_loud (intro v' w4 hown' hgrow _; obtain ⟨g', cap', rfl⟩ := ownsRow_succ hown'; have HL3 := Lib.hid (later_grown (xs := ([] : List Int)) (HL2.out.put _) (ON.later ((Later.refl _).put _)) hgrow); have HO3 : Hid (SL w4 (w.alloc (.cells (zc z) 25)).heap.size _ (([] : List Int) ++ [d * 1440 + m - z.b - z.s])) := Lib.hid (by unfold SL; rw [List.length_append, List.map_append]; exact hown'); clear hown' hgrow; obtain ⟨c0, c1, c2, c3, c4, c5, c6, c7, c8, c9⟩ := HN.out.later HL3.out))
    refine (S2.out _ (HL.out.grown HL3.out)).mono ?_
    rintro e w5 ⟨rfl, hg5⟩
    have HL5 := Lib.hid (gtrans HL3.out hg5)
    clear c0 c1 c2 c3 c4 c5 c6 c7 c8 c9
    obtain ⟨c0, c1, c2, c3, c4, c5, c6, c7, c8, c9⟩ := HN.out.later HL5.out
    have HO5 := Lib.hid (HO3.out.later hg5)
    clear hg5
    go_wp2_with (at_builtin; go_loud (refine wpList_append_own _ rfl _ _ 37 rfl (w.alloc (.cells (zc z) 25)).heap.size 3 i0 (.int .i64 0) 1 8 Tryd.underlying37 HI.out HZ0.out HZ1.out HZ2.out rfl (by decide) _ _ _ rfl (World.ownsRow.alloc HO5.out _) ⟨w5.heap.size, 0, none⟩ 1 1 [.int .i64 (d * 1440 + m - z.b)] rfl rfl (cell_one_new _ _ _) (by simp [Value.oneCell']) (by simp only [maxLen]; simp) (by simp) (by have := HL5.out.size; simp only [World.size_alloc] at this ⊢; omega) ?_); go_loud (intro v' w4 hown' hgrow _; obtain ⟨g', cap', rfl⟩ := ownsRow_succ hown'; have HL6 := Lib.hid (later_grown (xs := ([] ++ [d * 1440 + m - z.b - z.s] : List Int)) (HL5.out.put _) (HO5.out.later ((Later.refl _).put _)) hgrow); have HO6 : Hid (SL w4 (w.alloc (.cells (zc z) 25)).heap.size _ (([] ++ [d * 1440 + m - z.b - z.s] : List Int) ++ [d * 1440 + m - z.b])) := Lib.hid (by unfold SL; rw [List.length_append, List.map_append]; exact hown'); clear hown' hgrow; obtain ⟨c0, c1, c2, c3, c4, c5, c6, c7, c8, c9⟩ := HN.out.later HL6.out))
    go_ret2
    exact ⟨_, retsi HE.out.symm, HO6.out.sl, gtrans HW.out HL6.out⟩
  · rw [p] at S1; rw [q] at S2
    clear p q
    unfold zc
    go_enter Tryd.func18, Tryd.ntmps18
    go_wp2_with fail
    refine (C.out _).mono ?_
    rintro e w1 ⟨rfl, hg1⟩
    have HL1 : Hid (Later (w.alloc (.cells (zc z) 25)) w1) := Lib.hid hg1
    obtain ⟨c0, c1, c2, c3, c4, c5, c6, c7, c8, c9⟩ := HN.out.later HL1.out
    clear hg1
    go_wp2_with (go_at_call 24; refine (K.out _ _ _ _).mono ?_; rintro e w1 ⟨rfl, rfl⟩)
    refine (S1.out _ (HL.out.grown HL1.out)).mono ?_
    rintro e w2 ⟨rfl, hg2⟩
    have HL2 := Lib.hid (gtrans HL1.out hg2)
    clear c0 c1 c2 c3 c4 c5 c6 c7 c8 c9
    obtain ⟨c0, c1, c2, c3, c4, c5, c6, c7, c8, c9⟩ := HN.out.later HL2.out
    clear hg2
    have ON : SL w2 (w.alloc (.cells (zc z) 25)).heap.size (.slice none 0 0) [] := World.ownsRow_nil _ _ _ _
    go_wp2_with (at_builtin; go_loud (refine wpList_append_own _ rfl _ _ 37 rfl (w.alloc (.cells (zc z) 25)).heap.size 3 i0 (.int .i64 0) 1 8 Tryd.underlying37 HI.out HZ0.out HZ1.out HZ2.out rfl (by decide) _ _ _ rfl (World.ownsRow.alloc ON _) ⟨w2.heap.size, 0, none⟩ 1 1 [.int .i64 (d * 1440 + m - z.b - z.s)] rfl rfl (cell_one_new _ _ _) (by simp [Value.oneCell']) (by simp only [maxLen]; simp) (by simp) (by have := HL2.out.size; simp only [World.size_alloc] at this ⊢; omega) ?_); go_loud (intro v' w4 hown' hgrow _; obtain ⟨g', cap', rfl⟩ := ownsRow_succ hown'; have HL3 := Lib.hid (later_grown (xs := ([] : List Int)) (HL2.out.put _) (ON.later ((Later.refl _).put _)) hgrow); have HO3 : Hid (SL w4 (w.alloc (.cells (zc z) 25)).heap.size _ (([] : List Int) ++ [d * 1440 + m - z.b - z.s])) := Lib.hid (by unfold SL; rw [List.length_append, List.map_append]; exact hown'); clear hown' hgrow; obtain ⟨c0, c1, c2, c3, c4, c5, c6, c7, c8, c9⟩ := HN.out.later HL3.out))
    refine (S2.out _ (HL.out.grown HL3.out)).mono ?_
    rintro e w5 ⟨rfl, hg5⟩
    have HL5 := Lib.hid (gtrans HL3.out hg5)
    clear c0 c1 c2 c3 c4 c5 c6 c7 c8 c9
    obtain ⟨c0, c1, c2, c3, c4, c5, c6, c7, c8, c9⟩ := HN.out.later HL5.out
    have HO5 := Lib.hid (HO3.out.later hg5)
    clear hg5
    go_wp2_with fail
    go_ret2
    exact ⟨_, retsi HE.out.symm, HO5.out.sl, gtrans HW.out HL5.out⟩

theorem instants_any (z : Zn) (d m : Int) (w : World) (hL : Laid w) : Calls Tryd.prog 18 #[.agg (zc z), .int .i64 d, .int .i64 m] w fun e w' => ∃ v, e = .returned (.tuple #[v, .int .i64 (iE z d m)]) ∧ Sl w' v (iL z d m) ∧ Later w w' := by
  by_cases h : iE z d m = 0
  · exact instants_yes z d m w hL h
  · exact instants_no z d m w h

end Go.Proofs.YthmlaidmbcgmdaaDoor.Zone
