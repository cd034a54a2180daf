/-
  An instant is one of those at which clocks tell what they tell then, and all of these tell the same: for every zone and every int. Condition: the table of months starts as the program's text lays it.
-/
import Derived.Test.YthmlaidmbcgmdaaDoorLift
namespace Go.Proofs.YthmlaidmbcgmdaaDoor.zoneBack
open Go.ChangeShapes Go.WideShapes Go.ChangeAt Go.RowKit Go.Joins
open Go.Proofs.YthmlaidmbcgmdaaDoor.Divs Go.Proofs.YthmlaidmbcgmdaaDoor.Grow Go.Proofs.YthmlaidmbcgmdaaDoor.Zo Go.Proofs.YthmlaidmbcgmdaaDoor.Zone
open Go.Proofs.YthmlaidmbcgmdaaDoor.Greg (Laid laidL own of_laid door_met Zwf zd open_zone shut_zone)
set_option linter.unusedVariables false

theorem none_any (z : Zn) (d m : Int) (w : World) (hL : Laid w) (h : ¬ iE z d m = 0) : Calls Tryd.prog 18 #[.agg (zc z), .int .i64 d, .int .i64 m] w fun e w' => ∃ a c, e = .returned (.tuple #[.slice a 0 c, .int .i64 (iE z d m)]) ∧ Later w w' := by
  refine (instants_any z d m w hL).mono ?_
  rintro e w' ⟨v, rfl, hs, hg⟩
  rw [iL_no z d m h] at hs
  obtain ⟨a, c, rfl⟩ := hs.none
  exact ⟨a, c, rfl, hg⟩

set_option maxHeartbeats 1000000 in
set_option maxRecDepth 100000 in
theorem walk_no (z : Zn) (t : Int) (w : World) (hL : Laid w) (h : ¬ sE z t = 0) : Calls Tryd.prog 6 #[.agg (zc z), .int .i64 t] w fun e w' => e = .returned (.bool true) ∧ Later w w' := by
  have hD : lD z t = 0 := by unfold lD; rw [if_neg h]
  have hM : lM z t = 0 := by unfold lM; rw [if_neg h]
  have K := fun W hW => local_any z t W hW
  rw [hD, hM] at K
  have HK := Lib.hid K
  have hi : ¬ iE z 0 0 = 0 := by rw [iE_ok]; omega
  have I := Lib.hid (fun W hW => none_any z 0 0 W hW hi)
  have HN := Lib.hid (Zat.new w z)
  have HW := Lib.hid ((Later.refl w).alloc (zc z) 25)
  have HL := Lib.hid (hL.grown HW.out)
  have A := Lib.hid awake_any
  have e0 : (sE z t != 0) = true := by simpa using h
  clear hL h hD hM K hi
  unfold zc at HL ⊢
  go_enter Tryd.func6, Tryd.ntmps6
  go_wp2_with fail
  refine (HK.out _ HL.out).mono ?_
  rintro e w1 ⟨rfl, hg1⟩
  have G1 : Hid (Later (w.alloc (.cells (zc z) 25)) w1) := Lib.hid hg1
  have L1 := Lib.hid (HL.out.grown hg1)
  clear hg1
  obtain ⟨k0, k1, k2, k3, k4, k5, k6, k7, k8, k9⟩ := HN.out.later G1.out
  go_wp2_with fail
  refine (I.out _ L1.out).mono ?_
  rintro e w2 ⟨a, c, rfl, hg2⟩
  have G2 := Lib.hid (gtrans G1.out hg2)
  have L2 := Lib.hid (L1.out.grown hg2)
  clear hg2
  clear k0 k1 k2 k3 k4 k5 k6 k7 k8 k9
  go_wp2_with fail
  refine (A.out _ L2.out).mono ?_
  rintro e w3 ⟨rfl, hg3⟩
  go_wp2_with fail
  go_ret
  exact ⟨rfl, gtrans HW.out (gtrans G2.out hg3)⟩

set_option maxHeartbeats 1000000 in
set_option maxRecDepth 100000 in
theorem walk_far (z : Zn) (t : Int) (w : World) (hL : Laid w) (h : sE z t = 0) (hi : ¬ iE z (td z t / 1440) (td z t % 1440) = 0) : Calls Tryd.prog 6 #[.agg (zc z), .int .i64 t] w fun e w' => e = .returned (.bool true) ∧ Later w w' := by
  have hD : lD z t = td z t / 1440 := by unfold lD; rw [if_pos h]
  have hM : lM z t = td z t % 1440 := by unfold lM; rw [if_pos h]
  have K := fun W hW => local_any z t W hW
  rw [hD, hM, h] at K
  have HK := Lib.hid K
  have I := Lib.hid (fun W hW => none_any z (td z t / 1440) (td z t % 1440) W hW hi)
  have hr : td z t / 1440 < 401 ∨ 3651998 < td z t / 1440 := by
    have hm := (sE_ok z t).1 h
    have := mt (iE_ok z (td z t / 1440) (td z t % 1440)).2 hi
    by_cases a : td z t / 1440 < 401
    · exact .inl a
    by_cases b : 3651998 < td z t / 1440
    · exact .inr b
    exact absurd ⟨hm.1, by omega, by omega, by omega, by omega⟩ this
  have HN := Lib.hid (Zat.new w z)
  have HW := Lib.hid ((Later.refl w).alloc (zc z) 25)
  have HL := Lib.hid (hL.grown HW.out)
  have A := Lib.hid awake_any
  have e0 : (iE z (td z t / 1440) (td z t % 1440) != 0) = true := by simpa using hi
  clear hL h hD hM K hi
  generalize td z t / 1440 = x at *
  generalize td z t % 1440 = y at *
  unfold zc at HL ⊢
  by_cases hx : x < 401
  · clear hr
    go_enter Tryd.func6, Tryd.ntmps6
    go_wp2_with fail
    refine (HK.out _ HL.out).mono ?_
    rintro e w1 ⟨rfl, hg1⟩
    have G1 : Hid (Later (w.alloc (.cells (zc z) 25)) w1) := Lib.hid hg1
    have L1 := Lib.hid (HL.out.grown hg1)
    clear hg1
    obtain ⟨k0, k1, k2, k3, k4, k5, k6, k7, k8, k9⟩ := HN.out.later G1.out
    go_wp2_with fail
    refine (I.out _ L1.out).mono ?_
    rintro e w2 ⟨a, c, rfl, hg2⟩
    have G2 := Lib.hid (gtrans G1.out hg2)
    have L2 := Lib.hid (L1.out.grown hg2)
    clear hg2
    clear k0 k1 k2 k3 k4 k5 k6 k7 k8 k9
    go_wp2_with fail
    refine (A.out _ L2.out).mono ?_
    rintro e w3 ⟨rfl, hg3⟩
    go_wp2_with fail
    go_ret
    exact ⟨rfl, gtrans HW.out (gtrans G2.out hg3)⟩
  · have hx2 : 3651998 < x := by omega
    clear hr
    go_enter Tryd.func6, Tryd.ntmps6
    go_wp2_with fail
    refine (HK.out _ HL.out).mono ?_
    rintro e w1 ⟨rfl, hg1⟩
    have G1 : Hid (Later (w.alloc (.cells (zc z) 25)) w1) := Lib.hid hg1
    have L1 := Lib.hid (HL.out.grown hg1)
    clear hg1
    obtain ⟨k0, k1, k2, k3, k4, k5, k6, k7, k8, k9⟩ := HN.out.later G1.out
    go_wp2_with fail
    refine (I.out _ L1.out).mono ?_
    rintro e w2 ⟨a, c, rfl, hg2⟩
    have G2 := Lib.hid (gtrans G1.out hg2)
    have L2 := Lib.hid (L1.out.grown hg2)
    clear hg2
    clear k0 k1 k2 k3 k4 k5 k6 k7 k8 k9
    go_wp2_with fail
    refine (A.out _ L2.out).mono ?_
    rintro e w3 ⟨rfl, hg3⟩
    go_wp2_with fail
    go_ret
    exact ⟨rfl, gtrans HW.out (gtrans G2.out hg3)⟩

/-- What the loop keeps: how far it is, and whether the instant was met. -/
def BRel (W0 : World) (f : Nat → Bool) (n : Nat) (x y : Value) (wr : World) : Prop := ∃ i : Nat, i ≤ n ∧ x = .bool (f i) ∧ y = .int .i64 i ∧ Later W0 wr

set_option maxHeartbeats 2000000 in
set_option maxRecDepth 100000 in
theorem walk_one (z : Zn) (t x y : Int) (w : World) (hL : Laid w)
    (K : ∀ W, Laid W → Calls Tryd.prog 14 #[.agg (zc z), .int .i64 t] W fun e w' => e = .returned (.tuple #[.int .i64 x, .int .i64 y, .int .i64 0]) ∧ Later W w')
    (I : ∀ W, Laid W → Calls Tryd.prog 18 #[.agg (zc z), .int .i64 x, .int .i64 y] W fun e w' => ∃ v, e = .returned (.tuple #[v, .int .i64 0]) ∧ Sl w' v [t] ∧ Later W w') : Calls Tryd.prog 6 #[.agg (zc z), .int .i64 t] w fun e w' => e = .returned (.bool true) ∧ Later w w' := by
  have HK := Lib.hid K
  have HI := Lib.hid I
  have HN := Lib.hid (Zat.new w z)
  have HW := Lib.hid ((Later.refl w).alloc (zc z) 25)
  have HL := Lib.hid (hL.grown HW.out)
  have A := Lib.hid awake_any
  have e1 : (x != x) = false := by simp
  have e2 : (y != y) = false := by simp
  have e3 : (t == t) = true := by simp
  clear hL K I
  unfold zc at HL ⊢
  go_enter Tryd.func6, Tryd.ntmps6
  go_wp2_with fail
  refine (HK.out _ HL.out).mono ?_
  rintro e w1 ⟨rfl, hg1⟩
  have G1 : Hid (Later (w.alloc (.cells (zc z) 25)) w1) := Lib.hid hg1
  have L1 := Lib.hid (HL.out.grown hg1)
  clear hg1
  obtain ⟨k0, k1, k2, k3, k4, k5, k6, k7, k8, k9⟩ := HN.out.later G1.out
  go_wp2_with fail
  refine (HI.out _ L1.out).mono ?_
  rintro e w2 ⟨v, rfl, hv, hg2⟩
  obtain ⟨g, c, rfl, hc⟩ := hv.some
  have HC := Lib.hid (hc 0 _ rfl)
  clear hv hc
  have G2 := Lib.hid (gtrans G1.out hg2)
  have L2 := Lib.hid (L1.out.grown hg2)
  clear hg2
  clear k0 k1 k2 k3 k4 k5 k6 k7 k8 k9
  go_wp2_with fail
  go_loopw [10, 11] (fun x y wr => BRel w2 (fun i => decide (i = 1)) 1 x y wr) (fun _ y _ => (1 - intOf y).toNat)
  case atStart => exact ⟨0, by omega, rfl, rfl, Later.refl w2⟩
  case round =>
    obtain ⟨i, hi, rfl, rfl, hg⟩ := hrel
    rename_i wr _
    have G3 := Lib.hid (gtrans G2.out hg)
    have L3 := Lib.hid (L2.out.grown hg)
    have C3 := Lib.hid (gsome hg HC.out)
    have HG := Lib.hid hg
    clear hg
    obtain rfl | rfl : i = 0 ∨ i = 1 := by omega
    · go_wp2_with fail
      obtain ⟨k0, k1, k2, k3, k4, k5, k6, k7, k8, k9⟩ := HN.out.later G3.out
      have d0 := gw_cell k0
      have d1 := gw_cell k1
      have d2 := gw_cell k2
      have d3 := gw_cell k3
      have d4 := gw_cell k4
      have d5 := gw_cell k5
      have d6 := gw_cell k6
      have d7 := gw_cell k7
      have d8 := gw_cell k8
      have d9 := gw_cell k9
      clear k0 k1 k2 k3 k4 k5 k6 k7 k8 k9
      have x0 := gw_cell C3.out
      have hL3 := L3.out
      refine region_grown (by kernel_rfl) (by kernel_rfl) ?_
      repeat (go_big_quiet_step ((go_at_call 14; exact in_grown (HK.out _ (hL3.gw _)))))
      refine wpQuiet_nil (grown_end ?_)
      intro w4 hg4
      clear d0 d1 d2 d3 d4 d5 d6 d7 d8 d9
      have G4 := Lib.hid (gtrans HG.out hg4)
      have y0 := gw_cell (gsome hg4 C3.out)
      have C4 := Lib.hid (gsome hg4 C3.out)
      clear x0 hL3 hg4
      go_wp2_with fail
      refine region_grown (by kernel_rfl) (by kernel_rfl) ?_
      repeat (go_big_quiet_step (fail))
      refine wpQuiet_nil (grown_end ?_)
      intro w5 hg5
      have G5 := Lib.hid (gtrans G4.out hg5)
      have c5 := gsome hg5 C4.out
      clear y0 hg5
      go_wp2_with fail
      go_roundw
      case rel => exact ⟨1, by omega, rfl, rfl, G5.out⟩
      case measure => simp [intOf]
    · go_wp2_with fail
      refine (A.out _ L3.out).mono ?_
      rintro e w6 ⟨rfl, hg6⟩
      go_wp2_with fail
      go_ret
      exact ⟨rfl, gtrans HW.out (gtrans G3.out hg6)⟩

set_option maxHeartbeats 2000000 in
set_option maxRecDepth 100000 in
theorem walk_first (z : Zn) (t b x y : Int) (w : World) (hL : Laid w) (hlt : t < b)
    (K : ∀ W, Laid W → Calls Tryd.prog 14 #[.agg (zc z), .int .i64 t] W fun e w' => e = .returned (.tuple #[.int .i64 x, .int .i64 y, .int .i64 0]) ∧ Later W w')
    (O : ∀ W, Laid W → Calls Tryd.prog 14 #[.agg (zc z), .int .i64 b] W fun e w' => e = .returned (.tuple #[.int .i64 x, .int .i64 y, .int .i64 0]) ∧ Later W w')
    (I : ∀ W, Laid W → Calls Tryd.prog 18 #[.agg (zc z), .int .i64 x, .int .i64 y] W fun e w' => ∃ v, e = .returned (.tuple #[v, .int .i64 0]) ∧ Sl w' v [t, b] ∧ Later W w') : Calls Tryd.prog 6 #[.agg (zc z), .int .i64 t] w fun e w' => e = .returned (.bool true) ∧ Later w w' := by
  have HK := Lib.hid K
  have HO := Lib.hid O
  have HI := Lib.hid I
  have HN := Lib.hid (Zat.new w z)
  have HW := Lib.hid ((Later.refl w).alloc (zc z) 25)
  have HL := Lib.hid (hL.grown HW.out)
  have A := Lib.hid awake_any
  have e1 : (x != x) = false := by simp
  have e2 : (y != y) = false := by simp
  have e3 : (t == t) = true := by simp
  clear hL K O I
  unfold zc at HL ⊢
  go_enter Tryd.func6, Tryd.ntmps6
  go_wp2_with fail
  refine (HK.out _ HL.out).mono ?_
  rintro e w1 ⟨rfl, hg1⟩
  have G1 : Hid (Later (w.alloc (.cells (zc z) 25)) w1) := Lib.hid hg1
  have L1 := Lib.hid (HL.out.grown hg1)
  clear hg1
  obtain ⟨k0, k1, k2, k3, k4, k5, k6, k7, k8, k9⟩ := HN.out.later G1.out
  go_wp2_with fail
  refine (HI.out _ L1.out).mono ?_
  rintro e w2 ⟨v, rfl, hv, hg2⟩
  obtain ⟨g, c, rfl, hc⟩ := hv.some
  have HC0 := Lib.hid (hc 0 _ rfl)
  have HC1 := Lib.hid (hc 1 _ rfl)
  clear hv hc
  have G2 := Lib.hid (gtrans G1.out hg2)
  have L2 := Lib.hid (L1.out.grown hg2)
  clear hg2
  clear k0 k1 k2 k3 k4 k5 k6 k7 k8 k9
  go_wp2_with fail
  go_loopw [10, 11] (fun x y wr => BRel w2 (fun i => decide (1 ≤ i)) 2 x y wr) (fun _ y _ => (2 - intOf y).toNat)
  case atStart => exact ⟨0, by omega, rfl, rfl, Later.refl w2⟩
  case round =>
    obtain ⟨i, hi, rfl, rfl, hg⟩ := hrel
    rename_i wr _
    have G3 := Lib.hid (gtrans G2.out hg)
    have L3 := Lib.hid (L2.out.grown hg)
    have C30 := Lib.hid (gsome hg HC0.out)
    have C31 := Lib.hid (gsome hg HC1.out)
    have HG := Lib.hid hg
    clear hg
    obtain rfl | rfl | rfl : i = 0 ∨ i = 1 ∨ i = 2 := by omega
    · go_wp2_with fail
      obtain ⟨k0, k1, k2, k3, k4, k5, k6, k7, k8, k9⟩ := HN.out.later G3.out
      have d0 := gw_cell k0
      have d1 := gw_cell k1
      have d2 := gw_cell k2
      have d3 := gw_cell k3
      have d4 := gw_cell k4
      have d5 := gw_cell k5
      have d6 := gw_cell k6
      have d7 := gw_cell k7
      have d8 := gw_cell k8
      have d9 := gw_cell k9
      clear k0 k1 k2 k3 k4 k5 k6 k7 k8 k9
      have x0 := gw_cell C30.out
      have x1 := gw_cell C31.out
      have hL3 := L3.out
      refine region_grown (by kernel_rfl) (by kernel_rfl) ?_
      repeat (go_big_quiet_step ((go_at_call 14; exact in_grown (HK.out _ (hL3.gw _)))))
      refine wpQuiet_nil (grown_end ?_)
      intro w4 hg4
      clear d0 d1 d2 d3 d4 d5 d6 d7 d8 d9
      have G4 := Lib.hid (gtrans HG.out hg4)
      have y0 := gw_cell (gsome hg4 C30.out)
      have y1 := gw_cell (gsome hg4 C31.out)
      have C40 := Lib.hid (gsome hg4 C30.out)
      have C41 := Lib.hid (gsome hg4 C31.out)
      clear x0 x1 hL3 hg4
      go_wp2_with fail
      refine region_grown (by kernel_rfl) (by kernel_rfl) ?_
      repeat (go_big_quiet_step (fail))
      refine wpQuiet_nil (grown_end ?_)
      intro w5 hg5
      have G5 := Lib.hid (gtrans G4.out hg5)
      have c5 := gsome hg5 C40.out
      have c6 := gsome hg5 C41.out
      clear y0 y1 hg5
      go_wp2_with fail
      go_roundw
      case rel => exact ⟨1, by omega, rfl, rfl, G5.out⟩
      case measure => simp [intOf]
    · go_wp2_with fail
      obtain ⟨k0, k1, k2, k3, k4, k5, k6, k7, k8, k9⟩ := HN.out.later G3.out
      have d0 := gw_cell k0
      have d1 := gw_cell k1
      have d2 := gw_cell k2
      have d3 := gw_cell k3
      have d4 := gw_cell k4
      have d5 := gw_cell k5
      have d6 := gw_cell k6
      have d7 := gw_cell k7
      have d8 := gw_cell k8
      have d9 := gw_cell k9
      clear k0 k1 k2 k3 k4 k5 k6 k7 k8 k9
      have x0 := gw_cell C30.out
      have x1 := gw_cell C31.out
      have hL3 := L3.out
      refine region_grown (by kernel_rfl) (by kernel_rfl) ?_
      repeat (go_big_quiet_step ((go_at_call 14; exact in_grown (HO.out _ (hL3.gw _)))))
      refine wpQuiet_nil (grown_end ?_)
      intro w4 hg4
      clear d0 d1 d2 d3 d4 d5 d6 d7 d8 d9
      have G4 := Lib.hid (gtrans HG.out hg4)
      have y0 := gw_cell (gsome hg4 C30.out)
      have y1 := gw_cell (gsome hg4 C31.out)
      have C40 := Lib.hid (gsome hg4 C30.out)
      have C41 := Lib.hid (gsome hg4 C31.out)
      clear x0 x1 hL3 hg4
      go_wp2_with fail
      refine region_grown (by kernel_rfl) (by kernel_rfl) ?_
      repeat (go_big_quiet_step (fail))
      refine wpQuiet_nil (grown_end ?_)
      intro w5 hg5
      have G5 := Lib.hid (gtrans G4.out hg5)
      have c5 := gsome hg5 C40.out
      have c6 := gsome hg5 C41.out
      clear y0 y1 hg5
      go_wp2_with fail
      go_roundw
      case rel => exact ⟨2, by omega, rfl, rfl, G5.out⟩
      case measure => simp [intOf]
    · go_wp2_with fail
      refine (A.out _ L3.out).mono ?_
      rintro e w6 ⟨rfl, hg6⟩
      go_wp2_with fail
      go_ret
      exact ⟨rfl, gtrans HW.out (gtrans G3.out hg6)⟩

set_option maxHeartbeats 2000000 in
set_option maxRecDepth 100000 in
theorem walk_second (z : Zn) (t a x y : Int) (w : World) (hL : Laid w) (hlt : a < t)
    (K : ∀ W, Laid W → Calls Tryd.prog 14 #[.agg (zc z), .int .i64 t] W fun e w' => e = .returned (.tuple #[.int .i64 x, .int .i64 y, .int .i64 0]) ∧ Later W w')
    (O : ∀ W, Laid W → Calls Tryd.prog 14 #[.agg (zc z), .int .i64 a] W fun e w' => e = .returned (.tuple #[.int .i64 x, .int .i64 y, .int .i64 0]) ∧ Later W w')
    (I : ∀ W, Laid W → Calls Tryd.prog 18 #[.agg (zc z), .int .i64 x, .int .i64 y] W fun e w' => ∃ v, e = .returned (.tuple #[v, .int .i64 0]) ∧ Sl w' v [a, t] ∧ Later W w') : Calls Tryd.prog 6 #[.agg (zc z), .int .i64 t] w fun e w' => e = .returned (.bool true) ∧ Later w w' := by
  have HK := Lib.hid K
  have HO := Lib.hid O
  have HI := Lib.hid I
  have HN := Lib.hid (Zat.new w z)
  have HW := Lib.hid ((Later.refl w).alloc (zc z) 25)
  have HL := Lib.hid (hL.grown HW.out)
  have A := Lib.hid awake_any
  have e1 : (x != x) = false := by simp
  have e2 : (y != y) = false := by simp
  have e3 : (t == t) = true := by simp
  have e4 : (a == t) = false := by simp; omega
  clear hL K O I
  unfold zc at HL ⊢
  go_enter Tryd.func6, Tryd.ntmps6
  go_wp2_with fail
  refine (HK.out _ HL.out).mono ?_
  rintro e w1 ⟨rfl, hg1⟩
  have G1 : Hid (Later (w.alloc (.cells (zc z) 25)) w1) := Lib.hid hg1
  have L1 := Lib.hid (HL.out.grown hg1)
  clear hg1
  obtain ⟨k0, k1, k2, k3, k4, k5, k6, k7, k8, k9⟩ := HN.out.later G1.out
  go_wp2_with fail
  refine (HI.out _ L1.out).mono ?_
  rintro e w2 ⟨v, rfl, hv, hg2⟩
  obtain ⟨g, c, rfl, hc⟩ := hv.some
  have HC0 := Lib.hid (hc 0 _ rfl)
  have HC1 := Lib.hid (hc 1 _ rfl)
  clear hv hc
  have G2 := Lib.hid (gtrans G1.out hg2)
  have L2 := Lib.hid (L1.out.grown hg2)
  clear hg2
  clear k0 k1 k2 k3 k4 k5 k6 k7 k8 k9
  go_wp2_with fail
  go_loopw [10, 11] (fun x y wr => BRel w2 (fun i => decide (2 ≤ i)) 2 x y wr) (fun _ y _ => (2 - intOf y).toNat)
  case atStart => exact ⟨0, by omega, rfl, rfl, Later.refl w2⟩
  case round =>
    obtain ⟨i, hi, rfl, rfl, hg⟩ := hrel
    rename_i wr _
    have G3 := Lib.hid (gtrans G2.out hg)
    have L3 := Lib.hid (L2.out.grown hg)
    have C30 := Lib.hid (gsome hg HC0.out)
    have C31 := Lib.hid (gsome hg HC1.out)
    have HG := Lib.hid hg
    clear hg
    obtain rfl | rfl | rfl : i = 0 ∨ i = 1 ∨ i = 2 := by omega
    · go_wp2_with fail
      obtain ⟨k0, k1, k2, k3, k4, k5, k6, k7, k8, k9⟩ := HN.out.later G3.out
      have d0 := gw_cell k0
      have d1 := gw_cell k1
      have d2 := gw_cell k2
      have d3 := gw_cell k3
      have d4 := gw_cell k4
      have d5 := gw_cell k5
      have d6 := gw_cell k6
      have d7 := gw_cell k7
      have d8 := gw_cell k8
      have d9 := gw_cell k9
      clear k0 k1 k2 k3 k4 k5 k6 k7 k8 k9
      have x0 := gw_cell C30.out
      have x1 := gw_cell C31.out
      have hL3 := L3.out
      refine region_grown (by kernel_rfl) (by kernel_rfl) ?_
      repeat (go_big_quiet_step ((go_at_call 14; exact in_grown (HO.out _ (hL3.gw _)))))
      refine wpQuiet_nil (grown_end ?_)
      intro w4 hg4
      clear d0 d1 d2 d3 d4 d5 d6 d7 d8 d9
      have G4 := Lib.hid (gtrans HG.out hg4)
      have y0 := gw_cell (gsome hg4 C30.out)
      have y1 := gw_cell (gsome hg4 C31.out)
      have C40 := Lib.hid (gsome hg4 C30.out)
      have C41 := Lib.hid (gsome hg4 C31.out)
      clear x0 x1 hL3 hg4
      go_wp2_with fail
      refine region_grown (by kernel_rfl) (by kernel_rfl) ?_
      repeat (go_big_quiet_step (fail))
      refine wpQuiet_nil (grown_end ?_)
      intro w5 hg5
      have G5 := Lib.hid (gtrans G4.out hg5)
      have c5 := gsome hg5 C40.out
      have c6 := gsome hg5 C41.out
      clear y0 y1 hg5
      go_wp2_with fail
      go_roundw
      case rel => exact ⟨1, by omega, rfl, rfl, G5.out⟩
      case measure => simp [intOf]
    · go_wp2_with fail
      obtain ⟨k0, k1, k2, k3, k4, k5, k6, k7, k8, k9⟩ := HN.out.later G3.out
      have d0 := gw_cell k0
      have d1 := gw_cell k1
      have d2 := gw_cell k2
      have d3 := gw_cell k3
      have d4 := gw_cell k4
      have d5 := gw_cell k5
      have d6 := gw_cell k6
      have d7 := gw_cell k7
      have d8 := gw_cell k8
      have d9 := gw_cell k9
      clear k0 k1 k2 k3 k4 k5 k6 k7 k8 k9
      have x0 := gw_cell C30.out
      have x1 := gw_cell C31.out
      have hL3 := L3.out
      refine region_grown (by kernel_rfl) (by kernel_rfl) ?_
      repeat (go_big_quiet_step ((go_at_call 14; exact in_grown (HK.out _ (hL3.gw _)))))
      refine wpQuiet_nil (grown_end ?_)
      intro w4 hg4
      clear d0 d1 d2 d3 d4 d5 d6 d7 d8 d9
      have G4 := Lib.hid (gtrans HG.out hg4)
      have y0 := gw_cell (gsome hg4 C30.out)
      have y1 := gw_cell (gsome hg4 C31.out)
      have C40 := Lib.hid (gsome hg4 C30.out)
      have C41 := Lib.hid (gsome hg4 C31.out)
      clear x0 x1 hL3 hg4
      go_wp2_with fail
      refine region_grown (by kernel_rfl) (by kernel_rfl) ?_
      repeat (go_big_quiet_step (fail))
      refine wpQuiet_nil (grown_end ?_)
      intro w5 hg5
      have G5 := Lib.hid (gtrans G4.out hg5)
      have c5 := gsome hg5 C40.out
      have c6 := gsome hg5 C41.out
      clear y0 y1 hg5
      go_wp2_with fail
      go_roundw
      case rel => exact ⟨2, by omega, rfl, rfl, G5.out⟩
      case measure => simp [intOf]
    · go_wp2_with fail
      refine (A.out _ L3.out).mono ?_
      rintro e w6 ⟨rfl, hg6⟩
      go_wp2_with fail
      go_ret
      exact ⟨rfl, gtrans HW.out (gtrans G3.out hg6)⟩

/-- The instants that tell what is told at t: t itself, alone, or ahead of another one, or behind it; they tell the same. -/
theorem ins_back (z : Zn) (t : Int) (s0 : 0 ≤ z.s) : ins z (td z t) = [t] ∨ (∃ b, ins z (td z t) = [t, b] ∧ t < b ∧ td z b = td z t) ∨ ∃ a, ins z (td z t) = [a, t] ∧ a < t ∧ td z a = td z t := by
  rcases td_cases z t with ⟨h, e⟩ | ⟨h, e⟩
  · have hs : ¬ z.s = 0 := by
      intro h0
      rw [sm_zero z _ h0] at h
      exact absurd h (by simp)
    have e1 : td z t - z.b - z.s = t := by omega
    unfold ins
    rw [e1, h]
    cases q : sm z (td z t - z.b) with
    | true => exact .inl rfl
    | false =>
      refine .inr (.inl ⟨_, rfl, by omega, ?_⟩)
      rcases td_cases z (td z t - z.b) with ⟨h2, _⟩ | ⟨_, e2⟩
      · rw [q] at h2; exact absurd h2 (by simp)
      · omega
  · have e1 : td z t - z.b = t := by omega
    unfold ins
    rw [e1, h]
    cases q : sm z (t - z.s) with
    | false => exact .inl rfl
    | true =>
      have hs : ¬ z.s = 0 := by
        intro h0
        rw [sm_zero z _ h0] at q
        exact absurd q (by simp)
      refine .inr (.inr ⟨_, rfl, by omega, ?_⟩)
      rcases td_cases z (t - z.s) with ⟨_, e2⟩ | ⟨h2, _⟩
      · omega
      · rw [q] at h2; exact absurd h2 (by simp)

theorem local_at (z : Zn) (t n : Int) (hm : May z) (h0 : 576000 ≤ t) (h1 : t ≤ 5258879999) (hn : td z t = n) (w : World) (hL : Laid w) : Calls Tryd.prog 14 #[.agg (zc z), .int .i64 t] w fun e w' => e = .returned (.tuple #[.int .i64 (n / 1440), .int .i64 (n % 1440), .int .i64 0]) ∧ Later w w' := by
  have E := (sE_ok z t).2 ⟨hm, h0, h1⟩
  have K := local_any z t w hL
  rw [show lD z t = n / 1440 by unfold lD; rw [if_pos E, hn], show lM z t = n % 1440 by unfold lM; rw [if_pos E, hn], E] at K
  exact K

theorem walk (z : Zn) (t : Int) (hz : Zwf z) (ht : (Lit.int .i64 t).wf = true) (w : World) (hL : Laid w) : Calls Tryd.prog 6 #[.agg (zc z), .int .i64 t] w fun e w' => e = .returned (.bool true) ∧ Later w w' := by
  by_cases h : sE z t = 0
  · by_cases hi : iE z (td z t / 1440) (td z t % 1440) = 0
    · obtain ⟨hm, h0, h1⟩ := (sE_ok z t).1 h
      obtain ⟨_, d0, d1, m0, m1⟩ := (iE_ok _ _ _).1 hi
      obtain ⟨b0, b1, s0, s1, _⟩ := id hm
      have K := fun W hW => local_at z t (td z t) hm h0 h1 rfl W hW
      have I := fun W hW => instants_any z (td z t / 1440) (td z t % 1440) W hW
      have hl : iL z (td z t / 1440) (td z t % 1440) = ins z (td z t) := by
        unfold iL
        rw [if_pos hi, show td z t / 1440 * 1440 + td z t % 1440 = td z t by omega]
      rw [hl, hi] at I
      have far : ∀ b, td z b = td z t → 576000 ≤ b ∧ b ≤ 5258879999 := by
        intro b hb
        rcases td_cases z b with ⟨_, e⟩ | ⟨_, e⟩ <;> omega
      rcases ins_back z t s0 with hb | ⟨b, hb, hlt, e⟩ | ⟨a, hb, hlt, e⟩
      · rw [hb] at I
        exact walk_one z t _ _ w hL K I
      · rw [hb] at I
        exact walk_first z t b _ _ w hL hlt K (fun W hW => local_at z b (td z t) hm (far b e).1 (far b e).2 e W hW) I
      · rw [hb] at I
        exact walk_second z t a _ _ w hL hlt K (fun W hW => local_at z a (td z t) hm (far a e).1 (far a e).2 e W hW) I
    · exact walk_far z t w hL h hi
  · exact walk_no z t w hL h

set_option maxHeartbeats 1000000 in
set_option maxRecDepth 100000 in
theorem lifted (os : Os) (started : os.Started) (H : Type) (enc : TypeId × Value → H) :
    ReturnsInHanded {} Tryd.checked os 6 .any (fun w args => (Rows.zoneBackSpec.pre enc Tryd.prog Tryd.f6 [] false w args ∧ laidMetH Tryd.prog laidL w) ∧ sizedMet enc Tryd.prog Tryd.f6 (OpenSpec.ofChange Rows.zoneBackSpec) false w args)
      (Rows.zoneBackSpec.post enc Tryd.prog Tryd.f6 false true false false) := by
  refine returnsInHanded_of_change_and (C := Tryd.checked) (X := fun w _ => laidMetH Tryd.prog laidL w) (fun _ _ _ hh h => h.of_heap hh) own started (by kernel_rfl) Tryd.func6
    (ChangeSpec.witness_shaped (enc := enc) (C := Tryd.checked) (os := os) (X := fun w _ => laidMetH Tryd.prog laidL w) false (World.doorLaid Tryd.prog 400 os) #[.agg #[.int .i64 0, .int .i64 0, .int .i64 0, .int .i64 0, .int .i64 0, .int .i64 0, .int .i64 0, .int .i64 0, .int .i64 0, .int .i64 0], .int .i64 0] 8 rfl (World.shaped_of_RefB (by kernel_rfl) (by kernel_rfl)) (by kernel_rfl) (by kernel_rfl) (by kernel_rfl) (door_met os _)) ?_
  intro W base args ds gs before hval0 hW _ _ hL _
  have hval : ∀ (j : Nat) t v, Tryd.f6.params[j]? = some t → args[j]? = some v → Value.okWide Tryd.prog W .any base t v := hval0
  have hW' := hW
  obtain ⟨p, q, hA0, hV, rfl, hfz, hnd⟩ := hW
  have hA : DataW.TrodAll enc Tryd.prog W 0 (fun _ => true) true Tryd.f6.params.toList args.toList ds p := hA0
  rw [Tryd.params6] at hA hval
  obtain ⟨v0, vs0, d0, ds0, p0, q0, hargs, rfl, rfl, h0, r0⟩ := trodAll_cons hA
  obtain ⟨v1, vs1, d1, ds1, p1, q1, rfl, rfl, rfl, h1, r1⟩ := trodAll_cons r0
  obtain ⟨rfl, rfl, rfl⟩ := trodAll_nil r1
  obtain rfl : args = #[v0, v1] := by cases args; simp_all
  obtain ⟨rfl, rfl⟩ := trodVars_none hV
  obtain ⟨a0, rfl, rfl, rfl, w0⟩ := open_zone (hval 0 25 v0 rfl rfl) h0
  obtain ⟨a1, rfl, rfl, rfl, w1⟩ := open_int Tryd.underlying3 (hval 1 3 v1 rfl rfl) h1
  clear hA0 hval0
  simp only [List.append_nil] at hW'
  refine (walk a0 a1 w0 w1 W (of_laid hL)).mono fun e W' ⟨he, hg⟩ => ?_
  subst he
  exact ⟨_, rfl, post_bare hW' (fun _ _ _ => (trodAll_cons_mk (shut_bool Tryd.underlying4 _) trodAll_mk0)) (fun sp => (trodAll_cons_mk (shut_zone a0 w0) (trodAll_cons_mk (shut_int Tryd.underlying3 w1) trodAll_mk0))) (fun _ => rfl) hg
    (ok_one (by kernel_rfl) rfl (okWide_bool_mk Tryd.underlying4 _))⟩

theorem over : Rows.zoneBackRow.holds Tryd.pinned (OpenSpec.ofChange Rows.zoneBackSpec) :=
  OpenClaim.holds_of_wide 6 Tryd.f6 rfl rfl rfl rfl rfl rfl rfl ⟨rfl, rfl, rfl, rfl, rfl⟩ rfl rfl rfl rfl rfl (by kernel_rfl) Tryd.func6 (by kernel_rfl)
    (of_decide_eq_true (by kernel_rfl)) (by unfold Func.isWrapper; first | (rw [if_pos (by decide +kernel)]; kernel_rfl) | (rw [if_neg (by decide +kernel)]; exact ⟨rfl, rfl⟩))
    (fun os started H enc _ => lifted os started H enc)

/-- The statement. -/
theorem proved : Rows.ZoneBackCardSaid :=
  Claim7.holds_tied_plain_at .later [] [.data] true (true, "f5e48cc57892619de836986e666817daa5421fbb5699f7094e0e3d8dbc488e05") false
    over (fun _ h => by cases h) (by kernel_rfl) (fun _ h => by cases h) zoneBack_row_tie rfl ⟨rfl, rfl⟩ (by kernel_rfl) rfl
    (fun f fn hf hfn => by
      obtain rfl : f = 6 := Option.some.inj ((show Tryd.prog.funcNamed "newel/newellaw06.ZoneBack" = some 6 by kernel_rfl).symm.trans hf) |>.symm
      obtain rfl : fn = Tryd.f6 := (Option.some.inj (Tryd.func6.symm.trans hfn)).symm
      exact ⟨by kernel_rfl, fun j t ht => by
        rw [Tryd.params6] at ht
        have hm : t ∈ [25, 3] := by simpa using Array.mem_of_getElem? ht
        have hall : ([25, 3].all fun u => !Tryd.prog.wantsStandIn u) = true := by kernel_rfl
        exact (show Tryd.prog.wantsStandIn t = false by simpa using List.all_eq_true.1 hall t hm)⟩)
    (by kernel_rfl)
#print axioms proved
end Go.Proofs.YthmlaidmbcgmdaaDoor.zoneBack
