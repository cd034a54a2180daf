/-
  From minute to minute clocks go on by one, but where they are set: by Shift more, or less: for every zone and every int. Condition: the table of months starts as the program's text lays it.
-/
import Derived.Test.YthmlaidmbcgmdaaDoorLift
namespace Go.Proofs.YthmlaidmbcgmdaaDoor.zoneSteps
open Go.ChangeShapes Go.WideShapes Go.ChangeAt Go.RowKit Go.Joins
open Go.Proofs.YthmlaidmbcgmdaaDoor.Divs Go.Proofs.YthmlaidmbcgmdaaDoor.Grow Go.Proofs.YthmlaidmbcgmdaaDoor.Zo Go.Proofs.YthmlaidmbcgmdaaDoor.Zone
open Go.Proofs.YthmlaidmbcgmdaaDoor.Greg (Laid laidL own of_laid door_met Zwf zd open_zone shut_zone)
set_option linter.unusedVariables false

theorem walk_low (z : Zn) (t : Int) (w : World) (hL : Laid w) (h : t < 576000) : Calls Tryd.prog 7 #[.agg (zc z), .int .i64 t] w fun e w' => e = .returned (.bool true) ∧ Later w w' := by
  have HN := Lib.hid (Zat.new w z)
  have HW := Lib.hid ((Later.refl w).alloc (zc z) 25)
  have HL := Lib.hid (hL.grown HW.out)
  have A := Lib.hid awake_any
  clear hL
  unfold zc at HL ⊢
  go_enter Tryd.func7, Tryd.ntmps7
  go_wp2_with fail
  refine (A.out _ HL.out).mono ?_
  rintro e w1 ⟨rfl, hg1⟩
  go_wp2_with fail
  go_ret
  exact ⟨rfl, gtrans HW.out hg1⟩

theorem walk_high (z : Zn) (t : Int) (w : World) (hL : Laid w) (h0 : ¬ t < 576000) (h : 5258879999 ≤ t) : Calls Tryd.prog 7 #[.agg (zc z), .int .i64 t] w fun e w' => e = .returned (.bool true) ∧ Later w w' := by
  have HN := Lib.hid (Zat.new w z)
  have HW := Lib.hid ((Later.refl w).alloc (zc z) 25)
  have HL := Lib.hid (hL.grown HW.out)
  have A := Lib.hid awake_any
  clear hL
  unfold zc at HL ⊢
  go_enter Tryd.func7, Tryd.ntmps7
  go_wp2_with fail
  refine (A.out _ HL.out).mono ?_
  rintro e w1 ⟨rfl, hg1⟩
  go_wp2_with fail
  go_ret
  exact ⟨rfl, gtrans HW.out hg1⟩

theorem walk_zone (z : Zn) (t : Int) (w : World) (hL : Laid w) (h0 : ¬ t < 576000) (h1 : ¬ 5258879999 ≤ t) (h : ¬ ck z = 0) : Calls Tryd.prog 7 #[.agg (zc z), .int .i64 t] w fun e w' => e = .returned (.bool true) ∧ Later w w' := by
  have HN := Lib.hid (Zat.new w z)
  have HW := Lib.hid ((Later.refl w).alloc (zc z) 25)
  have HL := Lib.hid (hL.grown HW.out)
  have A := Lib.hid awake_any
  have C := Lib.hid (fun W => check_any z W)
  have e0 : (ck z != 0) = true := by simpa using h
  clear hL h
  unfold zc at HL ⊢
  go_enter Tryd.func7, Tryd.ntmps7
  go_wp2_with fail
  refine (C.out _).mono ?_
  rintro e w1 ⟨rfl, hg1⟩
  have G1 : Hid (Later (w.alloc (.cells (zc z) 25)) w1) := Lib.hid hg1
  have L1 := Lib.hid (HL.out.grown hg1)
  clear hg1
  go_wp2_with fail
  refine (A.out _ L1.out).mono ?_
  rintro e w2 ⟨rfl, hg2⟩
  go_wp2_with fail
  go_ret
  exact ⟨rfl, gtrans HW.out (gtrans G1.out hg2)⟩

/-- The steps, told by plain numbers. -/
theorem td_step (z : Zn) (t : Int) : (sm z t = true ∧ sm z (t + 1) = true ∧ td z (t + 1) = td z t + 1) ∨ (sm z t = false ∧ sm z (t + 1) = false ∧ td z (t + 1) = td z t + 1) ∨
    (sm z t = false ∧ sm z (t + 1) = true ∧ td z (t + 1) = td z t + 1 + z.s) ∨ (sm z t = true ∧ sm z (t + 1) = false ∧ td z (t + 1) = td z t + 1 - z.s) := by
  rcases td_cases z t with ⟨a, b⟩ | ⟨a, b⟩ <;> rcases td_cases z (t + 1) with ⟨c, d⟩ | ⟨c, d⟩
  · exact .inl ⟨a, c, by omega⟩
  · exact .inr (.inr (.inr ⟨a, c, by omega⟩))
  · exact .inr (.inr (.inl ⟨a, c, by omega⟩))
  · exact .inr (.inl ⟨a, c, by omega⟩)

set_option maxHeartbeats 1000000 in
theorem walk_yes (z : Zn) (t : Int) (w : World) (hL : Laid w) (h0 : ¬ t < 576000) (h1 : ¬ 5258879999 ≤ t) (h : ck z = 0) : Calls Tryd.prog 7 #[.agg (zc z), .int .i64 t] w fun e w' => e = .returned (.bool true) ∧ Later w w' := by
  have hm := (ck_may z).1 h
  have E1 := (sE_ok z t).2 ⟨hm, by omega, by omega⟩
  have E2 := (sE_ok z (t + 1)).2 ⟨hm, by omega, by omega⟩
  have C := fun W => check_any z W
  rw [h] at C
  have HC := Lib.hid C
  have K1 := fun W hW => local_any z t W hW
  have K2 := fun W hW => local_any z (t + 1) W hW
  have S1 := fun W hW => summer_any z t W hW
  have S2 := fun W hW => summer_any z (t + 1) W hW
  rw [show lD z t = td z t / 1440 by unfold lD; rw [if_pos E1], show lM z t = td z t % 1440 by unfold lM; rw [if_pos E1], E1] at K1
  rw [show lD z (t + 1) = td z (t + 1) / 1440 by unfold lD; rw [if_pos E2], show lM z (t + 1) = td z (t + 1) % 1440 by unfold lM; rw [if_pos E2], E2] at K2
  rw [show sV z t = sm z t by unfold sV; rw [if_pos E1], E1] at S1
  rw [show sV z (t + 1) = sm z (t + 1) by unfold sV; rw [if_pos E2], E2] at S2
  obtain ⟨b0, b1, s0, s1, _⟩ := hm
  have n0 : 0 ≤ td z t ∧ td z t ≤ 6000000000 := by rcases td_cases z t with ⟨_, e⟩ | ⟨_, e⟩ <;> omega
  have n1 : 0 ≤ td z (t + 1) ∧ td z (t + 1) ≤ 6000000000 := by rcases td_cases z (t + 1) with ⟨_, e⟩ | ⟨_, e⟩ <;> omega
  have hst := td_step z t
  have HN := Lib.hid (Zat.new w z)
  have HW := Lib.hid ((Later.refl w).alloc (zc z) 25)
  have HL := Lib.hid (hL.grown HW.out)
  have A := Lib.hid awake_any
  clear hL h C E1 E2
  generalize td z t = x at *
  generalize td z (t + 1) = y at *
  obtain ⟨x0, x1⟩ := n0
  obtain ⟨y0, y1⟩ := n1
  have hx : x = x / 1440 * 1440 + x % 1440 ∧ 0 ≤ x / 1440 ∧ x / 1440 ≤ 5000000 ∧ 0 ≤ x % 1440 ∧ x % 1440 ≤ 1439 := by omega
  have hy : y = y / 1440 * 1440 + y % 1440 ∧ 0 ≤ y / 1440 ∧ y / 1440 ≤ 5000000 ∧ 0 ≤ y % 1440 ∧ y % 1440 ≤ 1439 := by omega
  generalize x / 1440 = a at *
  generalize x % 1440 = b at *
  generalize y / 1440 = c at *
  generalize y % 1440 = d at *
  obtain ⟨hx, a0, a1, c0, c1⟩ := hx
  obtain ⟨hy, d0, d1, f0, f1⟩ := hy
  have hst' : ∃ o : Int, (c - a) * 1440 + d - b = o ∧ ((sm z t = true ∧ sm z (t + 1) = true ∧ o = 1) ∨ (sm z t = false ∧ sm z (t + 1) = false ∧ o = 1) ∨ (sm z t = false ∧ sm z (t + 1) = true ∧ o = 1 + z.s) ∨ (sm z t = true ∧ sm z (t + 1) = false ∧ o = 1 - z.s)) := by
    refine ⟨_, rfl, ?_⟩
    rcases hst with ⟨p, q, r⟩ | ⟨p, q, r⟩ | ⟨p, q, r⟩ | ⟨p, q, r⟩
    · exact .inl ⟨p, q, by omega⟩
    · exact .inr (.inl ⟨p, q, by omega⟩)
    · exact .inr (.inr (.inl ⟨p, q, by omega⟩))
    · exact .inr (.inr (.inr ⟨p, q, by omega⟩))
  obtain ⟨o, ho, hst⟩ := hst'
  clear hx hy x0 x1 y0 y1
  rcases hst with ⟨p, q, rfl⟩ | ⟨p, q, rfl⟩ | ⟨p, q, rfl⟩ | ⟨p, q, rfl⟩
  · have e1 : ((c - a) * 1440 + d - b == 1) = true := by rw [ho]; simp
    rw [p] at S1
    rw [q] at S2
    have HK1 := Lib.hid K1
    have HK2 := Lib.hid K2
    have HS1 := Lib.hid S1
    have HS2 := Lib.hid S2
    clear p q S1 S2 K1 K2 ho
    unfold zc at HL ⊢
    go_enter Tryd.func7, Tryd.ntmps7
    go_wp2_with fail
    refine (HC.out _).mono ?_
    rintro e w1 ⟨rfl, hg1⟩
    have G1 : Hid (Later (w.alloc (.cells (zc z) 25)) w1) := Lib.hid hg1
    have L1 := Lib.hid (HL.out.grown hg1)
    clear hg1
    obtain ⟨k0, k1, k2, k3, k4, k5, k6, k7, k8, k9⟩ := HN.out.later G1.out
    go_wp2_with fail
    refine (HK1.out _ L1.out).mono ?_
    rintro e w2 ⟨rfl, hg2⟩
    have G2 := Lib.hid (gtrans G1.out hg2)
    have L2 := Lib.hid (L1.out.grown hg2)
    clear hg2
    clear k0 k1 k2 k3 k4 k5 k6 k7 k8 k9
    obtain ⟨k0, k1, k2, k3, k4, k5, k6, k7, k8, k9⟩ := HN.out.later G2.out
    go_wp2_with fail
    refine (HK2.out _ L2.out).mono ?_
    rintro e w3 ⟨rfl, hg3⟩
    have G3 := Lib.hid (gtrans G2.out hg3)
    have L3 := Lib.hid (L2.out.grown hg3)
    clear hg3
    clear k0 k1 k2 k3 k4 k5 k6 k7 k8 k9
    obtain ⟨k0, k1, k2, k3, k4, k5, k6, k7, k8, k9⟩ := HN.out.later G3.out
    go_wp2_with fail
    refine (HS1.out _ L3.out).mono ?_
    rintro e w4 ⟨rfl, hg4⟩
    have G4 := Lib.hid (gtrans G3.out hg4)
    have L4 := Lib.hid (L3.out.grown hg4)
    clear hg4
    clear k0 k1 k2 k3 k4 k5 k6 k7 k8 k9
    obtain ⟨k0, k1, k2, k3, k4, k5, k6, k7, k8, k9⟩ := HN.out.later G4.out
    go_wp2_with fail
    refine (HS2.out _ L4.out).mono ?_
    rintro e w5 ⟨rfl, hg5⟩
    have G5 := Lib.hid (gtrans G4.out hg5)
    have L5 := Lib.hid (L4.out.grown hg5)
    clear hg5
    clear k0 k1 k2 k3 k4 k5 k6 k7 k8 k9
    obtain ⟨k0, k1, k2, k3, k4, k5, k6, k7, k8, k9⟩ := HN.out.later G5.out
    go_wp2_with fail
    refine (A.out _ L5.out).mono ?_
    rintro e w6 ⟨rfl, hg6⟩
    have G6 := Lib.hid (gtrans G5.out hg6)
    have L6 := Lib.hid (L5.out.grown hg6)
    clear hg6
    clear k0 k1 k2 k3 k4 k5 k6 k7 k8 k9
    obtain ⟨k0, k1, k2, k3, k4, k5, k6, k7, k8, k9⟩ := HN.out.later G6.out
    go_wp2_with fail
    go_ret
    exact ⟨rfl, gtrans HW.out G6.out⟩
  · have e1 : ((c - a) * 1440 + d - b == 1) = true := by rw [ho]; simp
    rw [p] at S1
    rw [q] at S2
    have HK1 := Lib.hid K1
    have HK2 := Lib.hid K2
    have HS1 := Lib.hid S1
    have HS2 := Lib.hid S2
    clear p q S1 S2 K1 K2 ho
    unfold zc at HL ⊢
    go_enter Tryd.func7, Tryd.ntmps7
    go_wp2_with fail
    refine (HC.out _).mono ?_
    rintro e w1 ⟨rfl, hg1⟩
    have G1 : Hid (Later (w.alloc (.cells (zc z) 25)) w1) := Lib.hid hg1
    have L1 := Lib.hid (HL.out.grown hg1)
    clear hg1
    obtain ⟨k0, k1, k2, k3, k4, k5, k6, k7, k8, k9⟩ := HN.out.later G1.out
    go_wp2_with fail
    refine (HK1.out _ L1.out).mono ?_
    rintro e w2 ⟨rfl, hg2⟩
    have G2 := Lib.hid (gtrans G1.out hg2)
    have L2 := Lib.hid (L1.out.grown hg2)
    clear hg2
    clear k0 k1 k2 k3 k4 k5 k6 k7 k8 k9
    obtain ⟨k0, k1, k2, k3, k4, k5, k6, k7, k8, k9⟩ := HN.out.later G2.out
    go_wp2_with fail
    refine (HK2.out _ L2.out).mono ?_
    rintro e w3 ⟨rfl, hg3⟩
    have G3 := Lib.hid (gtrans G2.out hg3)
    have L3 := Lib.hid (L2.out.grown hg3)
    clear hg3
    clear k0 k1 k2 k3 k4 k5 k6 k7 k8 k9
    obtain ⟨k0, k1, k2, k3, k4, k5, k6, k7, k8, k9⟩ := HN.out.later G3.out
    go_wp2_with fail
    refine (HS1.out _ L3.out).mono ?_
    rintro e w4 ⟨rfl, hg4⟩
    have G4 := Lib.hid (gtrans G3.out hg4)
    have L4 := Lib.hid (L3.out.grown hg4)
    clear hg4
    clear k0 k1 k2 k3 k4 k5 k6 k7 k8 k9
    obtain ⟨k0, k1, k2, k3, k4, k5, k6, k7, k8, k9⟩ := HN.out.later G4.out
    go_wp2_with fail
    refine (HS2.out _ L4.out).mono ?_
    rintro e w5 ⟨rfl, hg5⟩
    have G5 := Lib.hid (gtrans G4.out hg5)
    have L5 := Lib.hid (L4.out.grown hg5)
    clear hg5
    clear k0 k1 k2 k3 k4 k5 k6 k7 k8 k9
    obtain ⟨k0, k1, k2, k3, k4, k5, k6, k7, k8, k9⟩ := HN.out.later G5.out
    go_wp2_with fail
    refine (A.out _ L5.out).mono ?_
    rintro e w6 ⟨rfl, hg6⟩
    have G6 := Lib.hid (gtrans G5.out hg6)
    have L6 := Lib.hid (L5.out.grown hg6)
    clear hg6
    clear k0 k1 k2 k3 k4 k5 k6 k7 k8 k9
    obtain ⟨k0, k1, k2, k3, k4, k5, k6, k7, k8, k9⟩ := HN.out.later G6.out
    go_wp2_with fail
    go_ret
    exact ⟨rfl, gtrans HW.out G6.out⟩
  · have e1 : ((c - a) * 1440 + d - b == 1 + z.s) = true := by rw [ho]; simp
    rw [p] at S1
    rw [q] at S2
    have HK1 := Lib.hid K1
    have HK2 := Lib.hid K2
    have HS1 := Lib.hid S1
    have HS2 := Lib.hid S2
    clear p q S1 S2 K1 K2 ho
    unfold zc at HL ⊢
    go_enter Tryd.func7, Tryd.ntmps7
    go_wp2_with fail
    refine (HC.out _).mono ?_
    rintro e w1 ⟨rfl, hg1⟩
    have G1 : Hid (Later (w.alloc (.cells (zc z) 25)) w1) := Lib.hid hg1
    have L1 := Lib.hid (HL.out.grown hg1)
    clear hg1
    obtain ⟨k0, k1, k2, k3, k4, k5, k6, k7, k8, k9⟩ := HN.out.later G1.out
    go_wp2_with fail
    refine (HK1.out _ L1.out).mono ?_
    rintro e w2 ⟨rfl, hg2⟩
    have G2 := Lib.hid (gtrans G1.out hg2)
    have L2 := Lib.hid (L1.out.grown hg2)
    clear hg2
    clear k0 k1 k2 k3 k4 k5 k6 k7 k8 k9
    obtain ⟨k0, k1, k2, k3, k4, k5, k6, k7, k8, k9⟩ := HN.out.later G2.out
    go_wp2_with fail
    refine (HK2.out _ L2.out).mono ?_
    rintro e w3 ⟨rfl, hg3⟩
    have G3 := Lib.hid (gtrans G2.out hg3)
    have L3 := Lib.hid (L2.out.grown hg3)
    clear hg3
    clear k0 k1 k2 k3 k4 k5 k6 k7 k8 k9
    obtain ⟨k0, k1, k2, k3, k4, k5, k6, k7, k8, k9⟩ := HN.out.later G3.out
    go_wp2_with fail
    refine (HS1.out _ L3.out).mono ?_
    rintro e w4 ⟨rfl, hg4⟩
    have G4 := Lib.hid (gtrans G3.out hg4)
    have L4 := Lib.hid (L3.out.grown hg4)
    clear hg4
    clear k0 k1 k2 k3 k4 k5 k6 k7 k8 k9
    obtain ⟨k0, k1, k2, k3, k4, k5, k6, k7, k8, k9⟩ := HN.out.later G4.out
    go_wp2_with fail
    refine (HS2.out _ L4.out).mono ?_
    rintro e w5 ⟨rfl, hg5⟩
    have G5 := Lib.hid (gtrans G4.out hg5)
    have L5 := Lib.hid (L4.out.grown hg5)
    clear hg5
    clear k0 k1 k2 k3 k4 k5 k6 k7 k8 k9
    obtain ⟨k0, k1, k2, k3, k4, k5, k6, k7, k8, k9⟩ := HN.out.later G5.out
    go_wp2_with fail
    refine (A.out _ L5.out).mono ?_
    rintro e w6 ⟨rfl, hg6⟩
    have G6 := Lib.hid (gtrans G5.out hg6)
    have L6 := Lib.hid (L5.out.grown hg6)
    clear hg6
    clear k0 k1 k2 k3 k4 k5 k6 k7 k8 k9
    obtain ⟨k0, k1, k2, k3, k4, k5, k6, k7, k8, k9⟩ := HN.out.later G6.out
    go_wp2_with fail
    go_ret
    exact ⟨rfl, gtrans HW.out G6.out⟩
  · have e1 : ((c - a) * 1440 + d - b == 1 - z.s) = true := by rw [ho]; simp
    rw [p] at S1
    rw [q] at S2
    have HK1 := Lib.hid K1
    have HK2 := Lib.hid K2
    have HS1 := Lib.hid S1
    have HS2 := Lib.hid S2
    clear p q S1 S2 K1 K2 ho
    unfold zc at HL ⊢
    go_enter Tryd.func7, Tryd.ntmps7
    go_wp2_with fail
    refine (HC.out _).mono ?_
    rintro e w1 ⟨rfl, hg1⟩
    have G1 : Hid (Later (w.alloc (.cells (zc z) 25)) w1) := Lib.hid hg1
    have L1 := Lib.hid (HL.out.grown hg1)
    clear hg1
    obtain ⟨k0, k1, k2, k3, k4, k5, k6, k7, k8, k9⟩ := HN.out.later G1.out
    go_wp2_with fail
    refine (HK1.out _ L1.out).mono ?_
    rintro e w2 ⟨rfl, hg2⟩
    have G2 := Lib.hid (gtrans G1.out hg2)
    have L2 := Lib.hid (L1.out.grown hg2)
    clear hg2
    clear k0 k1 k2 k3 k4 k5 k6 k7 k8 k9
    obtain ⟨k0, k1, k2, k3, k4, k5, k6, k7, k8, k9⟩ := HN.out.later G2.out
    go_wp2_with fail
    refine (HK2.out _ L2.out).mono ?_
    rintro e w3 ⟨rfl, hg3⟩
    have G3 := Lib.hid (gtrans G2.out hg3)
    have L3 := Lib.hid (L2.out.grown hg3)
    clear hg3
    clear k0 k1 k2 k3 k4 k5 k6 k7 k8 k9
    obtain ⟨k0, k1, k2, k3, k4, k5, k6, k7, k8, k9⟩ := HN.out.later G3.out
    go_wp2_with fail
    refine (HS1.out _ L3.out).mono ?_
    rintro e w4 ⟨rfl, hg4⟩
    have G4 := Lib.hid (gtrans G3.out hg4)
    have L4 := Lib.hid (L3.out.grown hg4)
    clear hg4
    clear k0 k1 k2 k3 k4 k5 k6 k7 k8 k9
    obtain ⟨k0, k1, k2, k3, k4, k5, k6, k7, k8, k9⟩ := HN.out.later G4.out
    go_wp2_with fail
    refine (HS2.out _ L4.out).mono ?_
    rintro e w5 ⟨rfl, hg5⟩
    have G5 := Lib.hid (gtrans G4.out hg5)
    have L5 := Lib.hid (L4.out.grown hg5)
    clear hg5
    clear k0 k1 k2 k3 k4 k5 k6 k7 k8 k9
    obtain ⟨k0, k1, k2, k3, k4, k5, k6, k7, k8, k9⟩ := HN.out.later G5.out
    go_wp2_with fail
    refine (A.out _ L5.out).mono ?_
    rintro e w6 ⟨rfl, hg6⟩
    have G6 := Lib.hid (gtrans G5.out hg6)
    have L6 := Lib.hid (L5.out.grown hg6)
    clear hg6
    clear k0 k1 k2 k3 k4 k5 k6 k7 k8 k9
    obtain ⟨k0, k1, k2, k3, k4, k5, k6, k7, k8, k9⟩ := HN.out.later G6.out
    go_wp2_with fail
    go_ret
    exact ⟨rfl, gtrans HW.out G6.out⟩

theorem walk (z : Zn) (t : Int) (hz : Zwf z) (ht : (Lit.int .i64 t).wf = true) (w : World) (hL : Laid w) : Calls Tryd.prog 7 #[.agg (zc z), .int .i64 t] w fun e w' => e = .returned (.bool true) ∧ Later w w' := by
  by_cases h0 : t < 576000
  · exact walk_low z t w hL h0
  by_cases h1 : 5258879999 ≤ t
  · exact walk_high z t w hL h0 h1
  by_cases h : ck z = 0
  · exact walk_yes z t w hL h0 h1 h
  · exact walk_zone z t w hL h0 h1 h

set_option maxHeartbeats 1000000 in
set_option maxRecDepth 100000 in
theorem lifted (os : Os) (started : os.Started) (H : Type) (enc : TypeId × Value → H) :
    ReturnsInHanded {} Tryd.checked os 7 .any (fun w args => (Rows.zoneStepsSpec.pre enc Tryd.prog Tryd.f7 [] false w args ∧ laidMetH Tryd.prog laidL w) ∧ sizedMet enc Tryd.prog Tryd.f7 (OpenSpec.ofChange Rows.zoneStepsSpec) false w args)
      (Rows.zoneStepsSpec.post enc Tryd.prog Tryd.f7 false true false false) := by
  refine returnsInHanded_of_change_and (C := Tryd.checked) (X := fun w _ => laidMetH Tryd.prog laidL w) (fun _ _ _ hh h => h.of_heap hh) own started (by kernel_rfl) Tryd.func7
    (ChangeSpec.witness_shaped (enc := enc) (C := Tryd.checked) (os := os) (X := fun w _ => laidMetH Tryd.prog laidL w) false (World.doorLaid Tryd.prog 400 os) #[.agg #[.int .i64 0, .int .i64 0, .int .i64 0, .int .i64 0, .int .i64 0, .int .i64 0, .int .i64 0, .int .i64 0, .int .i64 0, .int .i64 0], .int .i64 0] 8 rfl (World.shaped_of_RefB (by kernel_rfl) (by kernel_rfl)) (by kernel_rfl) (by kernel_rfl) (by kernel_rfl) (door_met os _)) ?_
  intro W base args ds gs before hval0 hW _ _ hL _
  have hval : ∀ (j : Nat) t v, Tryd.f7.params[j]? = some t → args[j]? = some v → Value.okWide Tryd.prog W .any base t v := hval0
  have hW' := hW
  obtain ⟨p, q, hA0, hV, rfl, hfz, hnd⟩ := hW
  have hA : DataW.TrodAll enc Tryd.prog W 0 (fun _ => true) true Tryd.f7.params.toList args.toList ds p := hA0
  rw [Tryd.params7] at hA hval
  obtain ⟨v0, vs0, d0, ds0, p0, q0, hargs, rfl, rfl, h0, r0⟩ := trodAll_cons hA
  obtain ⟨v1, vs1, d1, ds1, p1, q1, rfl, rfl, rfl, h1, r1⟩ := trodAll_cons r0
  obtain ⟨rfl, rfl, rfl⟩ := trodAll_nil r1
  obtain rfl : args = #[v0, v1] := by cases args; simp_all
  obtain ⟨rfl, rfl⟩ := trodVars_none hV
  obtain ⟨a0, rfl, rfl, rfl, w0⟩ := open_zone (hval 0 25 v0 rfl rfl) h0
  obtain ⟨a1, rfl, rfl, rfl, w1⟩ := open_int Tryd.underlying3 (hval 1 3 v1 rfl rfl) h1
  clear hA0 hval0
  simp only [List.append_nil] at hW'
  refine (walk a0 a1 w0 w1 W (of_laid hL)).mono fun e W' ⟨he, hg⟩ => ?_
  subst he
  exact ⟨_, rfl, post_bare hW' (fun _ _ _ => (trodAll_cons_mk (shut_bool Tryd.underlying4 _) trodAll_mk0)) (fun sp => (trodAll_cons_mk (shut_zone a0 w0) (trodAll_cons_mk (shut_int Tryd.underlying3 w1) trodAll_mk0))) (fun _ => rfl) hg
    (ok_one (by kernel_rfl) rfl (okWide_bool_mk Tryd.underlying4 _))⟩

theorem over : Rows.zoneStepsRow.holds Tryd.pinned (OpenSpec.ofChange Rows.zoneStepsSpec) :=
  OpenClaim.holds_of_wide 7 Tryd.f7 rfl rfl rfl rfl rfl rfl rfl ⟨rfl, rfl, rfl, rfl, rfl⟩ rfl rfl rfl rfl rfl (by kernel_rfl) Tryd.func7 (by kernel_rfl)
    (of_decide_eq_true (by kernel_rfl)) (by unfold Func.isWrapper; first | (rw [if_pos (by decide +kernel)]; kernel_rfl) | (rw [if_neg (by decide +kernel)]; exact ⟨rfl, rfl⟩))
    (fun os started H enc _ => lifted os started H enc)

/-- The statement. -/
theorem proved : Rows.ZoneStepsCardSaid :=
  Claim7.holds_tied_plain_at .later [] [.data] true (true, "f5e48cc57892619de836986e666817daa5421fbb5699f7094e0e3d8dbc488e05") false
    over (fun _ h => by cases h) (by kernel_rfl) (fun _ h => by cases h) zoneSteps_row_tie rfl ⟨rfl, rfl⟩ (by kernel_rfl) rfl
    (fun f fn hf hfn => by
      obtain rfl : f = 7 := Option.some.inj ((show Tryd.prog.funcNamed "newel/newellaw06.ZoneSteps" = some 7 by kernel_rfl).symm.trans hf) |>.symm
      obtain rfl : fn = Tryd.f7 := (Option.some.inj (Tryd.func7.symm.trans hfn)).symm
      exact ⟨by kernel_rfl, fun j t ht => by
        rw [Tryd.params7] at ht
        have hm : t ∈ [25, 3] := by simpa using Array.mem_of_getElem? ht
        have hall : ([25, 3].all fun u => !Tryd.prog.wantsStandIn u) = true := by kernel_rfl
        exact (show Tryd.prog.wantsStandIn t = false by simpa using List.all_eq_true.1 hall t hm)⟩)
    (by kernel_rfl)
#print axioms proved
end Go.Proofs.YthmlaidmbcgmdaaDoor.zoneSteps
