/-
  At a turn clocks are set, and not a minute ahead: for every zone and every int (of the years 3 to 9990). Condition: the table of months starts as the program's text lays it.
-/
import Derived.Test.YthmlaidmbcgmdaaDoorLift
namespace Go.Proofs.YthmlaidmbcgmdaaDoor.zoneTurns
open Go.ChangeShapes Go.WideShapes Go.ChangeAt Go.RowKit Go.Joins
open Go.Proofs.YthmlaidmbcgmdaaDoor.Divs Go.Proofs.YthmlaidmbcgmdaaDoor.Grow Go.Proofs.YthmlaidmbcgmdaaDoor.Zo Go.Proofs.YthmlaidmbcgmdaaDoor.Zone
open Go.Proofs.YthmlaidmbcgmdaaDoor.Greg (Laid laidL own of_laid door_met Zwf zd open_zone shut_zone)
open Go.Proofs.YthmlaidmbcgmdaaDoor.Greg (nthV nthE)
open Go.Proofs.YthmlaidmbcgmdaaDoor.Cal (ya)
set_option linter.unusedVariables false

set_option maxRecDepth 100000 in
set_option maxHeartbeats 1000000 in
theorem walk_zone (z : Zn) (y : Int) (w : World) (hL : Laid w) (h : ¬ ck z = 0) : Calls Tryd.prog 9 #[.agg (zc z), .int .i64 y] w fun e w' => e = .returned (.bool true) ∧ Later w w' := by
  have HN := Lib.hid (Zat.new w z)
  have HW := Lib.hid ((Later.refl w).alloc (zc z) 25)
  have HL := Lib.hid (hL.grown HW.out)
  have A := Lib.hid awake_any
  have C := Lib.hid (fun W => check_any z W)
  have e0 : (ck z != 0) = true := by simpa using h
  clear hL h
  unfold zc at HL ⊢
  go_enter Tryd.func9, Tryd.ntmps9
  go_wp2_with fail
  refine (C.out _).mono ?_
  rintro e w1 ⟨rfl, hg1⟩
  have G1 : Hid (Later (w.alloc (.cells (zc z) 25)) w1) := Lib.hid hg1
  have L1 := Lib.hid (HL.out.grown hg1)
  clear hg1
  go_wp2_with fail
  refine (A.out _ L1.out).mono ?_
  rintro e w2 ⟨rfl, hg2⟩
  go_wp2_with fail
  go_ret
  exact ⟨rfl, gtrans HW.out (gtrans G1.out hg2)⟩

set_option maxRecDepth 100000 in
set_option maxHeartbeats 1000000 in
theorem walk_still (z : Zn) (y : Int) (w : World) (hL : Laid w) (h : ck z = 0) (hs : z.s = 0) : Calls Tryd.prog 9 #[.agg (zc z), .int .i64 y] w fun e w' => e = .returned (.bool true) ∧ Later w w' := by
  have HN := Lib.hid (Zat.new w z)
  have HW := Lib.hid ((Later.refl w).alloc (zc z) 25)
  have HL := Lib.hid (hL.grown HW.out)
  have A := Lib.hid awake_any
  have C := fun W => check_any z W
  rw [h] at C
  have HC := Lib.hid C
  have e0 : (z.s == 0) = true := by simpa using hs
  clear hL h C hs
  unfold zc at HL ⊢
  go_enter Tryd.func9, Tryd.ntmps9
  go_wp2_with fail
  refine (HC.out _).mono ?_
  rintro e w1 ⟨rfl, hg1⟩
  have G1 : Hid (Later (w.alloc (.cells (zc z) 25)) w1) := Lib.hid hg1
  have L1 := Lib.hid (HL.out.grown hg1)
  clear hg1
  obtain ⟨k0, k1, k2, k3, k4, k5, k6, k7, k8, k9⟩ := HN.out.later G1.out
  go_wp2_with fail
  refine (A.out _ L1.out).mono ?_
  rintro e w2 ⟨rfl, hg2⟩
  go_wp2_with fail
  go_ret
  exact ⟨rfl, gtrans HW.out (gtrans G1.out hg2)⟩

set_option maxRecDepth 100000 in
set_option maxHeartbeats 1000000 in
theorem walk_low (z : Zn) (y : Int) (w : World) (hL : Laid w) (h : ck z = 0) (hs : ¬ z.s = 0) (hy : y < 3) : Calls Tryd.prog 9 #[.agg (zc z), .int .i64 y] w fun e w' => e = .returned (.bool true) ∧ Later w w' := by
  have HN := Lib.hid (Zat.new w z)
  have HW := Lib.hid ((Later.refl w).alloc (zc z) 25)
  have HL := Lib.hid (hL.grown HW.out)
  have A := Lib.hid awake_any
  have C := fun W => check_any z W
  rw [h] at C
  have HC := Lib.hid C
  have e0 : (z.s == 0) = false := by simpa using hs
  clear hL h C hs
  unfold zc at HL ⊢
  go_enter Tryd.func9, Tryd.ntmps9
  go_wp2_with fail
  refine (HC.out _).mono ?_
  rintro e w1 ⟨rfl, hg1⟩
  have G1 : Hid (Later (w.alloc (.cells (zc z) 25)) w1) := Lib.hid hg1
  have L1 := Lib.hid (HL.out.grown hg1)
  clear hg1
  obtain ⟨k0, k1, k2, k3, k4, k5, k6, k7, k8, k9⟩ := HN.out.later G1.out
  go_wp2_with fail
  refine (A.out _ L1.out).mono ?_
  rintro e w2 ⟨rfl, hg2⟩
  go_wp2_with fail
  go_ret
  exact ⟨rfl, gtrans HW.out (gtrans G1.out hg2)⟩

set_option maxRecDepth 100000 in
set_option maxHeartbeats 1000000 in
theorem walk_high (z : Zn) (y : Int) (w : World) (hL : Laid w) (h : ck z = 0) (hs : ¬ z.s = 0) (hy : ¬ y < 3) (hy2 : 9990 < y) : Calls Tryd.prog 9 #[.agg (zc z), .int .i64 y] w fun e w' => e = .returned (.bool true) ∧ Later w w' := by
  have HN := Lib.hid (Zat.new w z)
  have HW := Lib.hid ((Later.refl w).alloc (zc z) 25)
  have HL := Lib.hid (hL.grown HW.out)
  have A := Lib.hid awake_any
  have C := fun W => check_any z W
  rw [h] at C
  have HC := Lib.hid C
  have e0 : (z.s == 0) = false := by simpa using hs
  clear hL h C hs
  unfold zc at HL ⊢
  go_enter Tryd.func9, Tryd.ntmps9
  go_wp2_with fail
  refine (HC.out _).mono ?_
  rintro e w1 ⟨rfl, hg1⟩
  have G1 : Hid (Later (w.alloc (.cells (zc z) 25)) w1) := Lib.hid hg1
  have L1 := Lib.hid (HL.out.grown hg1)
  clear hg1
  obtain ⟨k0, k1, k2, k3, k4, k5, k6, k7, k8, k9⟩ := HN.out.later G1.out
  go_wp2_with fail
  refine (A.out _ L1.out).mono ?_
  rintro e w2 ⟨rfl, hg2⟩
  go_wp2_with fail
  go_ret
  exact ⟨rfl, gtrans HW.out (gtrans G1.out hg2)⟩

theorem wn_time (z : Zn) (y : Int) (t : Tn) (hm : May z) (h0 : 3 ≤ y) (h1 : y ≤ 9990) (ht : okB t = true) : 576001 ≤ wn z t y ∧ wn z t y ≤ 5258879999 := by
  obtain ⟨a, b, _, _⟩ := wn_bd z y t hm (by omega) (by omega) ht
  have c := Cal.ya_mono 3 y h0
  have d := Cal.ya_mono (y + 1) 9991 (by omega)
  have e : ya 3 = 730 := by decide
  have f : ya 9991 ≤ 3649000 := by decide
  omega

theorem summer_at (z : Zn) (t : Int) (b : Bool) (hm : May z) (h0 : 576000 ≤ t) (h1 : t ≤ 5258879999) (hb : sm z t = b) (w : World) (hL : Laid w) : Calls Tryd.prog 13 #[.agg (zc z), .int .i64 t] w fun e w' => e = .returned (.tuple #[.bool b, .int .i64 0]) ∧ Later w w' := by
  have E := (sE_ok z t).2 ⟨hm, h0, h1⟩
  have S := summer_any z t w hL
  rw [show sV z t = b by unfold sV; rw [if_pos E, hb], E] at S
  exact S

set_option maxRecDepth 100000 in
set_option maxHeartbeats 1000000 in
theorem walk_yes (z : Zn) (y : Int) (w : World) (hL : Laid w) (h : ck z = 0) (hs : ¬ z.s = 0) (hy : ¬ y < 3) (hy2 : ¬ 9990 < y) : Calls Tryd.prog 9 #[.agg (zc z), .int .i64 y] w fun e w' => e = .returned (.bool true) ∧ Later w w' := by
  have hm := (ck_may z).1 h
  obtain ⟨op, oq, _⟩ := may_on z hm hs
  obtain ⟨t1, t2, t3, t4⟩ := turns z y hm hs (by omega) (by omega)
  obtain ⟨p0, p1⟩ := wn_time z y z.p hm (by omega) (by omega) op
  obtain ⟨q0, q1⟩ := wn_time z y z.q hm (by omega) (by omega) oq
  have HS1 := Lib.hid (fun W hW => summer_at z (wn z z.p y) true hm (by omega) (by omega) t1 W hW)
  have HS2 := Lib.hid (fun W hW => summer_at z (wn z z.p y - 1) false hm (by omega) (by omega) t2 W hW)
  have HS3 := Lib.hid (fun W hW => summer_at z (wn z z.q y) false hm (by omega) (by omega) t3 W hW)
  have HS4 := Lib.hid (fun W hW => summer_at z (wn z z.q y - 1) true hm (by omega) (by omega) t4 W hW)
  have N1 := fun W hW => Greg.nth_all y z.p.m z.p.v (wk z.p.k) W hW
  have N2 := fun W hW => Greg.nth_all y z.q.m z.q.v (wk z.q.k) W hW
  rw [(nth_in y z.p (by omega) (by omega) op).2.2] at N1
  rw [(nth_in y z.q (by omega) (by omega) oq).2.2] at N2
  obtain ⟨f0, f1, f2, f3⟩ := wn_fits z.p y (by omega) (by omega) op
  obtain ⟨g0, g1, g2, g3⟩ := wn_fits z.q y (by omega) (by omega) oq
  unfold wn at HS1 HS2 HS3 HS4 p0 p1 q0 q1
  have b0 := hm.1
  have b1 := hm.2.1
  have C := fun W => check_any z W
  rw [h] at C
  have HC := Lib.hid C
  have HN := Lib.hid (Zat.new w z)
  have HW := Lib.hid ((Later.refl w).alloc (zc z) 25)
  have HL := Lib.hid (hL.grown HW.out)
  have A := Lib.hid awake_any
  have e0 : (z.s == 0) = false := by simpa using hs
  clear hL h C hs hm t1 t2 t3 t4 op oq
  generalize nthV y z.p.m z.p.v (wk z.p.k) = a at *
  generalize nthV y z.q.m z.q.v (wk z.q.k) = b at *
  have HN1 := Lib.hid N1
  have HN2 := Lib.hid N2
  clear N1 N2
  unfold wk at HN1 HN2
  unfold zc at HL ⊢
  by_cases hp : z.p.k = 5 <;> by_cases hq : z.q.k = 5
  · have ep : (z.p.k == 5) = true := by simpa using hp
    have eq : (z.q.k == 5) = true := by simpa using hq
    rw [if_pos hp] at HN1
    rw [if_pos hq] at HN2
    clear hp hq
    go_enter Tryd.func9, Tryd.ntmps9
    go_wp2_with fail
    refine (HC.out _).mono ?_
    rintro e w1 ⟨rfl, hg1⟩
    have G1 : Hid (Later (w.alloc (.cells (zc z) 25)) w1) := Lib.hid hg1
    have L1 := Lib.hid (HL.out.grown hg1)
    clear hg1
    obtain ⟨k0, k1, k2, k3, k4, k5, k6, k7, k8, k9⟩ := HN.out.later G1.out
    go_wp2_with fail
    refine (HN1.out _ L1.out).mono ?_
    rintro e w2 ⟨rfl, hg2⟩
    have G2 := Lib.hid (gtrans G1.out hg2)
    have L2 := Lib.hid (L1.out.grown hg2)
    clear hg2
    clear k0 k1 k2 k3 k4 k5 k6 k7 k8 k9
    obtain ⟨k0, k1, k2, k3, k4, k5, k6, k7, k8, k9⟩ := HN.out.later G2.out
    go_wp2_with fail
    refine (HN2.out _ L2.out).mono ?_
    rintro e w3 ⟨rfl, hg3⟩
    have G3 := Lib.hid (gtrans G2.out hg3)
    have L3 := Lib.hid (L2.out.grown hg3)
    clear hg3
    clear k0 k1 k2 k3 k4 k5 k6 k7 k8 k9
    obtain ⟨k0, k1, k2, k3, k4, k5, k6, k7, k8, k9⟩ := HN.out.later G3.out
    go_wp2_with fail
    refine (HS1.out _ L3.out).mono ?_
    rintro e w4 ⟨rfl, hg4⟩
    have G4 := Lib.hid (gtrans G3.out hg4)
    have L4 := Lib.hid (L3.out.grown hg4)
    clear hg4
    clear k0 k1 k2 k3 k4 k5 k6 k7 k8 k9
    obtain ⟨k0, k1, k2, k3, k4, k5, k6, k7, k8, k9⟩ := HN.out.later G4.out
    go_wp2_with fail
    refine (HS2.out _ L4.out).mono ?_
    rintro e w5 ⟨rfl, hg5⟩
    have G5 := Lib.hid (gtrans G4.out hg5)
    have L5 := Lib.hid (L4.out.grown hg5)
    clear hg5
    clear k0 k1 k2 k3 k4 k5 k6 k7 k8 k9
    obtain ⟨k0, k1, k2, k3, k4, k5, k6, k7, k8, k9⟩ := HN.out.later G5.out
    go_wp2_with fail
    refine (HS3.out _ L5.out).mono ?_
    rintro e w6 ⟨rfl, hg6⟩
    have G6 := Lib.hid (gtrans G5.out hg6)
    have L6 := Lib.hid (L5.out.grown hg6)
    clear hg6
    clear k0 k1 k2 k3 k4 k5 k6 k7 k8 k9
    obtain ⟨k0, k1, k2, k3, k4, k5, k6, k7, k8, k9⟩ := HN.out.later G6.out
    go_wp2_with fail
    refine (HS4.out _ L6.out).mono ?_
    rintro e w7 ⟨rfl, hg7⟩
    have G7 := Lib.hid (gtrans G6.out hg7)
    have L7 := Lib.hid (L6.out.grown hg7)
    clear hg7
    clear k0 k1 k2 k3 k4 k5 k6 k7 k8 k9
    obtain ⟨k0, k1, k2, k3, k4, k5, k6, k7, k8, k9⟩ := HN.out.later G7.out
    go_wp2_with fail
    refine (A.out _ L7.out).mono ?_
    rintro e w8 ⟨rfl, hg8⟩
    go_wp2_with fail
    go_ret
    exact ⟨rfl, gtrans HW.out (gtrans G7.out hg8)⟩
  · have ep : (z.p.k == 5) = true := by simpa using hp
    have eq : (z.q.k == 5) = false := by simpa using hq
    rw [if_pos hp] at HN1
    rw [if_neg hq] at HN2
    clear hp hq
    go_enter Tryd.func9, Tryd.ntmps9
    go_wp2_with fail
    refine (HC.out _).mono ?_
    rintro e w1 ⟨rfl, hg1⟩
    have G1 : Hid (Later (w.alloc (.cells (zc z) 25)) w1) := Lib.hid hg1
    have L1 := Lib.hid (HL.out.grown hg1)
    clear hg1
    obtain ⟨k0, k1, k2, k3, k4, k5, k6, k7, k8, k9⟩ := HN.out.later G1.out
    go_wp2_with fail
    refine (HN1.out _ L1.out).mono ?_
    rintro e w2 ⟨rfl, hg2⟩
    have G2 := Lib.hid (gtrans G1.out hg2)
    have L2 := Lib.hid (L1.out.grown hg2)
    clear hg2
    clear k0 k1 k2 k3 k4 k5 k6 k7 k8 k9
    obtain ⟨k0, k1, k2, k3, k4, k5, k6, k7, k8, k9⟩ := HN.out.later G2.out
    go_wp2_with fail
    refine (HN2.out _ L2.out).mono ?_
    rintro e w3 ⟨rfl, hg3⟩
    have G3 := Lib.hid (gtrans G2.out hg3)
    have L3 := Lib.hid (L2.out.grown hg3)
    clear hg3
    clear k0 k1 k2 k3 k4 k5 k6 k7 k8 k9
    obtain ⟨k0, k1, k2, k3, k4, k5, k6, k7, k8, k9⟩ := HN.out.later G3.out
    go_wp2_with fail
    refine (HS1.out _ L3.out).mono ?_
    rintro e w4 ⟨rfl, hg4⟩
    have G4 := Lib.hid (gtrans G3.out hg4)
    have L4 := Lib.hid (L3.out.grown hg4)
    clear hg4
    clear k0 k1 k2 k3 k4 k5 k6 k7 k8 k9
    obtain ⟨k0, k1, k2, k3, k4, k5, k6, k7, k8, k9⟩ := HN.out.later G4.out
    go_wp2_with fail
    refine (HS2.out _ L4.out).mono ?_
    rintro e w5 ⟨rfl, hg5⟩
    have G5 := Lib.hid (gtrans G4.out hg5)
    have L5 := Lib.hid (L4.out.grown hg5)
    clear hg5
    clear k0 k1 k2 k3 k4 k5 k6 k7 k8 k9
    obtain ⟨k0, k1, k2, k3, k4, k5, k6, k7, k8, k9⟩ := HN.out.later G5.out
    go_wp2_with fail
    refine (HS3.out _ L5.out).mono ?_
    rintro e w6 ⟨rfl, hg6⟩
    have G6 := Lib.hid (gtrans G5.out hg6)
    have L6 := Lib.hid (L5.out.grown hg6)
    clear hg6
    clear k0 k1 k2 k3 k4 k5 k6 k7 k8 k9
    obtain ⟨k0, k1, k2, k3, k4, k5, k6, k7, k8, k9⟩ := HN.out.later G6.out
    go_wp2_with fail
    refine (HS4.out _ L6.out).mono ?_
    rintro e w7 ⟨rfl, hg7⟩
    have G7 := Lib.hid (gtrans G6.out hg7)
    have L7 := Lib.hid (L6.out.grown hg7)
    clear hg7
    clear k0 k1 k2 k3 k4 k5 k6 k7 k8 k9
    obtain ⟨k0, k1, k2, k3, k4, k5, k6, k7, k8, k9⟩ := HN.out.later G7.out
    go_wp2_with fail
    refine (A.out _ L7.out).mono ?_
    rintro e w8 ⟨rfl, hg8⟩
    go_wp2_with fail
    go_ret
    exact ⟨rfl, gtrans HW.out (gtrans G7.out hg8)⟩
  · have ep : (z.p.k == 5) = false := by simpa using hp
    have eq : (z.q.k == 5) = true := by simpa using hq
    rw [if_neg hp] at HN1
    rw [if_pos hq] at HN2
    clear hp hq
    go_enter Tryd.func9, Tryd.ntmps9
    go_wp2_with fail
    refine (HC.out _).mono ?_
    rintro e w1 ⟨rfl, hg1⟩
    have G1 : Hid (Later (w.alloc (.cells (zc z) 25)) w1) := Lib.hid hg1
    have L1 := Lib.hid (HL.out.grown hg1)
    clear hg1
    obtain ⟨k0, k1, k2, k3, k4, k5, k6, k7, k8, k9⟩ := HN.out.later G1.out
    go_wp2_with fail
    refine (HN1.out _ L1.out).mono ?_
    rintro e w2 ⟨rfl, hg2⟩
    have G2 := Lib.hid (gtrans G1.out hg2)
    have L2 := Lib.hid (L1.out.grown hg2)
    clear hg2
    clear k0 k1 k2 k3 k4 k5 k6 k7 k8 k9
    obtain ⟨k0, k1, k2, k3, k4, k5, k6, k7, k8, k9⟩ := HN.out.later G2.out
    go_wp2_with fail
    refine (HN2.out _ L2.out).mono ?_
    rintro e w3 ⟨rfl, hg3⟩
    have G3 := Lib.hid (gtrans G2.out hg3)
    have L3 := Lib.hid (L2.out.grown hg3)
    clear hg3
    clear k0 k1 k2 k3 k4 k5 k6 k7 k8 k9
    obtain ⟨k0, k1, k2, k3, k4, k5, k6, k7, k8, k9⟩ := HN.out.later G3.out
    go_wp2_with fail
    refine (HS1.out _ L3.out).mono ?_
    rintro e w4 ⟨rfl, hg4⟩
    have G4 := Lib.hid (gtrans G3.out hg4)
    have L4 := Lib.hid (L3.out.grown hg4)
    clear hg4
    clear k0 k1 k2 k3 k4 k5 k6 k7 k8 k9
    obtain ⟨k0, k1, k2, k3, k4, k5, k6, k7, k8, k9⟩ := HN.out.later G4.out
    go_wp2_with fail
    refine (HS2.out _ L4.out).mono ?_
    rintro e w5 ⟨rfl, hg5⟩
    have G5 := Lib.hid (gtrans G4.out hg5)
    have L5 := Lib.hid (L4.out.grown hg5)
    clear hg5
    clear k0 k1 k2 k3 k4 k5 k6 k7 k8 k9
    obtain ⟨k0, k1, k2, k3, k4, k5, k6, k7, k8, k9⟩ := HN.out.later G5.out
    go_wp2_with fail
    refine (HS3.out _ L5.out).mono ?_
    rintro e w6 ⟨rfl, hg6⟩
    have G6 := Lib.hid (gtrans G5.out hg6)
    have L6 := Lib.hid (L5.out.grown hg6)
    clear hg6
    clear k0 k1 k2 k3 k4 k5 k6 k7 k8 k9
    obtain ⟨k0, k1, k2, k3, k4, k5, k6, k7, k8, k9⟩ := HN.out.later G6.out
    go_wp2_with fail
    refine (HS4.out _ L6.out).mono ?_
    rintro e w7 ⟨rfl, hg7⟩
    have G7 := Lib.hid (gtrans G6.out hg7)
    have L7 := Lib.hid (L6.out.grown hg7)
    clear hg7
    clear k0 k1 k2 k3 k4 k5 k6 k7 k8 k9
    obtain ⟨k0, k1, k2, k3, k4, k5, k6, k7, k8, k9⟩ := HN.out.later G7.out
    go_wp2_with fail
    refine (A.out _ L7.out).mono ?_
    rintro e w8 ⟨rfl, hg8⟩
    go_wp2_with fail
    go_ret
    exact ⟨rfl, gtrans HW.out (gtrans G7.out hg8)⟩
  · have ep : (z.p.k == 5) = false := by simpa using hp
    have eq : (z.q.k == 5) = false := by simpa using hq
    rw [if_neg hp] at HN1
    rw [if_neg hq] at HN2
    clear hp hq
    go_enter Tryd.func9, Tryd.ntmps9
    go_wp2_with fail
    refine (HC.out _).mono ?_
    rintro e w1 ⟨rfl, hg1⟩
    have G1 : Hid (Later (w.alloc (.cells (zc z) 25)) w1) := Lib.hid hg1
    have L1 := Lib.hid (HL.out.grown hg1)
    clear hg1
    obtain ⟨k0, k1, k2, k3, k4, k5, k6, k7, k8, k9⟩ := HN.out.later G1.out
    go_wp2_with fail
    refine (HN1.out _ L1.out).mono ?_
    rintro e w2 ⟨rfl, hg2⟩
    have G2 := Lib.hid (gtrans G1.out hg2)
    have L2 := Lib.hid (L1.out.grown hg2)
    clear hg2
    clear k0 k1 k2 k3 k4 k5 k6 k7 k8 k9
    obtain ⟨k0, k1, k2, k3, k4, k5, k6, k7, k8, k9⟩ := HN.out.later G2.out
    go_wp2_with fail
    refine (HN2.out _ L2.out).mono ?_
    rintro e w3 ⟨rfl, hg3⟩
    have G3 := Lib.hid (gtrans G2.out hg3)
    have L3 := Lib.hid (L2.out.grown hg3)
    clear hg3
    clear k0 k1 k2 k3 k4 k5 k6 k7 k8 k9
    obtain ⟨k0, k1, k2, k3, k4, k5, k6, k7, k8, k9⟩ := HN.out.later G3.out
    go_wp2_with fail
    refine (HS1.out _ L3.out).mono ?_
    rintro e w4 ⟨rfl, hg4⟩
    have G4 := Lib.hid (gtrans G3.out hg4)
    have L4 := Lib.hid (L3.out.grown hg4)
    clear hg4
    clear k0 k1 k2 k3 k4 k5 k6 k7 k8 k9
    obtain ⟨k0, k1, k2, k3, k4, k5, k6, k7, k8, k9⟩ := HN.out.later G4.out
    go_wp2_with fail
    refine (HS2.out _ L4.out).mono ?_
    rintro e w5 ⟨rfl, hg5⟩
    have G5 := Lib.hid (gtrans G4.out hg5)
    have L5 := Lib.hid (L4.out.grown hg5)
    clear hg5
    clear k0 k1 k2 k3 k4 k5 k6 k7 k8 k9
    obtain ⟨k0, k1, k2, k3, k4, k5, k6, k7, k8, k9⟩ := HN.out.later G5.out
    go_wp2_with fail
    refine (HS3.out _ L5.out).mono ?_
    rintro e w6 ⟨rfl, hg6⟩
    have G6 := Lib.hid (gtrans G5.out hg6)
    have L6 := Lib.hid (L5.out.grown hg6)
    clear hg6
    clear k0 k1 k2 k3 k4 k5 k6 k7 k8 k9
    obtain ⟨k0, k1, k2, k3, k4, k5, k6, k7, k8, k9⟩ := HN.out.later G6.out
    go_wp2_with fail
    refine (HS4.out _ L6.out).mono ?_
    rintro e w7 ⟨rfl, hg7⟩
    have G7 := Lib.hid (gtrans G6.out hg7)
    have L7 := Lib.hid (L6.out.grown hg7)
    clear hg7
    clear k0 k1 k2 k3 k4 k5 k6 k7 k8 k9
    obtain ⟨k0, k1, k2, k3, k4, k5, k6, k7, k8, k9⟩ := HN.out.later G7.out
    go_wp2_with fail
    refine (A.out _ L7.out).mono ?_
    rintro e w8 ⟨rfl, hg8⟩
    go_wp2_with fail
    go_ret
    exact ⟨rfl, gtrans HW.out (gtrans G7.out hg8)⟩

theorem walk (z : Zn) (y : Int) (hz : Zwf z) (ht : (Lit.int .i64 y).wf = true) (w : World) (hL : Laid w) : Calls Tryd.prog 9 #[.agg (zc z), .int .i64 y] w fun e w' => e = .returned (.bool true) ∧ Later w w' := by
  by_cases h : ck z = 0
  · by_cases hs : z.s = 0
    · exact walk_still z y w hL h hs
    by_cases h0 : y < 3
    · exact walk_low z y w hL h hs h0
    by_cases h1 : 9990 < y
    · exact walk_high z y w hL h hs h0 h1
    · exact walk_yes z y w hL h hs h0 h1
  · exact walk_zone z y w hL h

set_option maxHeartbeats 1000000 in
set_option maxRecDepth 100000 in
theorem lifted (os : Os) (started : os.Started) (H : Type) (enc : TypeId × Value → H) :
    ReturnsInHanded {} Tryd.checked os 9 .any (fun w args => (Rows.zoneTurnsSpec.pre enc Tryd.prog Tryd.f9 [] false w args ∧ laidMetH Tryd.prog laidL w) ∧ sizedMet enc Tryd.prog Tryd.f9 (OpenSpec.ofChange Rows.zoneTurnsSpec) false w args)
      (Rows.zoneTurnsSpec.post enc Tryd.prog Tryd.f9 false true false false) := by
  refine returnsInHanded_of_change_and (C := Tryd.checked) (X := fun w _ => laidMetH Tryd.prog laidL w) (fun _ _ _ hh h => h.of_heap hh) own started (by kernel_rfl) Tryd.func9
    (ChangeSpec.witness_shaped (enc := enc) (C := Tryd.checked) (os := os) (X := fun w _ => laidMetH Tryd.prog laidL w) false (World.doorLaid Tryd.prog 400 os) #[.agg #[.int .i64 0, .int .i64 0, .int .i64 0, .int .i64 0, .int .i64 0, .int .i64 0, .int .i64 0, .int .i64 0, .int .i64 0, .int .i64 0], .int .i64 0] 8 rfl (World.shaped_of_RefB (by kernel_rfl) (by kernel_rfl)) (by kernel_rfl) (by kernel_rfl) (by kernel_rfl) (door_met os _)) ?_
  intro W base args ds gs before hval0 hW _ _ hL _
  have hval : ∀ (j : Nat) t v, Tryd.f9.params[j]? = some t → args[j]? = some v → Value.okWide Tryd.prog W .any base t v := hval0
  have hW' := hW
  obtain ⟨p, q, hA0, hV, rfl, hfz, hnd⟩ := hW
  have hA : DataW.TrodAll enc Tryd.prog W 0 (fun _ => true) true Tryd.f9.params.toList args.toList ds p := hA0
  rw [Tryd.params9] at hA hval
  obtain ⟨v0, vs0, d0, ds0, p0, q0, hargs, rfl, rfl, h0, r0⟩ := trodAll_cons hA
  obtain ⟨v1, vs1, d1, ds1, p1, q1, rfl, rfl, rfl, h1, r1⟩ := trodAll_cons r0
  obtain ⟨rfl, rfl, rfl⟩ := trodAll_nil r1
  obtain rfl : args = #[v0, v1] := by cases args; simp_all
  obtain ⟨rfl, rfl⟩ := trodVars_none hV
  obtain ⟨a0, rfl, rfl, rfl, w0⟩ := open_zone (hval 0 25 v0 rfl rfl) h0
  obtain ⟨a1, rfl, rfl, rfl, w1⟩ := open_int Tryd.underlying3 (hval 1 3 v1 rfl rfl) h1
  clear hA0 hval0
  simp only [List.append_nil] at hW'
  refine (walk a0 a1 w0 w1 W (of_laid hL)).mono fun e W' ⟨he, hg⟩ => ?_
  subst he
  exact ⟨_, rfl, post_bare hW' (fun _ _ _ => (trodAll_cons_mk (shut_bool Tryd.underlying4 _) trodAll_mk0)) (fun sp => (trodAll_cons_mk (shut_zone a0 w0) (trodAll_cons_mk (shut_int Tryd.underlying3 w1) trodAll_mk0))) (fun _ => rfl) hg
    (ok_one (by kernel_rfl) rfl (okWide_bool_mk Tryd.underlying4 _))⟩

theorem over : Rows.zoneTurnsRow.holds Tryd.pinned (OpenSpec.ofChange Rows.zoneTurnsSpec) :=
  OpenClaim.holds_of_wide 9 Tryd.f9 rfl rfl rfl rfl rfl rfl rfl ⟨rfl, rfl, rfl, rfl, rfl⟩ rfl rfl rfl rfl rfl (by kernel_rfl) Tryd.func9 (by kernel_rfl)
    (of_decide_eq_true (by kernel_rfl)) (by unfold Func.isWrapper; first | (rw [if_pos (by decide +kernel)]; kernel_rfl) | (rw [if_neg (by decide +kernel)]; exact ⟨rfl, rfl⟩))
    (fun os started H enc _ => lifted os started H enc)

/-- The statement. -/
theorem proved : Rows.ZoneTurnsCardSaid :=
  Claim7.holds_tied_plain_at .later [] [.data] true (true, "f5e48cc57892619de836986e666817daa5421fbb5699f7094e0e3d8dbc488e05") false
    over (fun _ h => by cases h) (by kernel_rfl) (fun _ h => by cases h) zoneTurns_row_tie rfl ⟨rfl, rfl⟩ (by kernel_rfl) rfl
    (fun f fn hf hfn => by
      obtain rfl : f = 9 := Option.some.inj ((show Tryd.prog.funcNamed "newel/newellaw06.ZoneTurns" = some 9 by kernel_rfl).symm.trans hf) |>.symm
      obtain rfl : fn = Tryd.f9 := (Option.some.inj (Tryd.func9.symm.trans hfn)).symm
      exact ⟨by kernel_rfl, fun j t ht => by
        rw [Tryd.params9] at ht
        have hm : t ∈ [25, 3] := by simpa using Array.mem_of_getElem? ht
        have hall : ([25, 3].all fun u => !Tryd.prog.wantsStandIn u) = true := by kernel_rfl
        exact (show Tryd.prog.wantsStandIn t = false by simpa using List.all_eq_true.1 hall t hm)⟩)
    (by kernel_rfl)
#print axioms proved
end Go.Proofs.YthmlaidmbcgmdaaDoor.zoneTurns
