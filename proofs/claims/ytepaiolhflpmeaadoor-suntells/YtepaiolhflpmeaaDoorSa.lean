/-
  When the sun sets, and the instant at which it does, by the program's At and Moment. Conditions: the numbers are ints, the table of months lies where the program lays it.
-/
import Derived.Test.YtepaiolhflpmeaaDoorSk
namespace Go.Proofs.YtepaiolhflpmeaaDoor.Sun
open Go.ChangeShapes Go.WideShapes Go.ChangeAt Go.RowKit
open Go.Proofs.YtepaiolhflpmeaaDoor.Divs Go.Proofs.YtepaiolhflpmeaaDoor.Grow Go.Proofs.YtepaiolhflpmeaaDoor.Zone
open Go.Proofs.YtepaiolhflpmeaaDoor.Greg (Laid)
open Go.Proofs.YtepaiolhflpmeaaDoor.Cal (dm yr om od)
open Go.Proofs.YtepaiolhflpmeaaDoor.Zo Go.Proofs.YtepaiolhflpmeaaDoor.Su

theorem ret2 {a b c d : Int} (h1 : a = c) (h2 : b = d) : Ending.returned (.tuple #[.int .i64 a, .int .i64 b]) = .returned (.tuple #[.int .i64 c, .int .i64 d]) := by rw [h1, h2]

theorem date_cell (w : World) (y m d : Int) : (w.alloc (.cells #[.int .i64 y, .int .i64 m, .int .i64 d] 44)).cell? ⟨w.heap.size, 0, none⟩ = some (.int .i64 y) ∧ (w.alloc (.cells #[.int .i64 y, .int .i64 m, .int .i64 d] 44)).cell? ⟨w.heap.size, 1, none⟩ = some (.int .i64 m) ∧ (w.alloc (.cells #[.int .i64 y, .int .i64 m, .int .i64 d] 44)).cell? ⟨w.heap.size, 2, none⟩ = some (.int .i64 d) := by
  refine ⟨?_, ?_, ?_⟩ <;> rw [World.cell?_alloc_new] <;> rfl

theorem at_bad (s : Nat → Int) (n : Int) (w : World) (h : ¬ sk s = 0) : Calls Tryd.prog 10 #[.agg (sc s), .int .i64 n] w fun e w' => e = .returned (.tuple #[.int .i64 (aV s n), .int .i64 (aE s n)]) ∧ Later w w' := by
  have C := Lib.hid (fun W => check_any s W)
  have e0 : (sk s != 0) = true := by simpa using h
  have hE : aE s n = sk s := by unfold aE; rw [if_neg h]
  have HE := Lib.hid hE
  have HV := Lib.hid (show aV s n = 0 by unfold aV; rw [if_neg (by rw [hE]; exact h)])
  clear h hE
  unfold sc at *
  go_enter Tryd.func10, Tryd.ntmps10
  go_wp2_with fail
  refine (C.out _).mono ?_
  rintro e w1 ⟨rfl, hg1⟩
  go_wp2_with fail
  go_ret2
  exact ⟨ret2 HV.out.symm HE.out.symm, gtrans ((Later.refl w).alloc _ _) hg1⟩

theorem at_day (s : Nat → Int) (n : Int) (w : World) (h : sk s = 0) (hn : n < 1 ∨ 3652059 < n) : Calls Tryd.prog 10 #[.agg (sc s), .int .i64 n] w fun e w' => e = .returned (.tuple #[.int .i64 (aV s n), .int .i64 (aE s n)]) ∧ Later w w' := by
  have C := Lib.hid (fun W => check_any s W)
  have O := Lib.hid (fun W => Greg.of_no n W hn)
  have e0 : (sk s != 0) = false := by simpa using h
  have hE : aE s n = 72 := by unfold aE; rw [if_pos h, if_neg (by omega)]
  have HE := Lib.hid hE
  have HV := Lib.hid (show aV s n = 0 by unfold aV; rw [if_neg (by rw [hE]; omega)])
  clear h hE hn
  unfold sc at *
  go_enter Tryd.func10, Tryd.ntmps10
  go_wp2_with fail
  refine (C.out _).mono ?_
  rintro e w1 ⟨rfl, hg1⟩
  go_wp2_with fail
  refine (O.out _).mono ?_
  rintro e w2 ⟨rfl, hg2⟩
  go_wp2_with fail
  go_ret2
  exact ⟨ret2 HV.out.symm HE.out.symm, gtrans ((Later.refl w).alloc _ _) (gtrans hg1 (hg2.alloc _ _))⟩

set_option maxHeartbeats 1000000 in
theorem at_yes (s : Nat → Int) (n : Int) (w : World) (hL : Laid w) (h : sk s = 0) (h1 : 1 ≤ n) (h2 : n ≤ 3652059) : Calls Tryd.prog 10 #[.agg (sc s), .int .i64 n] w fun e w' => e = .returned (.tuple #[.int .i64 (aV s n), .int .i64 (aE s n)]) ∧ Later w w' := by
  have C := Lib.hid (fun W => check_any s W)
  have O := Lib.hid (fun W hW => Greg.of_yes n W hW h1 h2)
  have hd := date_bd n h1 h2
  have hb := gone_bd s n h h1 h2
  have hx : ∀ W, Calls Tryd.prog 18 #[.agg (sc s), .int .i64 (om n)] W fun e w' => e = .returned (.tuple #[.int .i64 (ta s n), .int .i64 (tb s n)]) ∧ Later W w' := fun W => next_any s (om n) W hd.2.2.1 hd.2.2.2.1
  have X := Lib.hid hx
  have D := Lib.hid (fun W hW => same_g (Greg.days_any (yr n) (om n) W hW))
  have V := Lib.hid (fun W => drew_g (div_yes ((tb s n - ta s n) * (od n - 1)) (dm (yr n) (om n)) W (by omega) (by omega) (by omega) (by omega)))
  have e0 : (sk s != 0) = false := by simpa using h
  have hE : aE s n = 0 := (aE_ok s n).2 ⟨h, h1, h2⟩
  have HE := Lib.hid hE
  have HV : Hid (aV s n = ta s n + (tb s n - ta s n) * (od n - 1) / dm (yr n) (om n)) := Lib.hid (by unfold aV; rw [if_pos hE]; rfl)
  have hsa := sa_bd s n h h1 h2
  unfold sa at hsa
  have HN := Lib.hid (Sat.new w s)
  have HL := Lib.hid hL
  clear hL h hE h1 h2 hd hx
  obtain ⟨a0, a1, b0, b1, _, _, o0, o1, _, _, p0, p1⟩ := hb
  unfold sc at *
  go_enter Tryd.func10, Tryd.ntmps10
  go_wp2_with fail
  refine (C.out _).mono ?_
  rintro e w1 ⟨rfl, hg1⟩
  have HG1 := Lib.hid hg1
  clear hg1
  go_wp2_with fail
  refine (O.out _ (HL.out.grown (gtrans ((Later.refl w).alloc _ _) HG1.out))).mono ?_
  rintro e w2 ⟨rfl, hg2⟩
  have HG2 := Lib.hid (gtrans HG1.out hg2)
  clear hg2
  obtain ⟨k0, k1, k2, k3, k4, k5, k6, k7, k8, k9, k10, k11⟩ := (HN.out.later (HG2.out.alloc #[.int .i64 (yr n), .int .i64 (om n), .int .i64 (od n)] 44)).all
  go_wp2_with fail
  refine (X.out _).mono ?_
  rintro e w3 ⟨rfl, hg3⟩
  clear k0 k1 k2 k3 k4 k5 k6 k7 k8 k9 k10 k11
  have HG3 := Lib.hid hg3
  clear hg3
  go_wp2_with fail
  have d0 := gw_cell (gsome HG3.out (date_cell w2 (yr n) (om n) (od n)).1)
  have d1 := gw_cell (gsome HG3.out (date_cell w2 (yr n) (om n) (od n)).2.1)
  have d2 := gw_cell (gsome HG3.out (date_cell w2 (yr n) (om n) (od n)).2.2)
  have HL3 : Laid w3 := HL.out.grown (gtrans ((Later.refl w).alloc _ _) (gtrans (HG2.out.alloc _ _) HG3.out))
  refine region_grown (by kernel_rfl) (by kernel_rfl) ?_
  repeat (go_big_quiet_step (first | (go_at_call 21; exact in_grown (D.out _ (HL3.gw _))) | (go_at_call 20; exact in_grown (V.out _))))
  refine wpQuiet_nil (grown_end ?_)
  intro w4 hg4
  clear d0 d1 d2 HL3
  go_wp2_with fail
  go_ret2
  exact ⟨ret2 HV.out.symm HE.out.symm, gtrans ((Later.refl w).alloc _ _) (gtrans (HG2.out.alloc _ _) (gtrans HG3.out hg4))⟩

theorem at_any (s : Nat → Int) (n : Int) (w : World) (hL : Laid w) : Calls Tryd.prog 10 #[.agg (sc s), .int .i64 n] w fun e w' => e = .returned (.tuple #[.int .i64 (aV s n), .int .i64 (aE s n)]) ∧ Later w w' := by
  by_cases h : sk s = 0
  · by_cases hn : 1 ≤ n ∧ n ≤ 3652059
    · exact at_yes s n w hL h hn.1 hn.2
    · exact at_day s n w h (by omega)
  · exact at_bad s n w h


theorem two_tab (w : World) (z : Zn) (s : Nat → Int) : Sat ((w.alloc (.cells (zc z) 35)).alloc (.cells (sc s) 23)) (w.heap.size + 1) s := by
  have := Sat.new (w.alloc (.cells (zc z) 35)) s
  simpa using this

theorem two_zone (w : World) (z : Zn) (s : Nat → Int) : Zat ((w.alloc (.cells (zc z) 35)).alloc (.cells (sc s) 23)) w.heap.size z :=
  (Zat.new w z).later ((Later.refl _).alloc _ _)

theorem moment_zone (z : Zn) (s : Nat → Int) (n : Int) (w : World) (hL : Laid w) (h : ¬ ck z = 0) : Calls Tryd.prog 12 #[.agg (zc z), .agg (sc s), .int .i64 n] w fun e w' => e = .returned (.tuple #[.int .i64 (mV z s n), .int .i64 (mE z s n)]) ∧ Later w w' := by
  have C := Lib.hid (fun W => Zone.check_any z W)
  have A := Lib.hid (fun W hW => at_any s n W hW)
  have K := Lib.hid (fun n a b W => within_any n a b W)
  have e0 : (ck z != 0) = true := by simpa using h
  have hE : mE z s n = ck z := by unfold mE; rw [if_neg h]
  have HE := Lib.hid hE
  have HV := Lib.hid (show mV z s n = 0 by unfold mV; rw [if_neg (by rw [hE]; exact h)])
  clear h hE
  have HT := Lib.hid (two_tab w z s)
  have HZ := Lib.hid (two_zone w z s)
  have HG0 := Lib.hid (((Later.refl w).alloc (zc z) 35).alloc (sc s) 23)
  have HL := Lib.hid hL
  clear hL
  unfold zc sc at *
  go_enter Tryd.func12, Tryd.ntmps12
  go_wp2_with fail
  refine (C.out _).mono ?_
  rintro e w1 ⟨rfl, hg1⟩
  have HG1 := Lib.hid hg1
  clear hg1
  go_wp2_with fail
  go_ret2
  exact ⟨ret2 HV.out.symm HE.out.symm, gtrans HG0.out HG1.out⟩

theorem moment_at (z : Zn) (s : Nat → Int) (n : Int) (w : World) (hL : Laid w) (h : ck z = 0) (ha : ¬ aE s n = 0) : Calls Tryd.prog 12 #[.agg (zc z), .agg (sc s), .int .i64 n] w fun e w' => e = .returned (.tuple #[.int .i64 (mV z s n), .int .i64 (mE z s n)]) ∧ Later w w' := by
  have C := Lib.hid (fun W => Zone.check_any z W)
  have A := Lib.hid (fun W hW => at_any s n W hW)
  have K := Lib.hid (fun n a b W => within_any n a b W)
  have e0 : (ck z != 0) = false := by simpa using h
  have e1 : (aE s n != 0) = true := by simpa using ha
  have hE : mE z s n = aE s n := by
    unfold mE; rw [if_pos h]
    unfold aE at ha ⊢
    by_cases g : sk s = 0
    · rw [if_pos g] at ha ⊢
      rw [if_pos g]
      by_cases hn : 1 ≤ n ∧ n ≤ 3652059
      · rw [if_pos hn] at ha; exact absurd rfl ha
      · rw [if_neg hn, if_neg (by omega)]
    · rw [if_neg g, if_neg g]
  have HE := Lib.hid hE
  have HV := Lib.hid (show mV z s n = 0 by unfold mV; rw [if_neg (by rw [hE]; exact ha)])
  clear h hE ha
  have HT := Lib.hid (two_tab w z s)
  have HZ := Lib.hid (two_zone w z s)
  have HG0 := Lib.hid (((Later.refl w).alloc (zc z) 35).alloc (sc s) 23)
  have HL := Lib.hid hL
  clear hL
  unfold zc sc at *
  go_enter Tryd.func12, Tryd.ntmps12
  go_wp2_with fail
  refine (C.out _).mono ?_
  rintro e w1 ⟨rfl, hg1⟩
  have HG1 := Lib.hid hg1
  clear hg1
  obtain ⟨k0, k1, k2, k3, k4, k5, k6, k7, k8, k9, k10, k11⟩ := (HT.out.later HG1.out).all
  go_wp2_with fail
  refine (A.out _ (HL.out.grown (gtrans HG0.out HG1.out))).mono ?_
  rintro e w2 ⟨rfl, hg2⟩
  clear k0 k1 k2 k3 k4 k5 k6 k7 k8 k9 k10 k11
  have HG2 := Lib.hid (gtrans HG1.out hg2)
  clear hg2
  go_wp2_with fail
  go_ret2
  exact ⟨ret2 HV.out.symm HE.out.symm, gtrans HG0.out HG2.out⟩

theorem moment_day (z : Zn) (s : Nat → Int) (n : Int) (w : World) (hL : Laid w) (h : ck z = 0) (ha : aE s n = 0) (hn : ¬ (401 ≤ n ∧ n ≤ 3651998)) : Calls Tryd.prog 12 #[.agg (zc z), .agg (sc s), .int .i64 n] w fun e w' => e = .returned (.tuple #[.int .i64 (mV z s n), .int .i64 (mE z s n)]) ∧ Later w w' := by
  have C := Lib.hid (fun W => Zone.check_any z W)
  have A := Lib.hid (fun W hW => at_any s n W hW)
  have K := Lib.hid (fun n a b W => within_any n a b W)
  have e0 : (ck z != 0) = false := by simpa using h
  have e1 : (aE s n != 0) = false := by simpa using ha
  have e2 := wiB_not n 401 3651998 hn
  have hE : mE z s n = 72 := by
    unfold mE; rw [if_pos h, if_pos ((aE_ok s n).1 ha).1, if_neg hn]
  have HE := Lib.hid hE
  have HV := Lib.hid (show mV z s n = 0 by unfold mV; rw [if_neg (by rw [hE]; omega)])
  clear h hE ha hn
  have HT := Lib.hid (two_tab w z s)
  have HZ := Lib.hid (two_zone w z s)
  have HG0 := Lib.hid (((Later.refl w).alloc (zc z) 35).alloc (sc s) 23)
  have HL := Lib.hid hL
  clear hL
  unfold zc sc at *
  go_enter Tryd.func12, Tryd.ntmps12
  go_wp2_with fail
  refine (C.out _).mono ?_
  rintro e w1 ⟨rfl, hg1⟩
  have HG1 := Lib.hid hg1
  clear hg1
  obtain ⟨k0, k1, k2, k3, k4, k5, k6, k7, k8, k9, k10, k11⟩ := (HT.out.later HG1.out).all
  go_wp2_with fail
  refine (A.out _ (HL.out.grown (gtrans HG0.out HG1.out))).mono ?_
  rintro e w2 ⟨rfl, hg2⟩
  clear k0 k1 k2 k3 k4 k5 k6 k7 k8 k9 k10 k11
  have HG2 := Lib.hid (gtrans HG1.out hg2)
  clear hg2
  go_wp2_with (go_at_call 17; refine (K.out _ _ _ _).mono ?_; rintro e w1 ⟨rfl, rfl⟩)
  go_ret2
  exact ⟨ret2 HV.out.symm HE.out.symm, gtrans HG0.out HG2.out⟩

theorem moment_yes (z : Zn) (s : Nat → Int) (n : Int) (w : World) (hL : Laid w) (h : ck z = 0) (ha : aE s n = 0) (hn : 401 ≤ n ∧ n ≤ 3651998) : Calls Tryd.prog 12 #[.agg (zc z), .agg (sc s), .int .i64 n] w fun e w' => e = .returned (.tuple #[.int .i64 (mV z s n), .int .i64 (mE z s n)]) ∧ Later w w' := by
  have C := Lib.hid (fun W => Zone.check_any z W)
  have A := Lib.hid (fun W hW => at_any s n W hW)
  have K := Lib.hid (fun n a b W => within_any n a b W)
  have e0 : (ck z != 0) = false := by simpa using h
  have e1 : (aE s n != 0) = false := by simpa using ha
  have e2 := (wiB_iff n 401 3651998).2 hn
  have hk := ((aE_ok s n).1 ha).1
  have hE : mE z s n = 0 := (mE_ok z s n).2 ⟨h, hk, hn⟩
  have HE := Lib.hid hE
  have hb := sa_bd s n hk (by omega) (by omega)
  have hz := (ck_may z).1 h
  unfold May at hz
  obtain ⟨z0, z1, _⟩ := hz
  have hV : sa s n = aV s n := by unfold aV; rw [if_pos ha]
  rw [hV] at hb
  have HV : Hid (mV z s n = n * 1440 + aV s n - z.b) := Lib.hid (by unfold mV; rw [if_pos hE, hV])
  clear h hE ha hk hV
  have HT := Lib.hid (two_tab w z s)
  have HZ := Lib.hid (two_zone w z s)
  have HG0 := Lib.hid (((Later.refl w).alloc (zc z) 35).alloc (sc s) 23)
  have HL := Lib.hid hL
  clear hL
  unfold zc sc at *
  go_enter Tryd.func12, Tryd.ntmps12
  go_wp2_with fail
  refine (C.out _).mono ?_
  rintro e w1 ⟨rfl, hg1⟩
  have HG1 := Lib.hid hg1
  clear hg1
  obtain ⟨k0, k1, k2, k3, k4, k5, k6, k7, k8, k9, k10, k11⟩ := (HT.out.later HG1.out).all
  go_wp2_with fail
  refine (A.out _ (HL.out.grown (gtrans HG0.out HG1.out))).mono ?_
  rintro e w2 ⟨rfl, hg2⟩
  clear k0 k1 k2 k3 k4 k5 k6 k7 k8 k9 k10 k11
  have HG2 := Lib.hid (gtrans HG1.out hg2)
  clear hg2
  obtain ⟨j0, j1, j2, j3, j4, j5, j6, j7, j8, j9⟩ := HZ.out.later HG2.out
  go_wp2_with (go_at_call 17; refine (K.out _ _ _ _).mono ?_; rintro e w1 ⟨rfl, rfl⟩)
  go_ret2
  exact ⟨ret2 HV.out.symm HE.out.symm, gtrans HG0.out HG2.out⟩

theorem moment_any (z : Zn) (s : Nat → Int) (n : Int) (w : World) (hL : Laid w) : Calls Tryd.prog 12 #[.agg (zc z), .agg (sc s), .int .i64 n] w fun e w' => e = .returned (.tuple #[.int .i64 (mV z s n), .int .i64 (mE z s n)]) ∧ Later w w' := by
  by_cases h : ck z = 0
  · by_cases ha : aE s n = 0
    · by_cases hn : 401 ≤ n ∧ n ≤ 3651998
      · exact moment_yes z s n w hL h ha hn
      · exact moment_day z s n w hL h ha hn
    · exact moment_at z s n w hL h ha
  · exact moment_zone z s n w hL h

end Go.Proofs.YtepaiolhflpmeaaDoor.Sun
