/-
  Texts of mine, merged: each part says what it holds. Conditions: as each theorem states.
-/
import Derived.ChangeKeysEq
import Derived.Test.YtihdijkplmfhfaaGreatDoorM10

/- The document's answers on sunsets: which tables may be, the minute of a day, its instant. Conditions: where the minute is asked, the table may be and the day has a date. -/
namespace Go.Proofs.YtihdijkplmfhfaaGreatDoor.Sun
set_option maxRecDepth 100000
open Go.ChangeShapes Go.WideShapes Go.ChangeAt Go.RowKit
open Go.Proofs.YtihdijkplmfhfaaGreatDoor.Divs Go.Proofs.YtihdijkplmfhfaaGreatDoor.Grow Go.Proofs.YtihdijkplmfhfaaGreatDoor.Zone
open Go.Proofs.YtihdijkplmfhfaaGreatDoor.Greg (Laid)
open Go.Proofs.YtihdijkplmfhfaaGreatDoor.Cal (dm yr om od)
open Go.Proofs.YtihdijkplmfhfaaGreatDoor.Zo Go.Proofs.YtihdijkplmfhfaaGreatDoor.Su

def ERel (s : Nat → Int) (w : World) (i : Value) (wr : World) : Prop := ∃ k : Nat, k ≤ 12 ∧ i = .int .i64 (k : Int) ∧ (∀ j, j < k → 900 ≤ s j ∧ s j ≤ 1320) ∧ Later w wr

def FRel (s : Nat → Int) (w : World) (i : Value) (wr : World) : Prop := ∃ k : Nat, k ≤ 12 ∧ i = .int .i64 (k : Int) ∧ (∀ j, j < k → -120 ≤ s ((j + 1) % 12) - s j ∧ s ((j + 1) % 12) - s j ≤ 120) ∧ Later w wr

set_option maxHeartbeats 1000000 in
theorem rcheck_tab (s : Nat → Int) (w : World) : Calls Tryz.prog 35 #[.agg (sc s)] w fun e w' => e = .returned (.int .i64 (sk s)) ∧ Later w w' := by
  have HN := Lib.hid (Sat.new w s)
  have HG := Lib.hid ((Later.refl w).alloc (sc s) 30)
  unfold sc at *
  go_enter Tryz.func35, Tryz.ntmps35
  go_wp2
  go_loopw [3] (fun i wr => ERel s (w.alloc (.cells #[.int .i64 (s 0), .int .i64 (s 1), .int .i64 (s 2), .int .i64 (s 3), .int .i64 (s 4), .int .i64 (s 5), .int .i64 (s 6), .int .i64 (s 7), .int .i64 (s 8), .int .i64 (s 9), .int .i64 (s 10), .int .i64 (s 11)] 30)) i wr) (fun i _ => 12 - (intOf i).toNat)
  case atStart => exact ⟨0, by omega, rfl, by omega, Later.refl _⟩
  case round =>
    obtain ⟨k, hk, rfl, hj, hg⟩ := hrel
    have HGR := Lib.hid hg
    clear hg
    by_cases hlt : k < 12
    · have c := HN.out.later HGR.out k hlt
      by_cases h1 : s k < 900
      · have HV := Lib.hid (sk_m s k hlt (by omega))
        clear hj
        go_wp2
        go_ret
        exact ⟨reti HV.out.symm, gtrans HG.out HGR.out⟩
      by_cases h2 : s k > 1320
      · have HV := Lib.hid (sk_m s k hlt (by omega))
        clear hj
        go_wp2
        go_ret
        exact ⟨reti HV.out.symm, gtrans HG.out HGR.out⟩
      have HJ : Hid (∀ j, j < k + 1 → 900 ≤ s j ∧ s j ≤ 1320) := Lib.hid (fun j h => by
        by_cases e : j = k
        · rw [e]; omega
        · exact hj j (by omega))
      clear hj
      go_wp2
      go_roundw
      case rel => exact ⟨k + 1, by omega, by go_num, HJ.out, HGR.out⟩
      case measure => simp [intOf]; omega
    · obtain rfl : k = 12 := by omega
      have HM : Hid (okM s) := Lib.hid hj
      clear hj hlt hk
      go_wp2
      go_loopw [4] (fun i w2 => FRel s wr i w2) (fun i _ => 12 - (intOf i).toNat)
      case atStart => exact ⟨0, by omega, rfl, by omega, Later.refl _⟩
      case round =>
        obtain ⟨k, hk, rfl, hj, hg⟩ := hrel
        have HG2 := Lib.hid (gtrans HGR.out hg)
        have HG3 := Lib.hid hg
        clear hg
        by_cases hlt : k < 12
        · have b0 := HM.out k hlt
          have b1 := HM.out ((k + 1) % 12) (by omega)
          have c0 := HN.out.later HG2.out k hlt
          obtain ⟨j, hjd⟩ : ∃ j, j = (k + 1) % 12 := ⟨_, rfl⟩
          have j12 : j < 12 := by omega
          have c1 := HN.out.later HG2.out j j12
          have HJD := Lib.hid hjd
          have e1 : IntKind.i64.wrap ((k : Int) + 1) = (k : Int) + 1 := IntWalk.i64_in _ (by omega)
          have e2 : ((k : Int) + 1).tmod 12 = (j : Int) := by rw [Int.tmod_eq_emod_of_nonneg (by omega)]; omega
          have e3 : IntKind.i64.wrap (s j - s k) = s j - s k := by rw [hjd]; exact IntWalk.i64_in _ (by omega)
          clear hjd b0 b1
          go_wp2
          go_quiet (fail)
          clear c0 c1 e1 e2 e3
          have hjd := HJD.out
          subst hjd
          generalize hx : s ((k + 1) % 12) - s k = x at *
          by_cases h1 : x > 120
          · have HV := Lib.hid (sk_s s k hlt HM.out (by omega))
            clear hj
            go_wp2
            go_ret
            exact ⟨reti HV.out.symm, gtrans HG.out HG2.out⟩
          by_cases h2 : x < -120
          · have HV := Lib.hid (sk_s s k hlt HM.out (by omega))
            clear hj
            go_wp2
            go_ret
            exact ⟨reti HV.out.symm, gtrans HG.out HG2.out⟩
          have HJ : Hid (∀ j, j < k + 1 → -120 ≤ s ((j + 1) % 12) - s j ∧ s ((j + 1) % 12) - s j ≤ 120) := Lib.hid (fun j h => by
            by_cases e : j = k
            · rw [e]; omega
            · exact hj j (by omega))
          clear hj
          go_wp2
          go_roundw
          case rel => exact ⟨k + 1, by omega, by go_num, HJ.out, HG3.out⟩
          case measure => simp [intOf]; omega
        · obtain rfl : k = 12 := by omega
          have HV := Lib.hid ((sk_ok s).2 ⟨HM.out, hj⟩)
          clear hj hlt hk
          go_wp2
          go_ret
          exact ⟨reti HV.out.symm, gtrans HG.out HG2.out⟩

set_option maxHeartbeats 1000000 in
theorem rat_any (s : Nat → Int) (n : Int) (w : World) (h : sk s = 0) (h1 : 1 ≤ n) (h2 : n ≤ 3652059) : Calls Tryz.prog 100 #[.agg (sc s), .int .i64 n] w fun e w' => e = .returned (.int .i64 (sa s n)) ∧ Later w w' := by
  have O := Lib.hid (fun W => Greg.rof_any n W h1 h2)
  have hd := date_bd n h1 h2
  have hb := gone_bd s n h h1 h2
  have D := Lib.hid (fun W => same_g (Greg.rdays_any (yr n) (om n) W))
  have V := Lib.hid (fun W => drew_g (rdiv_any ((tb s n - ta s n) * (od n - 1)) (dm (yr n) (om n)) W (by omega) (by omega) (by omega) (by omega)))
  have HV : Hid (sa s n = ta s n + (tb s n - ta s n) * (od n - 1) / dm (yr n) (om n)) := Lib.hid rfl
  have hsa := sa_bd s n h h1 h2
  unfold sa at hsa
  have HN := Lib.hid (Sat.new w s)
  obtain ⟨a0, a1, b0, b1, _, _, o0, o1, _, _, p0, p1⟩ := hb
  obtain ⟨_, _, m0, m1, _, _⟩ := hd
  clear h h1 h2
  have HW := Lib.hid ((Later.refl w).alloc (sc s) 30)
  unfold sc at *
  go_enter Tryz.func100, Tryz.ntmps100
  go_wp2_with fail
  refine (O.out _).mono ?_
  rintro e w2 ⟨rfl, hg2⟩
  have HG2 := Lib.hid hg2
  clear hg2
  have x0 : (w2.alloc (.cells #[.int .i64 (yr n), .int .i64 (om n), .int .i64 (od n)] 63)).cell? ⟨w.heap.size, (om n).toNat - 1, none⟩ = some (.int .i64 (ta s n)) := (HN.out.later (HG2.out.alloc _ _)) _ (by omega)
  have x1 : (w2.alloc (.cells #[.int .i64 (yr n), .int .i64 (om n), .int .i64 (od n)] 63)).cell? ⟨w.heap.size, (om n % 12).toNat, none⟩ = some (.int .i64 (tb s n)) := by
    rw [show (om n % 12).toNat = (om n).toNat % 12 by omega]
    exact (HN.out.later (HG2.out.alloc _ _)) _ (by omega)
  go_wp2_with fail
  clear x0 x1
  have d0 := gw_cell (date_cell w2 (yr n) (om n) (od n)).1
  have d1 := gw_cell (date_cell w2 (yr n) (om n) (od n)).2.1
  have d2 := gw_cell (date_cell w2 (yr n) (om n) (od n)).2.2
  have e1 : IntKind.i64.wrap (tb s n - ta s n) = tb s n - ta s n := IntWalk.i64_in _ (by omega)
  have e2 : IntKind.i64.wrap (od n - 1) = od n - 1 := IntWalk.i64_in _ (by omega)
  have e3 : IntKind.i64.wrap ((tb s n - ta s n) * (od n - 1)) = (tb s n - ta s n) * (od n - 1) := IntWalk.i64_in _ (by omega)
  have e4 : IntKind.i64.wrap (ta s n + (tb s n - ta s n) * (od n - 1) / dm (yr n) (om n)) = ta s n + (tb s n - ta s n) * (od n - 1) / dm (yr n) (om n) := IntWalk.i64_in _ (by omega)
  refine region_grown (by kernel_rfl) (by kernel_rfl) ?_
  repeat (go_big_quiet_step (first | (go_at_call 73; exact in_grown (D.out _)) | (go_at_call 46; exact in_grown (V.out _))))
  refine wpQuiet_nil (grown_end ?_)
  intro w4 hg4
  clear d0 d1 d2 e1 e2 e3 e4
  go_wp2_with fail
  go_ret
  exact ⟨reti HV.out.symm, gtrans HW.out (gtrans (HG2.out.alloc _ _) hg4)⟩

set_option maxHeartbeats 1000000 in
theorem rmoment_zone (z : Zn) (s : Nat → Int) (n : Int) (w : World) (h : ¬ ck z = 0) : Calls Tryz.prog 64 #[.agg (zc z), .agg (sc s), .int .i64 n] w fun e w' => e = .returned (.tuple #[.int .i64 (mV z s n), .int .i64 (mE z s n)]) ∧ Later w w' := by
  have C := Lib.hid (fun W => Zone.rcheck_any z W)
  have S := Lib.hid (fun W => rcheck_tab s W)
  have e0 : (ck z != 0) = true := by simpa using h
  have hE : mE z s n = ck z := by unfold mE; rw [if_neg h]
  have HE := Lib.hid hE
  have HV := Lib.hid (show mV z s n = 0 by unfold mV; rw [if_neg (by rw [hE]; exact h)])
  clear h hE
  have HT := Lib.hid (two_tab w z s)
  have HZ := Lib.hid (two_zone w z s)
  have HG0 := Lib.hid (((Later.refl w).alloc (zc z) 28).alloc (sc s) 30)
  unfold zc sc at *
  go_enter Tryz.func64, Tryz.ntmps64
  go_wp2_with fail
  refine (C.out _).mono ?_
  rintro e w1 ⟨rfl, hg1⟩
  have HG1 := Lib.hid hg1
  clear hg1
  go_wp2_with fail
  go_ret2
  exact ⟨ret2 HV.out.symm HE.out.symm, gtrans HG0.out HG1.out⟩

set_option maxHeartbeats 1000000 in
theorem rmoment_tab (z : Zn) (s : Nat → Int) (n : Int) (w : World) (h : ck z = 0) (ha : ¬ sk s = 0) : Calls Tryz.prog 64 #[.agg (zc z), .agg (sc s), .int .i64 n] w fun e w' => e = .returned (.tuple #[.int .i64 (mV z s n), .int .i64 (mE z s n)]) ∧ Later w w' := by
  have C := Lib.hid (fun W => Zone.rcheck_any z W)
  have S := Lib.hid (fun W => rcheck_tab s W)
  have e0 : (ck z != 0) = false := by simpa using h
  have e1 : (sk s != 0) = true := by simpa using ha
  have hE : mE z s n = sk s := by unfold mE; rw [if_pos h, if_neg ha]
  have HE := Lib.hid hE
  have HV := Lib.hid (show mV z s n = 0 by unfold mV; rw [if_neg (by rw [hE]; exact ha)])
  clear h hE ha
  have HT := Lib.hid (two_tab w z s)
  have HZ := Lib.hid (two_zone w z s)
  have HG0 := Lib.hid (((Later.refl w).alloc (zc z) 28).alloc (sc s) 30)
  unfold zc sc at *
  go_enter Tryz.func64, Tryz.ntmps64
  go_wp2_with fail
  refine (C.out _).mono ?_
  rintro e w1 ⟨rfl, hg1⟩
  have HG1 := Lib.hid hg1
  clear hg1
  obtain ⟨k0, k1, k2, k3, k4, k5, k6, k7, k8, k9, k10, k11⟩ := (HT.out.later HG1.out).all
  go_wp2_with fail
  refine (S.out _).mono ?_
  rintro e w2 ⟨rfl, hg2⟩
  clear k0 k1 k2 k3 k4 k5 k6 k7 k8 k9 k10 k11
  have HG2 := Lib.hid (gtrans HG1.out hg2)
  clear hg2
  go_wp2_with fail
  go_ret2
  exact ⟨ret2 HV.out.symm HE.out.symm, gtrans HG0.out HG2.out⟩

set_option maxHeartbeats 1000000 in
theorem rmoment_low (z : Zn) (s : Nat → Int) (n : Int) (w : World) (h : ck z = 0) (ha : sk s = 0) (hn : n < 401) : Calls Tryz.prog 64 #[.agg (zc z), .agg (sc s), .int .i64 n] w fun e w' => e = .returned (.tuple #[.int .i64 (mV z s n), .int .i64 (mE z s n)]) ∧ Later w w' := by
  have C := Lib.hid (fun W => Zone.rcheck_any z W)
  have S := Lib.hid (fun W => rcheck_tab s W)
  have e0 : (ck z != 0) = false := by simpa using h
  have e1 : (sk s != 0) = false := by simpa using ha
  have e2 : decide (n < 401) = true := by simpa using hn
  have hE : mE z s n = 72 := by
    unfold mE; rw [if_pos h, if_pos ha, if_neg (by omega)]
  have HE := Lib.hid hE
  have HV := Lib.hid (show mV z s n = 0 by unfold mV; rw [if_neg (by rw [hE]; omega)])
  clear h hE ha hn
  have HT := Lib.hid (two_tab w z s)
  have HZ := Lib.hid (two_zone w z s)
  have HG0 := Lib.hid (((Later.refl w).alloc (zc z) 28).alloc (sc s) 30)
  unfold zc sc at *
  go_enter Tryz.func64, Tryz.ntmps64
  go_wp2_with fail
  refine (C.out _).mono ?_
  rintro e w1 ⟨rfl, hg1⟩
  have HG1 := Lib.hid hg1
  clear hg1
  obtain ⟨k0, k1, k2, k3, k4, k5, k6, k7, k8, k9, k10, k11⟩ := (HT.out.later HG1.out).all
  go_wp2_with fail
  refine (S.out _).mono ?_
  rintro e w2 ⟨rfl, hg2⟩
  clear k0 k1 k2 k3 k4 k5 k6 k7 k8 k9 k10 k11
  have HG2 := Lib.hid (gtrans HG1.out hg2)
  clear hg2
  go_wp2_with fail
  go_ret2
  exact ⟨ret2 HV.out.symm HE.out.symm, gtrans HG0.out HG2.out⟩

set_option maxHeartbeats 1000000 in
theorem rmoment_high (z : Zn) (s : Nat → Int) (n : Int) (w : World) (h : ck z = 0) (ha : sk s = 0) (hn : n > 3651998) : Calls Tryz.prog 64 #[.agg (zc z), .agg (sc s), .int .i64 n] w fun e w' => e = .returned (.tuple #[.int .i64 (mV z s n), .int .i64 (mE z s n)]) ∧ Later w w' := by
  have C := Lib.hid (fun W => Zone.rcheck_any z W)
  have S := Lib.hid (fun W => rcheck_tab s W)
  have e0 : (ck z != 0) = false := by simpa using h
  have e1 : (sk s != 0) = false := by simpa using ha
  have e2 : decide (n < 401) = false := by simp; omega
  have e3 : decide (n > 3651998) = true := by simpa using hn
  have hE : mE z s n = 72 := by
    unfold mE; rw [if_pos h, if_pos ha, if_neg (by omega)]
  have HE := Lib.hid hE
  have HV := Lib.hid (show mV z s n = 0 by unfold mV; rw [if_neg (by rw [hE]; omega)])
  clear h hE ha hn
  have HT := Lib.hid (two_tab w z s)
  have HZ := Lib.hid (two_zone w z s)
  have HG0 := Lib.hid (((Later.refl w).alloc (zc z) 28).alloc (sc s) 30)
  unfold zc sc at *
  go_enter Tryz.func64, Tryz.ntmps64
  go_wp2_with fail
  refine (C.out _).mono ?_
  rintro e w1 ⟨rfl, hg1⟩
  have HG1 := Lib.hid hg1
  clear hg1
  obtain ⟨k0, k1, k2, k3, k4, k5, k6, k7, k8, k9, k10, k11⟩ := (HT.out.later HG1.out).all
  go_wp2_with fail
  refine (S.out _).mono ?_
  rintro e w2 ⟨rfl, hg2⟩
  clear k0 k1 k2 k3 k4 k5 k6 k7 k8 k9 k10 k11
  have HG2 := Lib.hid (gtrans HG1.out hg2)
  clear hg2
  go_wp2_with fail
  go_ret2
  exact ⟨ret2 HV.out.symm HE.out.symm, gtrans HG0.out HG2.out⟩

set_option maxHeartbeats 1000000 in
theorem rmoment_yes (z : Zn) (s : Nat → Int) (n : Int) (w : World) (h : ck z = 0) (ha : sk s = 0) (hn0 : 401 ≤ n) (hn1 : n ≤ 3651998) : Calls Tryz.prog 64 #[.agg (zc z), .agg (sc s), .int .i64 n] w fun e w' => e = .returned (.tuple #[.int .i64 (mV z s n), .int .i64 (mE z s n)]) ∧ Later w w' := by
  have C := Lib.hid (fun W => Zone.rcheck_any z W)
  have S := Lib.hid (fun W => rcheck_tab s W)
  have A := Lib.hid (fun W => rat_any s n W ha (by omega) (by omega))
  have e0 : (ck z != 0) = false := by simpa using h
  have e1 : (sk s != 0) = false := by simpa using ha
  have e2 : decide (n < 401) = false := by simp; omega
  have e3 : decide (n > 3651998) = false := by simp; omega
  have hE : mE z s n = 0 := (mE_ok z s n).2 ⟨h, ha, hn0, hn1⟩
  have HE := Lib.hid hE
  have hb := sa_bd s n ha (by omega) (by omega)
  have hz := (ck_may z).1 h
  unfold May at hz
  obtain ⟨z0, z1, _⟩ := hz
  have HV : Hid (mV z s n = n * 1440 + sa s n - z.b) := Lib.hid (by unfold mV; rw [if_pos hE])
  have q1 := Lib.hid (show IntKind.i64.wrap (n * 1440) = n * 1440 from IntWalk.i64_in _ (by omega))
  have q2 := Lib.hid (show IntKind.i64.wrap (n * 1440 + sa s n) = n * 1440 + sa s n from IntWalk.i64_in _ (by omega))
  have q3 := Lib.hid (show IntKind.i64.wrap (n * 1440 + sa s n - z.b) = n * 1440 + sa s n - z.b from IntWalk.i64_in _ (by omega))
  clear h hE ha
  have HT := Lib.hid (two_tab w z s)
  have HZ := Lib.hid (two_zone w z s)
  have HG0 := Lib.hid (((Later.refl w).alloc (zc z) 28).alloc (sc s) 30)
  unfold zc sc at *
  go_enter Tryz.func64, Tryz.ntmps64
  go_wp2_with fail
  refine (C.out _).mono ?_
  rintro e w1 ⟨rfl, hg1⟩
  have HG1 := Lib.hid hg1
  clear hg1
  obtain ⟨k0, k1, k2, k3, k4, k5, k6, k7, k8, k9, k10, k11⟩ := (HT.out.later HG1.out).all
  go_wp2_with fail
  refine (S.out _).mono ?_
  rintro e w2 ⟨rfl, hg2⟩
  clear k0 k1 k2 k3 k4 k5 k6 k7 k8 k9 k10 k11
  have HG2 := Lib.hid (gtrans HG1.out hg2)
  clear hg2
  go_wp2_with fail
  obtain ⟨k0, k1, k2, k3, k4, k5, k6, k7, k8, k9, k10, k11⟩ := (HT.out.later HG2.out).all
  obtain ⟨j0, _⟩ := HZ.out.later HG2.out
  have x0 := gw_cell k0
  have x1 := gw_cell k1
  have x2 := gw_cell k2
  have x3 := gw_cell k3
  have x4 := gw_cell k4
  have x5 := gw_cell k5
  have x6 := gw_cell k6
  have x7 := gw_cell k7
  have x8 := gw_cell k8
  have x9 := gw_cell k9
  have x10 := gw_cell k10
  have x11 := gw_cell k11
  have y0 := gw_cell j0
  clear k0 k1 k2 k3 k4 k5 k6 k7 k8 k9 k10 k11 j0
  have f1 := q1.out
  have f2 := q2.out
  have f3 := q3.out
  refine region_grown (by kernel_rfl) (by kernel_rfl) ?_
  repeat (go_big_quiet_step ((go_at_call 100; exact in_grown (A.out _))))
  refine wpQuiet_nil (grown_end ?_)
  intro w3 hg3
  clear x0 x1 x2 x3 x4 x5 x6 x7 x8 x9 x10 x11 y0 f1 f2 f3
  go_wp2_with fail
  go_ret2
  exact ⟨ret2 HV.out.symm HE.out.symm, gtrans HG0.out (gtrans HG2.out hg3)⟩

theorem rmoment_any (z : Zn) (s : Nat → Int) (n : Int) (w : World) : Calls Tryz.prog 64 #[.agg (zc z), .agg (sc s), .int .i64 n] w fun e w' => e = .returned (.tuple #[.int .i64 (mV z s n), .int .i64 (mE z s n)]) ∧ Later w w' := by
  by_cases h : ck z = 0
  · by_cases ha : sk s = 0
    · by_cases h0 : n < 401
      · exact rmoment_low z s n w h ha h0
      by_cases h1 : n > 3651998
      · exact rmoment_high z s n w h ha h1
      exact rmoment_yes z s n w h ha (by omega) (by omega)
    · exact rmoment_tab z s n w h ha
  · exact rmoment_zone z s n w h

end Go.Proofs.YtihdijkplmfhfaaGreatDoor.Sun

/- Whether a window, and the times of a configuration, may be, by the reckoning. No condition. -/
namespace Go.Proofs.YtihdijkplmfhfaaGreatDoor.Conf
set_option maxRecDepth 100000
open Go.ChangeShapes Go.WideShapes Go.ChangeAt Go.RowKit
open Go.Proofs.YtihdijkplmfhfaaGreatDoor.Divs Go.Proofs.YtihdijkplmfhfaaGreatDoor.Grow Go.Proofs.YtihdijkplmfhfaaGreatDoor.Zone
open Go.Proofs.YtihdijkplmfhfaaGreatDoor.By (Sk SL)
open Go.Proofs.YtihdijkplmfhfaaGreatDoor.Each
open Go.Proofs.YtihdijkplmfhfaaGreatDoor.Zo Go.Proofs.YtihdijkplmfhfaaGreatDoor.Su Go.Proofs.YtihdijkplmfhfaaGreatDoor.Cf

def tmB (x : Wn) : Bool := decide (0 ≤ x.u ∧ x.u ≤ 1439 ∧ 1 ≤ x.l ∧ x.l ≤ 10080)

theorem tmB_iff (x : Wn) : tmB x = true ↔ 0 ≤ x.u ∧ x.u ≤ 1439 ∧ 1 ≤ x.l ∧ x.l ≤ 10080 := by simp [tmB]

set_option maxHeartbeats 2000000 in
theorem wo_iff (x : Wn) : wo x = true ↔ (0 ≤ x.m ∧ x.m ≤ 5 ∧ 0 ≤ x.p ∧ x.p ≤ 99) ∧ ((x.k = 1 ∧ tmB x = true ∧ 1 ≤ x.a ∧ x.a ≤ 127 ∧ x.h = 0) ∨ (x.k = 2 ∧ tmB x = true ∧ 401 ≤ x.a ∧ x.a ≤ 3651998 ∧ x.h = 0) ∨ (x.k = 3 ∧ tmB x = true ∧ 1 ≤ x.a ∧ x.a ≤ 7 ∧ -7 ≤ x.h ∧ x.h ≤ 7) ∨ (x.k = 4 ∧ x.a = 0 ∧ x.h = 0 ∧ 0 ≤ x.u ∧ x.u ≤ 180 ∧ 0 ≤ x.l ∧ x.l ≤ 180)) := by
  unfold wo kn al ru
  rw [tmB_iff]
  simp only [Bool.and_eq_true, bt_iff]
  by_cases h1 : x.k = 1
  · simp [h1]
    exact ⟨fun ⟨⟨a, b⟩, ⟨c, d⟩, ⟨e, f⟩, ⟨g, h⟩, ⟨i, j⟩, k, l⟩ => ⟨⟨a, b, c, d⟩, ⟨i, j, k, l⟩, e, f, by omega⟩, fun ⟨⟨a, b, c, d⟩, ⟨i, j, k, l⟩, e, f, g⟩ => ⟨⟨a, b⟩, ⟨c, d⟩, ⟨e, f⟩, by omega, ⟨i, j⟩, k, l⟩⟩
  by_cases h2 : x.k = 2
  · simp [h2]
    exact ⟨fun ⟨⟨a, b⟩, ⟨c, d⟩, ⟨e, f⟩, ⟨g, h⟩, ⟨i, j⟩, k, l⟩ => ⟨⟨a, b, c, d⟩, ⟨i, j, k, l⟩, e, f, by omega⟩, fun ⟨⟨a, b, c, d⟩, ⟨i, j, k, l⟩, e, f, g⟩ => ⟨⟨a, b⟩, ⟨c, d⟩, ⟨e, f⟩, by omega, ⟨i, j⟩, k, l⟩⟩
  by_cases h3 : x.k = 3
  · simp [h3]
    exact ⟨fun ⟨⟨a, b⟩, ⟨c, d⟩, ⟨e, f⟩, ⟨g, h⟩, ⟨i, j⟩, k, l⟩ => ⟨⟨a, b, c, d⟩, ⟨i, j, k, l⟩, e, f, g, h⟩, fun ⟨⟨a, b, c, d⟩, ⟨i, j, k, l⟩, e, f, g, h⟩ => ⟨⟨a, b⟩, ⟨c, d⟩, ⟨e, f⟩, ⟨g, h⟩, ⟨i, j⟩, k, l⟩⟩
  by_cases h4 : x.k = 4
  · simp [h4]
    exact ⟨fun ⟨⟨a, b⟩, ⟨c, d⟩, ⟨e, f⟩, ⟨g, h⟩, ⟨i, j⟩, k, l⟩ => ⟨⟨a, b, c, d⟩, by omega, by omega, i, j, k, l⟩, fun ⟨⟨a, b, c, d⟩, e, g, i, j, k, l⟩ => ⟨⟨a, b⟩, ⟨c, d⟩, by omega, by omega, ⟨i, j⟩, k, l⟩⟩
  · constructor
    · rintro ⟨h, _⟩
      exfalso
      omega
    · rintro ⟨_, h⟩
      rcases h with ⟨h, _⟩ | ⟨h, _⟩ | ⟨h, _⟩ | ⟨h, _⟩
      · exact absurd h h1
      · exact absurd h h2
      · exact absurd h h3
      · exact absurd h h4

theorem timed_any (x : Wn) (w : World) : Calls Tryz.prog 60 #[.agg (wc x).toArray] w fun e w' => e = .returned (.bool (tmB x)) ∧ Later w w' := by
  have HV := Lib.hid (tmB_iff x)
  have HL := Lib.hid ((Later.refl w).alloc (wc x).toArray 65)
  unfold wc at *
  go_enter Tryz.func60, Tryz.ntmps60
  go_wp2
  all_goals
    go_ret
    refine ⟨retb ?_, HL.out⟩
    rw [Bool.eq_iff_iff, HV.out]
    simp
    omega

set_option maxHeartbeats 4000000 in
theorem rwindow_any (x : Wn) (w : World) : Calls Tryz.prog 36 #[.agg (wc x).toArray] w fun e w' => e = .returned (.bool (wo x)) ∧ Later w w' := by
  have HV := Lib.hid (wo_iff x)
  have K := Lib.hid (fun W => timed_any x W)
  have HL := Lib.hid ((Later.refl w).alloc (wc x).toArray 65)
  have HA := Lib.hid (At.new w (wc x).toArray 65)
  unfold wc at *
  by_cases hm : 0 ≤ x.m ∧ x.m ≤ 5 ∧ 0 ≤ x.p ∧ x.p ≤ 99
  · obtain ⟨m0, m1, p0, p1⟩ := hm
    have HP : Hid (0 ≤ x.m ∧ x.m ≤ 5 ∧ 0 ≤ x.p ∧ x.p ≤ 99) := Lib.hid ⟨m0, m1, p0, p1⟩
    have t1 : decide (x.m < 0) = false := by simp; omega
    have t2 : decide (x.m > 5) = false := by simp; omega
    have t3 : decide (x.p < 0) = false := by simp; omega
    have t4 : decide (x.p > 99) = false := by simp; omega
    clear m0 m1 p0 p1
    go_enter Tryz.func36, Tryz.ntmps36
    go_wp2_with fail
    refine (K.out _).mono ?_
    rintro e w1 ⟨rfl, hg1⟩
    have hA := HA.out.later hg1
    have HG := Lib.hid (gtrans HL.out hg1)
    have c0 := hA 0 _ rfl
    have c3 := hA 3 _ rfl
    have c4 := hA 4 _ rfl
    have c5 := hA 5 _ rfl
    have c6 := hA 6 _ rfl
    simp at c0 c3 c4 c5 c6
    clear hA hg1 t1 t2 t3 t4
    obtain ⟨b, hb⟩ : ∃ b, tmB x = b := ⟨_, rfl⟩
    rw [hb]
    have HB := Lib.hid hb
    clear hb
    have HW : Hid (wo x = ((x.k == 1 && (b && (decide (1 ≤ x.a) && (decide (x.a ≤ 127) && x.h == 0)))) || ((x.k == 2 && (b && (decide (401 ≤ x.a) && (decide (x.a ≤ 3651998) && x.h == 0)))) || ((x.k == 3 && (b && (decide (1 ≤ x.a) && (decide (x.a ≤ 7) && (decide (-7 ≤ x.h) && decide (x.h ≤ 7)))))) || (x.k == 4 && (x.a == 0 && (x.h == 0 && (decide (0 ≤ x.u) && (decide (x.u ≤ 180) && (decide (0 ≤ x.l) && decide (x.l ≤ 180))))))))))) := Lib.hid (by
      rw [Bool.eq_iff_iff, HV.out, HB.out]
      have := HP.out
      simp only [Bool.or_eq_true, Bool.and_eq_true, decide_eq_true_eq, beq_iff_eq]
      simp only [this.1, this.2.1, this.2.2.1, this.2.2.2, true_and, and_true])
    go_wp2
    all_goals
      go_ret
      refine ⟨retb ?_, HG.out⟩
      rw [HW.out]
      first | (simp_all; done) | (simp_all; omega)
  · have HW : Hid (wo x = false) := Lib.hid (by
      cases e : wo x with
      | false => rfl
      | true => exact absurd ((wo_iff x).1 e).1 hm)
    have HM := Lib.hid hm
    clear hm
    go_enter Tryz.func36, Tryz.ntmps36
    go_wp2_with fail
    all_goals first
      | (go_ret; exact ⟨retb HW.out.symm, HL.out⟩)
      | (exfalso; have := HM.out; omega)

end Go.Proofs.YtihdijkplmfhfaaGreatDoor.Conf

/- Plain facts on windows' spans, in whole numbers: on which days they begin, from when up to when they are; the sunset's bounds; the last one of days of rest that touch. No condition but those that each theorem states. -/
namespace Go.Proofs.YtihdijkplmfhfaaGreatDoor.Win
set_option maxRecDepth 100000
open Go.Proofs.YtihdijkplmfhfaaGreatDoor.Cal (dm yr om od)
open Go.Proofs.YtihdijkplmfhfaaGreatDoor.Zo
open Go.Proofs.YtihdijkplmfhfaaGreatDoor.Su (okM sk sk_ok sa ta tb date_bd)
open Go.Proofs.YtihdijkplmfhfaaGreatDoor.Fe (kd rst no_four)
open Go.Proofs.YtihdijkplmfhfaaGreatDoor.Feast (Row row_len)
open Go.Proofs.YtihdijkplmfhfaaGreatDoor.Cf (Cg Wn ce wo)

/-- A sunset lies within the table's bounds. -/
theorem sa_in (s : Nat → Int) (n : Int) (h : sk s = 0) (h1 : 1 ≤ n) (h2 : n ≤ 3652059) : 900 ≤ sa s n ∧ sa s n ≤ 1320 := by
  obtain ⟨hm, _⟩ := (sk_ok s).1 h
  obtain ⟨a, b, c, d, e, f⟩ := date_bd n h1 h2
  have g := Cal.dm_bd (yr n) (om n) a b c d
  have i0 := hm ((om n).toNat - 1) (by omega)
  have i1 := hm ((om n).toNat % 12) (by omega)
  unfold sa ta tb
  generalize s ((om n).toNat % 12) = y at *
  generalize s ((om n).toNat - 1) = x at *
  generalize ho : od n - 1 = o at *
  generalize dm (yr n) (om n) = q at *
  have o0 : 0 ≤ o := by omega
  have o1 : o ≤ q := by omega
  clear h hm a b c d e f ho
  by_cases hxy : x ≤ y
  · have p0 : 0 ≤ (y - x) * o := Int.mul_nonneg (by omega) o0
    have p1 : (y - x) * o ≤ (y - x) * q := Int.mul_le_mul_of_nonneg_left o1 (by omega)
    have q0 : 0 ≤ (y - x) * o / q := Int.ediv_nonneg p0 (by omega)
    have q1 : (y - x) * o / q ≤ y - x := by
      have : (y - x) * o / q ≤ (y - x) * q / q := Int.ediv_le_ediv (by omega) p1
      rwa [Int.mul_ediv_cancel _ (by omega)] at this
    omega
  · have p0 : (y - x) * o ≤ 0 := Int.mul_nonpos_of_nonpos_of_nonneg (by omega) o0
    have p1 : (y - x) * q ≤ (y - x) * o := Int.mul_le_mul_of_nonpos_left (by omega) o1
    have q0 : (y - x) * o / q ≤ 0 := by
      have : (y - x) * o / q ≤ 0 / q := Int.ediv_le_ediv (by omega) p0
      simpa using this
    have q1 : y - x ≤ (y - x) * o / q := by
      have : (y - x) * q / q ≤ (y - x) * o / q := Int.ediv_le_ediv (by omega) p1
      rwa [Int.mul_ediv_cancel _ (by omega)] at this
    omega

/-- The last one of days of rest that touch, from the first one. -/
noncomputable def rl (ab : Bool) (n : Int) : Int := if rst ab (n + 1) = true then (if rst ab (n + 2) = true then n + 2 else n + 1) else n

theorem rl_row (ab : Bool) (n : Int) (h : rst ab n = true) (h' : rst ab (n - 1) = false) : Row ab n n (rl ab n) := by
  unfold rl
  cases h1 : rst ab (n + 1)
  · exact ⟨by omega, by simp, fun d d0 d1 => by rw [show d = n by simp at d1; omega]; exact h, h', by simpa using h1⟩
  · cases h2 : rst ab (n + 2)
    · refine ⟨by omega, by simp; omega, fun d d0 d1 => ?_, h', by simp; rw [show n + 1 + 1 = n + 2 by omega]; exact h2⟩
      simp at d1
      rcases (show d = n ∨ d = n + 1 by omega) with rfl | rfl <;> assumption
    · refine ⟨by omega, by simp; omega, fun d d0 d1 => ?_, h', ?_⟩
      · simp at d1
        rcases (show d = n ∨ d = n + 1 ∨ d = n + 2 by omega) with rfl | rfl | rfl <;> assumption
      · cases h3 : rst ab (n + 3)
        · simp; rw [show n + 2 + 1 = n + 3 by omega]; exact h3
        · exact (no_four ab n h h1 h2 h3).elim

theorem rl_bd (ab : Bool) (n : Int) : n ≤ rl ab n ∧ rl ab n ≤ n + 2 := by
  unfold rl
  split
  · split <;> omega
  · omega

/-- Is a weekday's bit set? -/
def bit (a d : Int) : Bool := a / 2 ^ (d % 7).toNat % 2 == 1

/-- Does a window begin on a day? -/
noncomputable def beg (c : Cg) (x : Wn) (d : Int) : Bool := if x.k = 1 then bit x.a d else if x.k = 2 then d == x.a else if x.k = 3 then kd c.ab (d - x.h) == x.a else (!rst c.ab d && rst c.ab (d + 1))

/-- From when it is, and up to when. -/
def fr (c : Cg) (x : Wn) (d : Int) : Int := if x.k = 4 then d * 1440 + sa c.s d - c.z.b - x.u else mv c.z (d * 1440 + x.u)
noncomputable def tt (c : Cg) (x : Wn) (d : Int) : Int := if x.k = 4 then rl c.ab (d + 1) * 1440 + sa c.s (rl c.ab (d + 1)) - c.z.b + x.l else mv c.z (d * 1440 + x.u) + x.l

/-- The error of a window's day, or 0. -/
def pE (c : Cg) (x : Wn) (d : Int) : Int := if ce c = 0 then (if wo x = true then (if 402 ≤ d ∧ d ≤ 3651990 then 0 else 140) else 104) else ce c

/-- Does it begin there, if it may be asked? -/
noncomputable def pB (c : Cg) (x : Wn) (d : Int) : Bool := pE c x d == 0 && beg c x d

theorem pE_ok (c : Cg) (x : Wn) (d : Int) : pE c x d = 0 ↔ ce c = 0 ∧ wo x = true ∧ 402 ≤ d ∧ d ≤ 3651990 := by
  unfold pE
  by_cases h : ce c = 0
  · rw [if_pos h]
    by_cases g : wo x = true
    · rw [if_pos g]; split <;> simp_all
    · rw [if_neg g]; simp_all
  · rw [if_neg h]; simp_all

theorem pB_iff (c : Cg) (x : Wn) (d : Int) : pB c x d = true ↔ pE c x d = 0 ∧ beg c x d = true := by simp [pB]

/-- The span, or a zero one. -/
noncomputable def pF (c : Cg) (x : Wn) (d : Int) : Int := if pB c x d = true then fr c x d else 0
noncomputable def pT (c : Cg) (x : Wn) (d : Int) : Int := if pB c x d = true then tt c x d else 0
noncomputable def pM (c : Cg) (x : Wn) (d : Int) : Int := if pB c x d = true then x.m else 0
noncomputable def pP (c : Cg) (x : Wn) (d : Int) : Int := if pB c x d = true then x.p else 0

theorem ce_parts (c : Cg) (h : ce c = 0) : May c.z ∧ sk c.s = 0 := by
  rw [← ck_may]
  unfold ce at h
  by_cases h1 : Cf.so c = true
  · rw [if_pos h1] at h
    by_cases h2 : Cf.to c = true
    · rw [if_pos h2] at h
      by_cases h3 : Cf.ti c = true
      · rw [if_pos h3] at h
        by_cases h4 : ck c.z = 0
        · rw [if_pos h4] at h
          by_cases h5 : sk c.s = 0
          · exact ⟨h4, h5⟩
          · rw [if_neg h5] at h; exact absurd h h5
        · rw [if_neg h4] at h; exact absurd h h4
      · rw [if_neg h3] at h; omega
    · rw [if_neg h2] at h; omega
  · rw [if_neg h1] at h; omega

theorem beg_rest (c : Cg) (x : Wn) (d : Int) (h : x.k = 4) : beg c x d = (!rst c.ab d && rst c.ab (d + 1)) := by unfold beg; rw [h]; simp

/-- A window about days of rest that begins on a day: its row of days of rest, and its bounds. -/
theorem rest_span (c : Cg) (x : Wn) (d : Int) (h : pB c x d = true) (hk : x.k = 4) :
    ∃ b, Row c.ab (d + 1) (d + 1) b ∧ rst c.ab d = false ∧ d + 1 ≤ b ∧ b ≤ d + 3 ∧ 402 ≤ d ∧ d ≤ 3651990 ∧
      ∃ s e : Int, 900 ≤ s ∧ s ≤ 1320 ∧ 900 ≤ e ∧ e ≤ 1320 ∧ 0 ≤ x.u ∧ x.u ≤ 180 ∧ 0 ≤ x.l ∧ x.l ≤ 180 ∧ fr c x d = d * 1440 + s - c.z.b - x.u ∧ tt c x d = b * 1440 + e - c.z.b + x.l := by
  obtain ⟨h0, h1⟩ := (pB_iff c x d).1 h
  obtain ⟨a, b, d0, d1⟩ := (pE_ok c x d).1 h0
  obtain ⟨hz, hs⟩ := ce_parts c a
  rw [beg_rest c x d hk] at h1
  simp only [Bool.and_eq_true, Bool.not_eq_true'] at h1
  have hb := rl_bd c.ab (d + 1)
  have hw := (Conf.wo_iff x).1 b
  refine ⟨rl c.ab (d + 1), rl_row _ _ h1.2 (by rw [show d + 1 - 1 = d by omega]; exact h1.1), h1.1, by omega, by omega, d0, d1, sa c.s d, sa c.s (rl c.ab (d + 1)), ?_⟩
  have s0 := sa_in c.s d hs (by omega) (by omega)
  have s1 := sa_in c.s (rl c.ab (d + 1)) hs (by omega) (by omega)
  refine ⟨s0.1, s0.2, s1.1, s1.2, by omega, by omega, by omega, by omega, ?_, ?_⟩
  · unfold fr; rw [if_pos hk]
  · unfold tt; rw [if_pos hk]

end Go.Proofs.YtihdijkplmfhfaaGreatDoor.Win

/- Which windows, times, zones, sunsets and rows are the same, by the program. No condition but those that each theorem states. -/
namespace Go.Proofs.YtihdijkplmfhfaaGreatDoor.Conf
set_option maxRecDepth 100000
set_option maxRecDepth 100000
open Go.ChangeShapes Go.WideShapes Go.ChangeAt Go.RowKit
open Go.Proofs.YtihdijkplmfhfaaGreatDoor.Divs Go.Proofs.YtihdijkplmfhfaaGreatDoor.Grow Go.Proofs.YtihdijkplmfhfaaGreatDoor.Zone
open Go.Proofs.YtihdijkplmfhfaaGreatDoor.By (Sk SL take_on take_all bool_no bool_yes)
open Go.Proofs.YtihdijkplmfhfaaGreatDoor.Each
open Go.Proofs.YtihdijkplmfhfaaGreatDoor.Zo Go.Proofs.YtihdijkplmfhfaaGreatDoor.Su Go.Proofs.YtihdijkplmfhfaaGreatDoor.Cf

attribute [local go_sem] equal_int_at

theorem equal_win (x y : Wn) (w : World) : (Op.equalIn 10000 65 (.agg #[.int .i64 x.k, .int .i64 x.m, .int .i64 x.p, .int .i64 x.a, .int .i64 x.h, .int .i64 x.u, .int .i64 x.l]) (.agg #[.int .i64 y.k, .int .i64 y.m, .int .i64 y.p, .int .i64 y.a, .int .i64 y.h, .int .i64 y.u, .int .i64 y.l])).run Tryz.prog w = .ok (ws x y) w := by
  have u3 := Tryz.underlying3
  have a3 := Tryz.isAgg3
  have z3 := Tryz.sizeOf3
  have hS : Tryz.prog.underlying 65 = some (.struct (Tryz.prog.fieldsOf 65)) := by kernel_rfl
  have hp : Tryz.prog.stoodInHeld 65 = false := by kernel_rfl
  have E : ∀ n, (Op.equalIn (n + 1 + 1) 65 (.agg #[.int .i64 x.k, .int .i64 x.m, .int .i64 x.p, .int .i64 x.a, .int .i64 x.h, .int .i64 x.u, .int .i64 x.l]) (.agg #[.int .i64 y.k, .int .i64 y.m, .int .i64 y.p, .int .i64 y.a, .int .i64 y.h, .int .i64 y.u, .int .i64 y.l])).run Tryz.prog w = .ok (ws x y) w := by
    intro n
    rw [run_equalIn_agg w (n + 1) 65 _ _ hS hp]
    simp only [Program.fieldsOf, Tryz.underlying65]
    unfold ws
    go_simp
    repeat' split
    all_goals simp_all
  exact E 9998

/-- Are the times the same? -/
def tq (x y : Cg) : Bool := x.t == y.t && (x.l == y.l && (x.o == y.o && (x.d == y.d && (x.e == y.e && (x.c == y.c && x.h == y.h)))))

theorem equal_times (x y : Cg) (w : World) : (Op.equalIn 10000 24 (.agg #[.int .i64 x.t, .int .i64 x.l, .int .i64 x.o, .int .i64 x.d, .int .i64 x.e, .int .i64 x.c, .int .i64 x.h]) (.agg #[.int .i64 y.t, .int .i64 y.l, .int .i64 y.o, .int .i64 y.d, .int .i64 y.e, .int .i64 y.c, .int .i64 y.h])).run Tryz.prog w = .ok (tq x y) w := by
  have u3 := Tryz.underlying3
  have a3 := Tryz.isAgg3
  have z3 := Tryz.sizeOf3
  have hS : Tryz.prog.underlying 24 = some (.struct (Tryz.prog.fieldsOf 24)) := by kernel_rfl
  have hp : Tryz.prog.stoodInHeld 24 = false := by kernel_rfl
  have E : ∀ n, (Op.equalIn (n + 1 + 1) 24 (.agg #[.int .i64 x.t, .int .i64 x.l, .int .i64 x.o, .int .i64 x.d, .int .i64 x.e, .int .i64 x.c, .int .i64 x.h]) (.agg #[.int .i64 y.t, .int .i64 y.l, .int .i64 y.o, .int .i64 y.d, .int .i64 y.e, .int .i64 y.c, .int .i64 y.h])).run Tryz.prog w = .ok (tq x y) w := by
    intro n
    rw [run_equalIn_agg w (n + 1) 24 _ _ hS hp]
    simp only [Program.fieldsOf, Tryz.underlying24]
    unfold tq
    go_simp
    repeat' split
    all_goals simp_all
  exact E 9998

/-- Are the sunsets the same? -/
def sq (s r : Nat → Int) : Bool := (List.range 12).all fun i => s i == r i

theorem sun_item (n : Nat) (s r : Nat → Int) (xs ys : Array Value) (w : World) : ∀ is : List Nat, (∀ i ∈ is, xs[i]? = some (.int .i64 (s i)) ∧ ys[i]? = some (.int .i64 (r i))) →
    (Op.eqItems (n + 1) 3 1 xs ys is).run Tryz.prog w = .ok (is.all fun i => s i == r i) w := by
  intro is
  induction is with
  | nil => intro _; simp [Op.eqItems]
  | cons i is ih =>
    intro h
    have u3 := Tryz.underlying3
    have a3 := Tryz.isAgg3
    have z3 := Tryz.sizeOf3
    obtain ⟨h1, h2⟩ := h i (by simp)
    have ih' := ih (fun j hj => h j (by simp [hj]))
    clear ih h
    unfold Op.eqItems
    rw [Nat.mul_one]
    go_simp
    split <;> simp_all

theorem equal_sun (s r : Nat → Int) (w : World) : (Op.equalIn 10000 30 (.agg #[.int .i64 (s 0), .int .i64 (s 1), .int .i64 (s 2), .int .i64 (s 3), .int .i64 (s 4), .int .i64 (s 5), .int .i64 (s 6), .int .i64 (s 7), .int .i64 (s 8), .int .i64 (s 9), .int .i64 (s 10), .int .i64 (s 11)])
      (.agg #[.int .i64 (r 0), .int .i64 (r 1), .int .i64 (r 2), .int .i64 (r 3), .int .i64 (r 4), .int .i64 (r 5), .int .i64 (r 6), .int .i64 (r 7), .int .i64 (r 8), .int .i64 (r 9), .int .i64 (r 10), .int .i64 (r 11)])).run Tryz.prog w = .ok (sq s r) w := by
  have hu : Tryz.prog.underlying 30 = some (.array 12 3) := by kernel_rfl
  obtain ⟨i, hi⟩ : ∃ i, Tryz.prog.info? 3 = some i := ⟨_, rfl⟩
  have hc : Tryz.prog.cellsOf 3 = 1 := by kernel_rfl
  rw [run_equalIn_array w 9999 _ _ hu hi, hc]
  refine sun_item 9998 s r _ _ w (List.range 12) (fun i hi => ?_)
  rw [List.mem_range] at hi
  match i, hi with
  | 0, _ | 1, _ | 2, _ | 3, _ | 4, _ | 5, _ | 6, _ | 7, _ | 8, _ | 9, _ | 10, _ | 11, _ => exact ⟨rfl, rfl⟩
  | i + 12, h => omega

instance : DecidableEq Wn := fun x y => decidable_of_iff _ (ws_iff x y)

/-- The first i of two rows are the same. -/
def ERel {α : Type} (xs ys : List α) (w : World) (x : Value) (wr : World) : Prop := ∃ i k : Nat, i ≤ xs.length ∧ x = .int .i64 (i : Int) ∧ xs.take i = ys.take i ∧ wr = w.drewN k

theorem same_all {α : Type} (xs ys : List α) (n : Nat) (hx : n = xs.length) (hl : xs.length = ys.length) (h : xs.take n = ys.take n) : xs = ys := by
  rw [List.take_of_length_le (by omega), List.take_of_length_le (by omega)] at h
  exact h

theorem same_on {α : Type} (xs ys : List α) (i : Nat) (a : α) (hx : xs[i]? = some a) (hy : ys[i]? = some a) (h : xs.take i = ys.take i) : xs.take (i + 1) = ys.take (i + 1) := by
  rw [List.take_add_one, List.take_add_one, h, hx, hy]

attribute [local go_sem high] equal_win

end Go.Proofs.YtihdijkplmfhfaaGreatDoor.Conf

/- Whether two configurations are the same, and whether cars go on, by the program. No condition but those that each theorem states. -/
namespace Go.Proofs.YtihdijkplmfhfaaGreatDoor.Conf
set_option maxRecDepth 100000
set_option maxRecDepth 100000
open Go.ChangeShapes Go.WideShapes Go.ChangeAt Go.RowKit
open Go.Proofs.YtihdijkplmfhfaaGreatDoor.Divs Go.Proofs.YtihdijkplmfhfaaGreatDoor.Grow Go.Proofs.YtihdijkplmfhfaaGreatDoor.Zone
open Go.Proofs.YtihdijkplmfhfaaGreatDoor.By (Sk SL take_on take_all bool_no bool_yes)
open Go.Proofs.YtihdijkplmfhfaaGreatDoor.Each
open Go.Proofs.YtihdijkplmfhfaaGreatDoor.Zo Go.Proofs.YtihdijkplmfhfaaGreatDoor.Su Go.Proofs.YtihdijkplmfhfaaGreatDoor.Cf

/-- Are the zones the same? -/
def zq (z y : Zn) : Bool := z.b == y.b && (z.s == y.s && ((z.p.m == y.p.m && (z.p.k == y.p.k && (z.p.v == y.p.v && z.p.u == y.p.u))) && (z.q.m == y.q.m && (z.q.k == y.q.k && (z.q.v == y.q.v && z.q.u == y.q.u)))))

theorem equal_zn (z y : Zn) (w : World) : (Op.equalIn 10000 28 (.agg #[.int .i64 z.b, .int .i64 z.s, .int .i64 z.p.m, .int .i64 z.p.k, .int .i64 z.p.v, .int .i64 z.p.u, .int .i64 z.q.m, .int .i64 z.q.k, .int .i64 z.q.v, .int .i64 z.q.u])
      (.agg #[.int .i64 y.b, .int .i64 y.s, .int .i64 y.p.m, .int .i64 y.p.k, .int .i64 y.p.v, .int .i64 y.p.u, .int .i64 y.q.m, .int .i64 y.q.k, .int .i64 y.q.v, .int .i64 y.q.u])).run Tryz.prog w = .ok (zq z y) w :=
  equal_zone _ _ _ _ _ _ _ _ _ _ _ _ _ _ _ _ _ _ _ _ w

attribute [local go_sem high] equal_win equal_times equal_sun equal_zn

/-- Are the buildings the same? -/
def sb (a b : Cg) : Bool := a.f == b.f && (a.n == b.n && (a.p == b.p && (decide (a.st = b.st) && (tq a b && (a.r == b.r && a.q == b.q)))))

/-- Are the timetables the same? -/
def tt (a b : Cg) : Bool := zq a.z b.z && (sq a.s b.s && ((a.ab == b.ab) && decide (a.ws = b.ws)))

end Go.Proofs.YtihdijkplmfhfaaGreatDoor.Conf

/- Whether two configurations are the same, and whether cars go on, by the program. No condition but those that each theorem states. -/
namespace Go.Proofs.YtihdijkplmfhfaaGreatDoor.Conf
set_option maxRecDepth 100000
set_option maxRecDepth 100000
open Go.ChangeShapes Go.WideShapes Go.ChangeAt Go.RowKit
open Go.Proofs.YtihdijkplmfhfaaGreatDoor.Divs Go.Proofs.YtihdijkplmfhfaaGreatDoor.Grow Go.Proofs.YtihdijkplmfhfaaGreatDoor.Zone
open Go.Proofs.YtihdijkplmfhfaaGreatDoor.By (Sk SL)
open Go.Proofs.YtihdijkplmfhfaaGreatDoor.Each
open Go.Proofs.YtihdijkplmfhfaaGreatDoor.Zo Go.Proofs.YtihdijkplmfhfaaGreatDoor.Su Go.Proofs.YtihdijkplmfhfaaGreatDoor.Cf

/-- A configuration is loaded whole, by an operation that is wanted. -/
theorem load_in {ops : Array Oper} {rest : List Oper} {o : Oper} {a : Act} {W : World} {Q : Exit → Act → World → Prop} (C : Array Value) (hC : C.size = 37) (hw : Region.wanted o (yielded ops a.tmps) = true) (x : Operand) (ho : o.op = .load 33 x) (g : Nat) (hx : a.eval x = .pointer (some ⟨g, 0, none⟩)) (h : At W g C) (hK : wpList Tryz.prog ops Q rest (a.put o.dst (.agg C)) W) : wpList Tryz.prog ops Q (o :: rest) a W := by
  unfold wpList
  rw [if_pos hw]
  exact .inl (wp_load_cfg C hC W g h x ho hx hK)

/-- Do cars go on? -/
def ft (a b : Cg) : Bool := (ce a == 0) && ((ce b == 0) && ((a.f == b.f) && (a.n == b.n)))

end Go.Proofs.YtihdijkplmfhfaaGreatDoor.Conf

/- Whether a configuration's times and stops may be, by the reckoning. No condition but those that each theorem states. -/
namespace Go.Proofs.YtihdijkplmfhfaaGreatDoor.Conf
set_option maxRecDepth 100000
set_option maxRecDepth 100000
open Go.ChangeShapes Go.WideShapes Go.ChangeAt Go.RowKit
open Go.Proofs.YtihdijkplmfhfaaGreatDoor.Divs Go.Proofs.YtihdijkplmfhfaaGreatDoor.Grow Go.Proofs.YtihdijkplmfhfaaGreatDoor.Zone
open Go.Proofs.YtihdijkplmfhfaaGreatDoor.By (Sk SL)
open Go.Proofs.YtihdijkplmfhfaaGreatDoor.Each
open Go.Proofs.YtihdijkplmfhfaaGreatDoor.Zo Go.Proofs.YtihdijkplmfhfaaGreatDoor.Su Go.Proofs.YtihdijkplmfhfaaGreatDoor.Cf

theorem tick_any (n : Int) (w : World) : Calls Tryz.prog 58 #[.int .i64 n] w fun e w' => e = .returned (.bool (bt n 1 60)) ∧ w = w' := by
  go_enter Tryz.func58, Tryz.ntmps58
  go_wp2
  all_goals
    go_ret
    refine ⟨retb ?_, rfl⟩
    rw [Bool.eq_iff_iff, bt_iff]
    simp
    try omega

set_option maxHeartbeats 4000000 in
theorem rtimes_any (c : Cg) (u v : Value) (w : World) : Calls Tryz.prog 33 #[.agg (cc c u v)] w fun e w' => e = .returned (.bool (ti c)) ∧ Later w w' := by
  have K := Lib.hid (fun n W => tick_any n W)
  obtain ⟨b1, e1⟩ : ∃ b, bt c.t 1 60 = b := ⟨_, rfl⟩
  obtain ⟨b2, e2⟩ : ∃ b, bt c.l 1 60 = b := ⟨_, rfl⟩
  obtain ⟨b3, e3⟩ : ∃ b, bt c.o 1 60 = b := ⟨_, rfl⟩
  obtain ⟨b4, e4⟩ : ∃ b, bt c.d 1 60 = b := ⟨_, rfl⟩
  obtain ⟨b5, e5⟩ : ∃ b, bt c.c 1 60 = b := ⟨_, rfl⟩
  have hv : ti c = ((b1 && (b2 && (b3 && (b4 && b5)))) && (bt c.h 0 60 && ((bt c.r 1 300 && bt c.q 1 300) && bt c.e 1 (min (min c.d c.r) c.q)))) := by
    unfold ti
    rw [e1, e2, e3, e4, e5]
  have HV := Lib.hid hv
  have hw : (b1 && (b2 && (b3 && (b4 && b5)))) = true → (ti c = true ↔ (0 ≤ c.h ∧ c.h ≤ 60 ∧ 1 ≤ c.r ∧ c.r ≤ 300 ∧ 1 ≤ c.q ∧ c.q ≤ 300 ∧ 1 ≤ c.e ∧ c.e ≤ c.d ∧ c.e ≤ c.r ∧ c.e ≤ c.q)) := by
    intro h
    rw [hv, h, Bool.true_and]
    simp only [Bool.and_eq_true, bt_iff]
    omega
  have HW := Lib.hid hw
  generalize ti c = R at *
  have E1 := Lib.hid e1
  have E2 := Lib.hid e2
  have E3 := Lib.hid e3
  have E4 := Lib.hid e4
  have E5 := Lib.hid e5
  clear hv hw e1 e2 e3 e4 e5
  obtain ⟨C, hC⟩ : ∃ C, C = cc c u v := ⟨_, rfl⟩
  rw [← hC]
  have f4 : C[4]? = some (.int .i64 c.t) := by rw [hC]; rfl
  have f5 : C[5]? = some (.int .i64 c.l) := by rw [hC]; rfl
  have f6 : C[6]? = some (.int .i64 c.o) := by rw [hC]; rfl
  have f7 : C[7]? = some (.int .i64 c.d) := by rw [hC]; rfl
  have f8 : C[8]? = some (.int .i64 c.e) := by rw [hC]; rfl
  have f9 : C[9]? = some (.int .i64 c.c) := by rw [hC]; rfl
  have f10 : C[10]? = some (.int .i64 c.h) := by rw [hC]; rfl
  have f11 : C[11]? = some (.int .i64 c.r) := by rw [hC]; rfl
  have f12 : C[12]? = some (.int .i64 c.q) := by rw [hC]; rfl
  clear hC
  have HL : Hid (Later w ((w.alloc (.cells C 33)).alloc (.cells #[.int .i64 c.t, .int .i64 c.l, .int .i64 c.o, .int .i64 c.d, .int .i64 c.e, .int .i64 c.c, .int .i64 c.h] 24))) := Lib.hid (((Later.refl w).alloc _ _).alloc _ _)
  go_enter Tryz.func33, Tryz.ntmps33
  go_wp2_with fail
  refine (K.out c.t _).mono ?_
  rintro e _ ⟨rfl, rfl⟩
  rw [E1.out]
  go_wp2_with fail
  refine (K.out c.l _).mono ?_
  rintro e _ ⟨rfl, rfl⟩
  rw [E2.out]
  go_wp2_with fail
  refine (K.out c.o _).mono ?_
  rintro e _ ⟨rfl, rfl⟩
  rw [E3.out]
  go_wp2_with fail
  refine (K.out c.d _).mono ?_
  rintro e _ ⟨rfl, rfl⟩
  rw [E4.out]
  go_wp2_with fail
  refine (K.out c.c _).mono ?_
  rintro e _ ⟨rfl, rfl⟩
  rw [E5.out]
  cases b1 with
  | false =>
    go_wp2_with fail
    go_ret
    exact ⟨retb (by rw [HV.out]; rfl), HL.out⟩
  | true =>
  cases b2 with
  | false =>
    go_wp2_with fail
    go_ret
    exact ⟨retb (by rw [HV.out]; rfl), HL.out⟩
  | true =>
  cases b3 with
  | false =>
    go_wp2_with fail
    go_ret
    exact ⟨retb (by rw [HV.out]; rfl), HL.out⟩
  | true =>
  cases b4 with
  | false =>
    go_wp2_with fail
    go_ret
    exact ⟨retb (by rw [HV.out]; rfl), HL.out⟩
  | true =>
  cases b5 with
  | false =>
    go_wp2_with fail
    go_ret
    exact ⟨retb (by rw [HV.out]; rfl), HL.out⟩
  | true =>
  go_wp2
  all_goals
    go_ret
    refine ⟨retb ?_, HL.out⟩
    rw [Bool.eq_iff_iff, HW.out rfl]
    simp
    try omega

end Go.Proofs.YtihdijkplmfhfaaGreatDoor.Conf

/- Whether a configuration's stops may be, by the reckoning. No condition but those that each theorem states. -/
namespace Go.Proofs.YtihdijkplmfhfaaGreatDoor.Conf
set_option maxRecDepth 100000
set_option maxRecDepth 100000
open Go.ChangeShapes Go.WideShapes Go.ChangeAt Go.RowKit
open Go.Proofs.YtihdijkplmfhfaaGreatDoor.Divs Go.Proofs.YtihdijkplmfhfaaGreatDoor.Grow Go.Proofs.YtihdijkplmfhfaaGreatDoor.Zone
open Go.Proofs.YtihdijkplmfhfaaGreatDoor.By (Sk SL bool_no bool_yes)
open Go.Proofs.YtihdijkplmfhfaaGreatDoor.Each
open Go.Proofs.YtihdijkplmfhfaaGreatDoor.Zo Go.Proofs.YtihdijkplmfhfaaGreatDoor.Su Go.Proofs.YtihdijkplmfhfaaGreatDoor.Cf

theorem to_small (c : Cg) (h : c.st.length < 2) : to c = false := by
  cases e : to c with
  | false => rfl
  | true => have := (to_iff c).1 e; omega

theorem to_not (c : Cg) (k : Nat) (hk : k < c.st.length) (h : ¬ sg c.f c.st k) : to c = false := by
  cases e : to c with
  | false => rfl
  | true => exact absurd (((to_iff c).1 e).2 k hk) h

/-- The first k stops may be. -/
def TRel (c : Cg) (W : World) (i : Value) (wr : World) : Prop := ∃ k j : Nat, k ≤ c.st.length ∧ i = .int .i64 (k : Int) ∧ su c.f c.st k ∧ wr = W.drewN j

set_option maxHeartbeats 2000000 in
theorem rstops_any (c : Cg) (u v : Value) (w : World) (hu : Sk .i64 w u c.st) : Calls Tryz.prog 32 #[.agg (cc c u v)] w fun e w' => e = .returned (.bool (to c)) ∧ Later w w' := by
  have HS : Hid (c.st.length < 2 → to c = false) := Lib.hid (to_small c)
  have HN : Hid (∀ k, k < c.st.length → ¬ sg c.f c.st k → to c = false) := Lib.hid (to_not c)
  have HY : Hid (2 ≤ c.st.length → su c.f c.st c.st.length → to c = true) := Lib.hid (fun a b => (to_iff c).2 ⟨a, b⟩)
  generalize to c = R at *
  obtain ⟨C, hC⟩ : ∃ C, C = cc c u v := ⟨_, rfl⟩
  rw [← hC]
  have f0 : C[0]? = some (.int .i64 c.f) := by rw [hC]; rfl
  have f3 : C[3]? = some u := by rw [hC]; rfl
  clear hC
  have HL := Lib.hid ((Later.refl w).alloc C 33)
  rcases Nat.eq_zero_or_pos c.st.length with h0 | h0
  · have HV := Lib.hid (HS.out (by omega))
    obtain ⟨ad, cap, rfl, _⟩ := hu.len
    rw [h0] at f3
    clear hu h0
    go_enter Tryz.func32, Tryz.ntmps32
    go_wp2_with fail
    refine wp_loop_rounds 1 ?_
    rw [rounds_succ]
    go_wp2
    go_ret
    exact ⟨retb HV.out.symm, HL.out⟩
  · obtain ⟨B, off, cap, rfl, _, m1, hB, hc⟩ := hu.has h0
    have hm : c.st.length ≤ 9223372036854775807 := by omega
    have HC : Hid (∀ i, i < c.st.length → (w.alloc (.cells C 33)).cell? ⟨B, off + i, none⟩ = some (.int .i64 (c.st.getD i 0))) := Lib.hid (fun i hi => gsome HL.out (hc i hi))
    have HA := Lib.hid (At.new w C 33)
    obtain ⟨F, hF⟩ : ∃ F, c.f = F := ⟨_, rfl⟩
    rw [hF] at f0
    have HF := Lib.hid hF
    clear hF
    have c0 := HA.out 0 _ f0
    have c3 := HA.out 3 _ f3
    clear hu hc m1 f0 f3 hB HA
    obtain ⟨n, hn⟩ : ∃ n, c.st.length = n := ⟨_, rfl⟩
    rw [hn] at hm h0 c3
    have HX := Lib.hid hn
    clear hn
    go_enter Tryz.func32, Tryz.ntmps32
    go_wp2_with fail
    generalize w.alloc (.cells C 33) = W0 at *
    go_loopw [3] (fun i wr => TRel c W0 i wr) (fun i _ => (n - intOf i).toNat)
    case atStart => exact ⟨0, 0, by omega, rfl, su_zero _ _, rfl⟩
    case round =>
      obtain ⟨k, j, hk, rfl, hs, rfl⟩ := hrel
      rw [HX.out] at hk
      have HU := Lib.hid hs
      clear hs
      by_cases hlt : k < n
      · have hx := HC.out k (by rw [HX.out]; exact hlt)
        obtain ⟨x, ex⟩ : ∃ x, c.st.getD k 0 = x := ⟨_, rfl⟩
        rw [ex] at hx
        have EX := Lib.hid ex
        clear ex
        by_cases h1 : x < 0
        · have HV := Lib.hid (HN.out k (by rw [HX.out]; exact hlt) (fun h => by
            have a := lo_pos HU.out
            have b := h.1
            rw [EX.out] at b
            omega))
          have t1 : decide (x < 0) = true := by simpa using h1
          clear h1
          go_wp2_with fail
          go_quiet (fail)
          go_wp2_with fail
          go_ret
          exact ⟨retb HV.out.symm, HL.out⟩
        · by_cases h2 : x ≥ F
          · have HV := Lib.hid (HN.out k (by rw [HX.out]; exact hlt) (fun h => by
              have b := h.2
              rw [EX.out, HF.out] at b
              omega))
            have t1 : decide (x < 0) = false := by simpa using h1
            have t2 : decide (x ≥ F) = true := by simpa using h2
            clear h1 h2
            go_wp2_with fail
            go_quiet (fail)
            go_wp2_with fail
            go_ret
            exact ⟨retb HV.out.symm, HL.out⟩
          · rcases Nat.eq_zero_or_pos k with hz | hz
            · have HT : Hid (su c.f c.st (k + 1)) := Lib.hid (su_on HU.out (by rw [sg, EX.out, HF.out, hz]; simp only [lo, if_true]; omega))
              have t1 : decide (x < 0) = false := by simpa using h1
              have t2 : decide (x ≥ F) = false := by simpa using h2
              have t3 : decide ((k : Int) > 0) = false := by simp; omega
              have t4 : decide (0 < k) = false := by simp; omega
              clear h1 h2 hz
              go_wp2_with fail
              go_quiet (fail)
              go_wp2_with fail
              go_roundw
              case rel => exact ⟨k + 1, _, by rw [HX.out]; omega, by go_num, HT.out, rfl⟩
              case measure => simp [intOf]; omega
            · obtain ⟨i, rfl⟩ : ∃ i, k = i + 1 := ⟨k - 1, by omega⟩
              clear hz
              have hy := HC.out i (by rw [HX.out]; omega)
              obtain ⟨y, ey⟩ : ∃ y, c.st.getD i 0 = y := ⟨_, rfl⟩
              rw [ey] at hy
              have EY := Lib.hid ey
              clear ey
              have hp : decide (((i + 1 : Nat) : Int) > 0) = true := by simp
              have hs : ((i + 1 : Nat) : Int) - 1 = (i : Int) := by omega
              by_cases h3 : x ≤ y
              · have HV := Lib.hid (HN.out (i + 1) (by rw [HX.out]; exact hlt) (fun h => by
                  have b := h.1
                  rw [EX.out, lo_succ, EY.out] at b
                  omega))
                have t1 : decide (x < 0) = false := by simpa using h1
                have t2 : decide (x ≥ F) = false := by simpa using h2
                have t3 : decide (x ≤ y) = true := by simpa using h3
                clear h1 h2 h3
                go_wp2_with fail
                go_quiet (fail)
                go_wp2_with fail
                go_ret
                exact ⟨retb HV.out.symm, HL.out⟩
              · have HT := Lib.hid (su_on HU.out (show sg c.f c.st (i + 1) by rw [sg, EX.out, lo_succ, EY.out, HF.out]; omega))
                have t1 : decide (x < 0) = false := by simpa using h1
                have t2 : decide (x ≥ F) = false := by simpa using h2
                have t3 : decide (x ≤ y) = false := by simpa using h3
                clear h1 h2 h3
                go_wp2_with fail
                go_quiet (fail)
                go_wp2_with fail
                go_roundw
                case rel => exact ⟨i + 2, _, by rw [HX.out]; omega, by go_num, HT.out, rfl⟩
                case measure => simp [intOf]; omega
      · obtain rfl : k = n := by omega
        by_cases h2 : k < 2
        · have HV := Lib.hid (HS.out (by rw [HX.out]; exact h2))
          go_wp2_with fail
          go_ret
          exact ⟨retb (by rw [HV.out]; simp; omega), gtrans HL.out (later_drewN W0 _)⟩
        · have HV := Lib.hid (HY.out (by rw [HX.out]; omega) (by rw [HX.out]; exact HU.out))
          go_wp2_with fail
          go_ret
          exact ⟨retb (by rw [HV.out]; simp; omega), gtrans HL.out (later_drewN W0 _)⟩

end Go.Proofs.YtihdijkplmfhfaaGreatDoor.Conf

/- Whether a configuration may be, by the reckoning. No condition but those that each theorem states. -/
namespace Go.Proofs.YtihdijkplmfhfaaGreatDoor.Conf
set_option maxRecDepth 100000
set_option maxRecDepth 100000
open Go.ChangeShapes Go.WideShapes Go.ChangeAt Go.RowKit
open Go.Proofs.YtihdijkplmfhfaaGreatDoor.Divs Go.Proofs.YtihdijkplmfhfaaGreatDoor.Grow Go.Proofs.YtihdijkplmfhfaaGreatDoor.Zone
open Go.Proofs.YtihdijkplmfhfaaGreatDoor.By (Sk SL bool_no bool_yes)
open Go.Proofs.YtihdijkplmfhfaaGreatDoor.Each
open Go.Proofs.YtihdijkplmfhfaaGreatDoor.Zo Go.Proofs.YtihdijkplmfhfaaGreatDoor.Su Go.Proofs.YtihdijkplmfhfaaGreatDoor.Cf

theorem so_iff (c : Cg) : so c = true ↔ 2 ≤ c.f ∧ c.f ≤ 64 ∧ 1 ≤ c.n ∧ c.n ≤ 8 ∧ 0 ≤ c.p ∧ c.p < c.f := by
  unfold so
  simp only [Bool.and_eq_true, bt_iff]
  omega

theorem ce_size (c : Cg) (h : ¬ so c = true) : ce c = 100 := by
  unfold ce
  rw [if_neg h]

set_option maxHeartbeats 2000000 in
theorem rcheck_size (c : Cg) (u v : Value) (w : World) (h : ¬ so c = true) : Calls Tryz.prog 14 #[.agg (cc c u v)] w fun e w' => e = .returned (.int .i64 (ce c)) ∧ Later w w' := by
  rw [ce_size c h]
  rw [so_iff] at h
  have HL := Lib.hid ((Later.refl w).alloc (cc c u v) 33)
  obtain ⟨C, hC⟩ : ∃ C, C = cc c u v := ⟨_, rfl⟩
  rw [← hC] at HL ⊢
  have f0 : C[0]? = some (.int .i64 c.f) := by rw [hC]; rfl
  have f1 : C[1]? = some (.int .i64 c.n) := by rw [hC]; rfl
  have f2 : C[2]? = some (.int .i64 c.p) := by rw [hC]; rfl
  clear hC
  generalize c.f = f at *
  generalize c.n = n at *
  generalize c.p = p at *
  by_cases h1 : f < 2
  · clear h
    go_enter Tryz.func14, Tryz.ntmps14
    go_wp2_with fail
    go_ret
    exact ⟨rfl, HL.out⟩
  by_cases h2 : f > 64
  · clear h
    go_enter Tryz.func14, Tryz.ntmps14
    go_wp2_with fail
    go_ret
    exact ⟨rfl, HL.out⟩
  by_cases h3 : n < 1
  · clear h
    go_enter Tryz.func14, Tryz.ntmps14
    go_wp2_with fail
    go_ret
    exact ⟨rfl, HL.out⟩
  by_cases h4 : n > 8
  · clear h
    go_enter Tryz.func14, Tryz.ntmps14
    go_wp2_with fail
    go_ret
    exact ⟨rfl, HL.out⟩
  by_cases h5 : p < 0
  · clear h
    go_enter Tryz.func14, Tryz.ntmps14
    go_wp2_with fail
    go_ret
    exact ⟨rfl, HL.out⟩
  by_cases h6 : p ≥ f
  · clear h
    go_enter Tryz.func14, Tryz.ntmps14
    go_wp2_with fail
    go_ret
    exact ⟨rfl, HL.out⟩
  · omega

/-- A zone, and a table of sunsets, are loaded out of a configuration. -/
theorem load_zn {ops : Array Oper} {rest : List Oper} {o : Oper} {a : Act} {W : World} {Q : Exit → Act → World → Prop} (z : Zn) (hgd : o.guard = none) (x : Operand) (ho : o.op = .load 28 x) (B off : Nat) (hx : a.eval x = .pointer (some ⟨B, off, none⟩)) (h : W.rangeAt B off (zc z).toList) (hK : wpList Tryz.prog ops Q rest (a.put o.dst (.agg (zc z))) W) : wpList Tryz.prog ops Q (o :: rest) a W := by
  have hi : (Tryz.prog.info? 28).map (·.size) = some (zc z).toList.length := by kernel_rfl
  refine wpList_load_mid (P := Tryz.prog) hgd 28 x ho B off hx (zc z).toList _ h Tryz.underlying28 rfl hi ?_
  simpa using hK

theorem load_sn {ops : Array Oper} {rest : List Oper} {o : Oper} {a : Act} {W : World} {Q : Exit → Act → World → Prop} (s : Nat → Int) (hgd : o.guard = none) (x : Operand) (ho : o.op = .load 30 x) (B off : Nat) (hx : a.eval x = .pointer (some ⟨B, off, none⟩)) (h : W.rangeAt B off (Sun.sc s).toList) (hK : wpList Tryz.prog ops Q rest (a.put o.dst (.agg (Sun.sc s))) W) : wpList Tryz.prog ops Q (o :: rest) a W := by
  have hi : (Tryz.prog.info? 30).map (·.size) = some (Sun.sc s).toList.length := by kernel_rfl
  refine wpList_load_mid (P := Tryz.prog) hgd 30 x ho B off hx (Sun.sc s).toList _ h Tryz.underlying30 rfl hi ?_
  simpa using hK

theorem cc_zone (c : Cg) (u v : Value) {W : World} {b : Nat} (h : At W b (cc c u v)) : W.rangeAt b 13 (zc c.z).toList := by
  intro j y hy
  have hj : j < 10 := by
    have := (List.getElem?_eq_some_iff.1 hy).1
    simpa [zc] using this
  refine h (13 + j) y ?_
  rw [← hy]
  match j, hj with
  | 0, _ | 1, _ | 2, _ | 3, _ | 4, _ | 5, _ | 6, _ | 7, _ | 8, _ | 9, _ => rfl
  | j + 10, hj => omega

theorem cc_sun (c : Cg) (u v : Value) {W : World} {b : Nat} (h : At W b (cc c u v)) : W.rangeAt b 23 (Sun.sc c.s).toList := by
  intro j y hy
  have hj : j < 12 := by
    have := (List.getElem?_eq_some_iff.1 hy).1
    simpa [Sun.sc] using this
  refine h (23 + j) y ?_
  rw [← hy]
  match j, hj with
  | 0, _ | 1, _ | 2, _ | 3, _ | 4, _ | 5, _ | 6, _ | 7, _ | 8, _ | 9, _ | 10, _ | 11, _ => rfl
  | j + 12, hj => omega

end Go.Proofs.YtihdijkplmfhfaaGreatDoor.Conf
