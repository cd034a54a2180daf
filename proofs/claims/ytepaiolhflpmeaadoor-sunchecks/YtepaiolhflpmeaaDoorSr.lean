/-
  The document's answers on sunsets: which tables may be, the minute of a day, its instant. Conditions: where the minute is asked, the table may be and the day has a date.
-/
import Derived.Test.YtepaiolhflpmeaaDoorSa
import Derived.Test.YtepaiolhflpmeaaDoorZr
namespace Go.Proofs.YtepaiolhflpmeaaDoor.Sun
open Go.ChangeShapes Go.WideShapes Go.ChangeAt Go.RowKit
open Go.Proofs.YtepaiolhflpmeaaDoor.Divs Go.Proofs.YtepaiolhflpmeaaDoor.Grow Go.Proofs.YtepaiolhflpmeaaDoor.Zone
open Go.Proofs.YtepaiolhflpmeaaDoor.Greg (Laid)
open Go.Proofs.YtepaiolhflpmeaaDoor.Cal (dm yr om od)
open Go.Proofs.YtepaiolhflpmeaaDoor.Zo Go.Proofs.YtepaiolhflpmeaaDoor.Su

def ERel (s : Nat → Int) (w : World) (i : Value) (wr : World) : Prop := ∃ k : Nat, k ≤ 12 ∧ i = .int .i64 (k : Int) ∧ (∀ j, j < k → 900 ≤ s j ∧ s j ≤ 1320) ∧ Later w wr

def FRel (s : Nat → Int) (w : World) (i : Value) (wr : World) : Prop := ∃ k : Nat, k ≤ 12 ∧ i = .int .i64 (k : Int) ∧ (∀ j, j < k → -120 ≤ s ((j + 1) % 12) - s j ∧ s ((j + 1) % 12) - s j ≤ 120) ∧ Later w wr

set_option maxHeartbeats 1000000 in
theorem rcheck_tab (s : Nat → Int) (w : World) : Calls Tryd.prog 9 #[.agg (sc s)] w fun e w' => e = .returned (.int .i64 (sk s)) ∧ Later w w' := by
  have HN := Lib.hid (Sat.new w s)
  have HG := Lib.hid ((Later.refl w).alloc (sc s) 23)
  unfold sc at *
  go_enter Tryd.func9, Tryd.ntmps9
  go_wp2
  go_loopw [3] (fun i wr => ERel s (w.alloc (.cells #[.int .i64 (s 0), .int .i64 (s 1), .int .i64 (s 2), .int .i64 (s 3), .int .i64 (s 4), .int .i64 (s 5), .int .i64 (s 6), .int .i64 (s 7), .int .i64 (s 8), .int .i64 (s 9), .int .i64 (s 10), .int .i64 (s 11)] 23)) i wr) (fun i _ => 12 - (intOf i).toNat)
  case atStart => exact ⟨0, by omega, rfl, by omega, Later.refl _⟩
  case round =>
    obtain ⟨k, hk, rfl, hj, hg⟩ := hrel
    have HGR := Lib.hid hg
    clear hg
    by_cases hlt : k < 12
    · have c := HN.out.later HGR.out k hlt
      by_cases h1 : s k < 900
      · have HV := Lib.hid (sk_m s k hlt (by omega))
        clear hj
        go_wp2
        go_ret
        exact ⟨reti HV.out.symm, gtrans HG.out HGR.out⟩
      by_cases h2 : s k > 1320
      · have HV := Lib.hid (sk_m s k hlt (by omega))
        clear hj
        go_wp2
        go_ret
        exact ⟨reti HV.out.symm, gtrans HG.out HGR.out⟩
      have HJ : Hid (∀ j, j < k + 1 → 900 ≤ s j ∧ s j ≤ 1320) := Lib.hid (fun j h => by
        by_cases e : j = k
        · rw [e]; omega
        · exact hj j (by omega))
      clear hj
      go_wp2
      go_roundw
      case rel => exact ⟨k + 1, by omega, by go_num, HJ.out, HGR.out⟩
      case measure => simp [intOf]; omega
    · obtain rfl : k = 12 := by omega
      have HM : Hid (okM s) := Lib.hid hj
      clear hj hlt hk
      go_wp2
      go_loopw [4] (fun i w2 => FRel s wr i w2) (fun i _ => 12 - (intOf i).toNat)
      case atStart => exact ⟨0, by omega, rfl, by omega, Later.refl _⟩
      case round =>
        obtain ⟨k, hk, rfl, hj, hg⟩ := hrel
        have HG2 := Lib.hid (gtrans HGR.out hg)
        have HG3 := Lib.hid hg
        clear hg
        by_cases hlt : k < 12
        · have b0 := HM.out k hlt
          have b1 := HM.out ((k + 1) % 12) (by omega)
          have c0 := HN.out.later HG2.out k hlt
          obtain ⟨j, hjd⟩ : ∃ j, j = (k + 1) % 12 := ⟨_, rfl⟩
          have j12 : j < 12 := by omega
          have c1 := HN.out.later HG2.out j j12
          have HJD := Lib.hid hjd
          have e1 : IntKind.i64.wrap ((k : Int) + 1) = (k : Int) + 1 := IntWalk.i64_in _ (by omega)
          have e2 : ((k : Int) + 1).tmod 12 = (j : Int) := by rw [Int.tmod_eq_emod_of_nonneg (by omega)]; omega
          have e3 : IntKind.i64.wrap (s j - s k) = s j - s k := by rw [hjd]; exact IntWalk.i64_in _ (by omega)
          clear hjd b0 b1
          go_wp2
          go_quiet (fail)
          clear c0 c1 e1 e2 e3
          have hjd := HJD.out
          subst hjd
          generalize hx : s ((k + 1) % 12) - s k = x at *
          by_cases h1 : x > 120
          · have HV := Lib.hid (sk_s s k hlt HM.out (by omega))
            clear hj
            go_wp2
            go_ret
            exact ⟨reti HV.out.symm, gtrans HG.out HG2.out⟩
          by_cases h2 : x < -120
          · have HV := Lib.hid (sk_s s k hlt HM.out (by omega))
            clear hj
            go_wp2
            go_ret
            exact ⟨reti HV.out.symm, gtrans HG.out HG2.out⟩
          have HJ : Hid (∀ j, j < k + 1 → -120 ≤ s ((j + 1) % 12) - s j ∧ s ((j + 1) % 12) - s j ≤ 120) := Lib.hid (fun j h => by
            by_cases e : j = k
            · rw [e]; omega
            · exact hj j (by omega))
          clear hj
          go_wp2
          go_roundw
          case rel => exact ⟨k + 1, by omega, by go_num, HJ.out, HG3.out⟩
          case measure => simp [intOf]; omega
        · obtain rfl : k = 12 := by omega
          have HV := Lib.hid ((sk_ok s).2 ⟨HM.out, hj⟩)
          clear hj hlt hk
          go_wp2
          go_ret
          exact ⟨reti HV.out.symm, gtrans HG.out HG2.out⟩

set_option maxHeartbeats 1000000 in
theorem rat_any (s : Nat → Int) (n : Int) (w : World) (h : sk s = 0) (h1 : 1 ≤ n) (h2 : n ≤ 3652059) : Calls Tryd.prog 11 #[.agg (sc s), .int .i64 n] w fun e w' => e = .returned (.int .i64 (sa s n)) ∧ Later w w' := by
  have O := Lib.hid (fun W => Greg.rof_any n W h1 h2)
  have hd := date_bd n h1 h2
  have hb := gone_bd s n h h1 h2
  have D := Lib.hid (fun W => same_g (Greg.rdays_any (yr n) (om n) W))
  have V := Lib.hid (fun W => drew_g (rdiv_any ((tb s n - ta s n) * (od n - 1)) (dm (yr n) (om n)) W (by omega) (by omega) (by omega) (by omega)))
  have HV : Hid (sa s n = ta s n + (tb s n - ta s n) * (od n - 1) / dm (yr n) (om n)) := Lib.hid rfl
  have hsa := sa_bd s n h h1 h2
  unfold sa at hsa
  have HN := Lib.hid (Sat.new w s)
  obtain ⟨a0, a1, b0, b1, _, _, o0, o1, _, _, p0, p1⟩ := hb
  obtain ⟨_, _, m0, m1, _, _⟩ := hd
  clear h h1 h2
  have HW := Lib.hid ((Later.refl w).alloc (sc s) 23)
  unfold sc at *
  go_enter Tryd.func11, Tryd.ntmps11
  go_wp2_with fail
  refine (O.out _).mono ?_
  rintro e w2 ⟨rfl, hg2⟩
  have HG2 := Lib.hid hg2
  clear hg2
  have x0 : (w2.alloc (.cells #[.int .i64 (yr n), .int .i64 (om n), .int .i64 (od n)] 44)).cell? ⟨w.heap.size, (om n).toNat - 1, none⟩ = some (.int .i64 (ta s n)) := (HN.out.later (HG2.out.alloc _ _)) _ (by omega)
  have x1 : (w2.alloc (.cells #[.int .i64 (yr n), .int .i64 (om n), .int .i64 (od n)] 44)).cell? ⟨w.heap.size, (om n % 12).toNat, none⟩ = some (.int .i64 (tb s n)) := by
    rw [show (om n % 12).toNat = (om n).toNat % 12 by omega]
    exact (HN.out.later (HG2.out.alloc _ _)) _ (by omega)
  go_wp2_with fail
  clear x0 x1
  have d0 := gw_cell (date_cell w2 (yr n) (om n) (od n)).1
  have d1 := gw_cell (date_cell w2 (yr n) (om n) (od n)).2.1
  have d2 := gw_cell (date_cell w2 (yr n) (om n) (od n)).2.2
  have e1 : IntKind.i64.wrap (tb s n - ta s n) = tb s n - ta s n := IntWalk.i64_in _ (by omega)
  have e2 : IntKind.i64.wrap (od n - 1) = od n - 1 := IntWalk.i64_in _ (by omega)
  have e3 : IntKind.i64.wrap ((tb s n - ta s n) * (od n - 1)) = (tb s n - ta s n) * (od n - 1) := IntWalk.i64_in _ (by omega)
  have e4 : IntKind.i64.wrap (ta s n + (tb s n - ta s n) * (od n - 1) / dm (yr n) (om n)) = ta s n + (tb s n - ta s n) * (od n - 1) / dm (yr n) (om n) := IntWalk.i64_in _ (by omega)
  refine region_grown (by kernel_rfl) (by kernel_rfl) ?_
  repeat (go_big_quiet_step (first | (go_at_call 24; exact in_grown (D.out _)) | (go_at_call 23; exact in_grown (V.out _))))
  refine wpQuiet_nil (grown_end ?_)
  intro w4 hg4
  clear d0 d1 d2 e1 e2 e3 e4
  go_wp2_with fail
  go_ret
  exact ⟨reti HV.out.symm, gtrans HW.out (gtrans (HG2.out.alloc _ _) hg4)⟩

set_option maxHeartbeats 1000000 in
theorem rmoment_zone (z : Zn) (s : Nat → Int) (n : Int) (w : World) (h : ¬ ck z = 0) : Calls Tryd.prog 13 #[.agg (zc z), .agg (sc s), .int .i64 n] w fun e w' => e = .returned (.tuple #[.int .i64 (mV z s n), .int .i64 (mE z s n)]) ∧ Later w w' := by
  have C := Lib.hid (fun W => Zone.rcheck_any z W)
  have S := Lib.hid (fun W => rcheck_tab s W)
  have e0 : (ck z != 0) = true := by simpa using h
  have hE : mE z s n = ck z := by unfold mE; rw [if_neg h]
  have HE := Lib.hid hE
  have HV := Lib.hid (show mV z s n = 0 by unfold mV; rw [if_neg (by rw [hE]; exact h)])
  clear h hE
  have HT := Lib.hid (two_tab w z s)
  have HZ := Lib.hid (two_zone w z s)
  have HG0 := Lib.hid (((Later.refl w).alloc (zc z) 35).alloc (sc s) 23)
  unfold zc sc at *
  go_enter Tryd.func13, Tryd.ntmps13
  go_wp2_with fail
  refine (C.out _).mono ?_
  rintro e w1 ⟨rfl, hg1⟩
  have HG1 := Lib.hid hg1
  clear hg1
  go_wp2_with fail
  go_ret2
  exact ⟨ret2 HV.out.symm HE.out.symm, gtrans HG0.out HG1.out⟩

set_option maxHeartbeats 1000000 in
theorem rmoment_tab (z : Zn) (s : Nat → Int) (n : Int) (w : World) (h : ck z = 0) (ha : ¬ sk s = 0) : Calls Tryd.prog 13 #[.agg (zc z), .agg (sc s), .int .i64 n] w fun e w' => e = .returned (.tuple #[.int .i64 (mV z s n), .int .i64 (mE z s n)]) ∧ Later w w' := by
  have C := Lib.hid (fun W => Zone.rcheck_any z W)
  have S := Lib.hid (fun W => rcheck_tab s W)
  have e0 : (ck z != 0) = false := by simpa using h
  have e1 : (sk s != 0) = true := by simpa using ha
  have hE : mE z s n = sk s := by unfold mE; rw [if_pos h, if_neg ha]
  have HE := Lib.hid hE
  have HV := Lib.hid (show mV z s n = 0 by unfold mV; rw [if_neg (by rw [hE]; exact ha)])
  clear h hE ha
  have HT := Lib.hid (two_tab w z s)
  have HZ := Lib.hid (two_zone w z s)
  have HG0 := Lib.hid (((Later.refl w).alloc (zc z) 35).alloc (sc s) 23)
  unfold zc sc at *
  go_enter Tryd.func13, Tryd.ntmps13
  go_wp2_with fail
  refine (C.out _).mono ?_
  rintro e w1 ⟨rfl, hg1⟩
  have HG1 := Lib.hid hg1
  clear hg1
  obtain ⟨k0, k1, k2, k3, k4, k5, k6, k7, k8, k9, k10, k11⟩ := (HT.out.later HG1.out).all
  go_wp2_with fail
  refine (S.out _).mono ?_
  rintro e w2 ⟨rfl, hg2⟩
  clear k0 k1 k2 k3 k4 k5 k6 k7 k8 k9 k10 k11
  have HG2 := Lib.hid (gtrans HG1.out hg2)
  clear hg2
  go_wp2_with fail
  go_ret2
  exact ⟨ret2 HV.out.symm HE.out.symm, gtrans HG0.out HG2.out⟩

set_option maxHeartbeats 1000000 in
theorem rmoment_low (z : Zn) (s : Nat → Int) (n : Int) (w : World) (h : ck z = 0) (ha : sk s = 0) (hn : n < 401) : Calls Tryd.prog 13 #[.agg (zc z), .agg (sc s), .int .i64 n] w fun e w' => e = .returned (.tuple #[.int .i64 (mV z s n), .int .i64 (mE z s n)]) ∧ Later w w' := by
  have C := Lib.hid (fun W => Zone.rcheck_any z W)
  have S := Lib.hid (fun W => rcheck_tab s W)
  have e0 : (ck z != 0) = false := by simpa using h
  have e1 : (sk s != 0) = false := by simpa using ha
  have e2 : decide (n < 401) = true := by simpa using hn
  have hE : mE z s n = 72 := by
    unfold mE; rw [if_pos h, if_pos ha, if_neg (by omega)]
  have HE := Lib.hid hE
  have HV := Lib.hid (show mV z s n = 0 by unfold mV; rw [if_neg (by rw [hE]; omega)])
  clear h hE ha hn
  have HT := Lib.hid (two_tab w z s)
  have HZ := Lib.hid (two_zone w z s)
  have HG0 := Lib.hid (((Later.refl w).alloc (zc z) 35).alloc (sc s) 23)
  unfold zc sc at *
  go_enter Tryd.func13, Tryd.ntmps13
  go_wp2_with fail
  refine (C.out _).mono ?_
  rintro e w1 ⟨rfl, hg1⟩
  have HG1 := Lib.hid hg1
  clear hg1
  obtain ⟨k0, k1, k2, k3, k4, k5, k6, k7, k8, k9, k10, k11⟩ := (HT.out.later HG1.out).all
  go_wp2_with fail
  refine (S.out _).mono ?_
  rintro e w2 ⟨rfl, hg2⟩
  clear k0 k1 k2 k3 k4 k5 k6 k7 k8 k9 k10 k11
  have HG2 := Lib.hid (gtrans HG1.out hg2)
  clear hg2
  go_wp2_with fail
  go_ret2
  exact ⟨ret2 HV.out.symm HE.out.symm, gtrans HG0.out HG2.out⟩

set_option maxHeartbeats 1000000 in
theorem rmoment_high (z : Zn) (s : Nat → Int) (n : Int) (w : World) (h : ck z = 0) (ha : sk s = 0) (hn : n > 3651998) : Calls Tryd.prog 13 #[.agg (zc z), .agg (sc s), .int .i64 n] w fun e w' => e = .returned (.tuple #[.int .i64 (mV z s n), .int .i64 (mE z s n)]) ∧ Later w w' := by
  have C := Lib.hid (fun W => Zone.rcheck_any z W)
  have S := Lib.hid (fun W => rcheck_tab s W)
  have e0 : (ck z != 0) = false := by simpa using h
  have e1 : (sk s != 0) = false := by simpa using ha
  have e2 : decide (n < 401) = false := by simp; omega
  have e3 : decide (n > 3651998) = true := by simpa using hn
  have hE : mE z s n = 72 := by
    unfold mE; rw [if_pos h, if_pos ha, if_neg (by omega)]
  have HE := Lib.hid hE
  have HV := Lib.hid (show mV z s n = 0 by unfold mV; rw [if_neg (by rw [hE]; omega)])
  clear h hE ha hn
  have HT := Lib.hid (two_tab w z s)
  have HZ := Lib.hid (two_zone w z s)
  have HG0 := Lib.hid (((Later.refl w).alloc (zc z) 35).alloc (sc s) 23)
  unfold zc sc at *
  go_enter Tryd.func13, Tryd.ntmps13
  go_wp2_with fail
  refine (C.out _).mono ?_
  rintro e w1 ⟨rfl, hg1⟩
  have HG1 := Lib.hid hg1
  clear hg1
  obtain ⟨k0, k1, k2, k3, k4, k5, k6, k7, k8, k9, k10, k11⟩ := (HT.out.later HG1.out).all
  go_wp2_with fail
  refine (S.out _).mono ?_
  rintro e w2 ⟨rfl, hg2⟩
  clear k0 k1 k2 k3 k4 k5 k6 k7 k8 k9 k10 k11
  have HG2 := Lib.hid (gtrans HG1.out hg2)
  clear hg2
  go_wp2_with fail
  go_ret2
  exact ⟨ret2 HV.out.symm HE.out.symm, gtrans HG0.out HG2.out⟩

set_option maxHeartbeats 1000000 in
theorem rmoment_yes (z : Zn) (s : Nat → Int) (n : Int) (w : World) (h : ck z = 0) (ha : sk s = 0) (hn0 : 401 ≤ n) (hn1 : n ≤ 3651998) : Calls Tryd.prog 13 #[.agg (zc z), .agg (sc s), .int .i64 n] w fun e w' => e = .returned (.tuple #[.int .i64 (mV z s n), .int .i64 (mE z s n)]) ∧ Later w w' := by
  have C := Lib.hid (fun W => Zone.rcheck_any z W)
  have S := Lib.hid (fun W => rcheck_tab s W)
  have A := Lib.hid (fun W => rat_any s n W ha (by omega) (by omega))
  have e0 : (ck z != 0) = false := by simpa using h
  have e1 : (sk s != 0) = false := by simpa using ha
  have e2 : decide (n < 401) = false := by simp; omega
  have e3 : decide (n > 3651998) = false := by simp; omega
  have hE : mE z s n = 0 := (mE_ok z s n).2 ⟨h, ha, hn0, hn1⟩
  have HE := Lib.hid hE
  have hb := sa_bd s n ha (by omega) (by omega)
  have hz := (ck_may z).1 h
  unfold May at hz
  obtain ⟨z0, z1, _⟩ := hz
  have HV : Hid (mV z s n = n * 1440 + sa s n - z.b) := Lib.hid (by unfold mV; rw [if_pos hE])
  have q1 := Lib.hid (show IntKind.i64.wrap (n * 1440) = n * 1440 from IntWalk.i64_in _ (by omega))
  have q2 := Lib.hid (show IntKind.i64.wrap (n * 1440 + sa s n) = n * 1440 + sa s n from IntWalk.i64_in _ (by omega))
  have q3 := Lib.hid (show IntKind.i64.wrap (n * 1440 + sa s n - z.b) = n * 1440 + sa s n - z.b from IntWalk.i64_in _ (by omega))
  clear h hE ha
  have HT := Lib.hid (two_tab w z s)
  have HZ := Lib.hid (two_zone w z s)
  have HG0 := Lib.hid (((Later.refl w).alloc (zc z) 35).alloc (sc s) 23)
  unfold zc sc at *
  go_enter Tryd.func13, Tryd.ntmps13
  go_wp2_with fail
  refine (C.out _).mono ?_
  rintro e w1 ⟨rfl, hg1⟩
  have HG1 := Lib.hid hg1
  clear hg1
  obtain ⟨k0, k1, k2, k3, k4, k5, k6, k7, k8, k9, k10, k11⟩ := (HT.out.later HG1.out).all
  go_wp2_with fail
  refine (S.out _).mono ?_
  rintro e w2 ⟨rfl, hg2⟩
  clear k0 k1 k2 k3 k4 k5 k6 k7 k8 k9 k10 k11
  have HG2 := Lib.hid (gtrans HG1.out hg2)
  clear hg2
  go_wp2_with fail
  obtain ⟨k0, k1, k2, k3, k4, k5, k6, k7, k8, k9, k10, k11⟩ := (HT.out.later HG2.out).all
  obtain ⟨j0, _⟩ := HZ.out.later HG2.out
  have x0 := gw_cell k0
  have x1 := gw_cell k1
  have x2 := gw_cell k2
  have x3 := gw_cell k3
  have x4 := gw_cell k4
  have x5 := gw_cell k5
  have x6 := gw_cell k6
  have x7 := gw_cell k7
  have x8 := gw_cell k8
  have x9 := gw_cell k9
  have x10 := gw_cell k10
  have x11 := gw_cell k11
  have y0 := gw_cell j0
  clear k0 k1 k2 k3 k4 k5 k6 k7 k8 k9 k10 k11 j0
  have f1 := q1.out
  have f2 := q2.out
  have f3 := q3.out
  refine region_grown (by kernel_rfl) (by kernel_rfl) ?_
  repeat (go_big_quiet_step ((go_at_call 11; exact in_grown (A.out _))))
  refine wpQuiet_nil (grown_end ?_)
  intro w3 hg3
  clear x0 x1 x2 x3 x4 x5 x6 x7 x8 x9 x10 x11 y0 f1 f2 f3
  go_wp2_with fail
  go_ret2
  exact ⟨ret2 HV.out.symm HE.out.symm, gtrans HG0.out (gtrans HG2.out hg3)⟩

theorem rmoment_any (z : Zn) (s : Nat → Int) (n : Int) (w : World) : Calls Tryd.prog 13 #[.agg (zc z), .agg (sc s), .int .i64 n] w fun e w' => e = .returned (.tuple #[.int .i64 (mV z s n), .int .i64 (mE z s n)]) ∧ Later w w' := by
  by_cases h : ck z = 0
  · by_cases ha : sk s = 0
    · by_cases h0 : n < 401
      · exact rmoment_low z s n w h ha h0
      by_cases h1 : n > 3651998
      · exact rmoment_high z s n w h ha h1
      exact rmoment_yes z s n w h ha (by omega) (by omega)
    · exact rmoment_tab z s n w h ha
  · exact rmoment_zone z s n w h

end Go.Proofs.YtepaiolhflpmeaaDoor.Sun
