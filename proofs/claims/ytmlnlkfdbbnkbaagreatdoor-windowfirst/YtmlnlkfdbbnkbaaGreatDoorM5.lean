/-
  Texts of mine, merged: each part says what it holds. Conditions: as each theorem states.
-/
import Derived.Test.YtmlnlkfdbbnkbaaGreatDoorRows
import Derived.Test.YtmlnlkfdbbnkbaaGreatDoorTie
import Derived.Test.YtmlnlkfdbbnkbaaGreatDoorCards
import Derived.ProofKit
import Derived.LaidMore
import Derived.OpenShut
import Derived.Stop.Joined
import Derived.Lib.LaidTab
import Derived.Lib.SmallJoins
import Derived.SevenTiedAt
import Derived.Laws.CopyOwn
import Derived.Laws.AppendOwnNone
import Derived.Laws.OwnMore
import Derived.Maps.AppendAt
import Derived.RangeFuncBox
import Derived.Deep.MidRow
import Derived.Test.YtmlnlkfdbbnkbaaGreatDoorM4

/- The document's answers on sunsets: which tables may be, the minute of a day, its instant. Conditions: where the minute is asked, the table may be and the day has a date. -/
namespace Go.Proofs.YtmlnlkfdbbnkbaaGreatDoor.Sun
set_option maxRecDepth 100000
open Go.ChangeShapes Go.WideShapes Go.ChangeAt Go.RowKit
open Go.Proofs.YtmlnlkfdbbnkbaaGreatDoor.Divs Go.Proofs.YtmlnlkfdbbnkbaaGreatDoor.Grow Go.Proofs.YtmlnlkfdbbnkbaaGreatDoor.Zone
open Go.Proofs.YtmlnlkfdbbnkbaaGreatDoor.Greg (Laid)
open Go.Proofs.YtmlnlkfdbbnkbaaGreatDoor.Cal (dm yr om od)
open Go.Proofs.YtmlnlkfdbbnkbaaGreatDoor.Zo Go.Proofs.YtmlnlkfdbbnkbaaGreatDoor.Su

def ERel (s : Nat → Int) (w : World) (i : Value) (wr : World) : Prop := ∃ k : Nat, k ≤ 12 ∧ i = .int .i64 (k : Int) ∧ (∀ j, j < k → 900 ≤ s j ∧ s j ≤ 1320) ∧ Later w wr

def FRel (s : Nat → Int) (w : World) (i : Value) (wr : World) : Prop := ∃ k : Nat, k ≤ 12 ∧ i = .int .i64 (k : Int) ∧ (∀ j, j < k → -120 ≤ s ((j + 1) % 12) - s j ∧ s ((j + 1) % 12) - s j ≤ 120) ∧ Later w wr

set_option maxHeartbeats 1000000 in
theorem rcheck_tab (s : Nat → Int) (w : World) : Calls Tryz.prog 49 #[.agg (sc s)] w fun e w' => e = .returned (.int .i64 (sk s)) ∧ Later w w' := by
  have HN := Lib.hid (Sat.new w s)
  have HG := Lib.hid ((Later.refl w).alloc (sc s) 30)
  unfold sc at *
  go_enter Tryz.func49, Tryz.ntmps49
  go_wp2
  go_loopw [3] (fun i wr => ERel s (w.alloc (.cells #[.int .i64 (s 0), .int .i64 (s 1), .int .i64 (s 2), .int .i64 (s 3), .int .i64 (s 4), .int .i64 (s 5), .int .i64 (s 6), .int .i64 (s 7), .int .i64 (s 8), .int .i64 (s 9), .int .i64 (s 10), .int .i64 (s 11)] 30)) i wr) (fun i _ => 12 - (intOf i).toNat)
  case atStart => exact ⟨0, by omega, rfl, by omega, Later.refl _⟩
  case round =>
    obtain ⟨k, hk, rfl, hj, hg⟩ := hrel
    have HGR := Lib.hid hg
    clear hg
    by_cases hlt : k < 12
    · have c := HN.out.later HGR.out k hlt
      by_cases h1 : s k < 900
      · have HV := Lib.hid (sk_m s k hlt (by omega))
        clear hj
        go_wp2
        go_ret
        exact ⟨reti HV.out.symm, gtrans HG.out HGR.out⟩
      by_cases h2 : s k > 1320
      · have HV := Lib.hid (sk_m s k hlt (by omega))
        clear hj
        go_wp2
        go_ret
        exact ⟨reti HV.out.symm, gtrans HG.out HGR.out⟩
      have HJ : Hid (∀ j, j < k + 1 → 900 ≤ s j ∧ s j ≤ 1320) := Lib.hid (fun j h => by
        by_cases e : j = k
        · rw [e]; omega
        · exact hj j (by omega))
      clear hj
      go_wp2
      go_roundw
      case rel => exact ⟨k + 1, by omega, by go_num, HJ.out, HGR.out⟩
      case measure => simp [intOf]; omega
    · obtain rfl : k = 12 := by omega
      have HM : Hid (okM s) := Lib.hid hj
      clear hj hlt hk
      go_wp2
      go_loopw [4] (fun i w2 => FRel s wr i w2) (fun i _ => 12 - (intOf i).toNat)
      case atStart => exact ⟨0, by omega, rfl, by omega, Later.refl _⟩
      case round =>
        obtain ⟨k, hk, rfl, hj, hg⟩ := hrel
        have HG2 := Lib.hid (gtrans HGR.out hg)
        have HG3 := Lib.hid hg
        clear hg
        by_cases hlt : k < 12
        · have b0 := HM.out k hlt
          have b1 := HM.out ((k + 1) % 12) (by omega)
          have c0 := HN.out.later HG2.out k hlt
          obtain ⟨j, hjd⟩ : ∃ j, j = (k + 1) % 12 := ⟨_, rfl⟩
          have j12 : j < 12 := by omega
          have c1 := HN.out.later HG2.out j j12
          have HJD := Lib.hid hjd
          have e1 : IntKind.i64.wrap ((k : Int) + 1) = (k : Int) + 1 := IntWalk.i64_in _ (by omega)
          have e2 : ((k : Int) + 1).tmod 12 = (j : Int) := by rw [Int.tmod_eq_emod_of_nonneg (by omega)]; omega
          have e3 : IntKind.i64.wrap (s j - s k) = s j - s k := by rw [hjd]; exact IntWalk.i64_in _ (by omega)
          clear hjd b0 b1
          go_wp2
          go_quiet (fail)
          clear c0 c1 e1 e2 e3
          have hjd := HJD.out
          subst hjd
          generalize hx : s ((k + 1) % 12) - s k = x at *
          by_cases h1 : x > 120
          · have HV := Lib.hid (sk_s s k hlt HM.out (by omega))
            clear hj
            go_wp2
            go_ret
            exact ⟨reti HV.out.symm, gtrans HG.out HG2.out⟩
          by_cases h2 : x < -120
          · have HV := Lib.hid (sk_s s k hlt HM.out (by omega))
            clear hj
            go_wp2
            go_ret
            exact ⟨reti HV.out.symm, gtrans HG.out HG2.out⟩
          have HJ : Hid (∀ j, j < k + 1 → -120 ≤ s ((j + 1) % 12) - s j ∧ s ((j + 1) % 12) - s j ≤ 120) := Lib.hid (fun j h => by
            by_cases e : j = k
            · rw [e]; omega
            · exact hj j (by omega))
          clear hj
          go_wp2
          go_roundw
          case rel => exact ⟨k + 1, by omega, by go_num, HJ.out, HG3.out⟩
          case measure => simp [intOf]; omega
        · obtain rfl : k = 12 := by omega
          have HV := Lib.hid ((sk_ok s).2 ⟨HM.out, hj⟩)
          clear hj hlt hk
          go_wp2
          go_ret
          exact ⟨reti HV.out.symm, gtrans HG.out HG2.out⟩

set_option maxHeartbeats 1000000 in
theorem rat_any (s : Nat → Int) (n : Int) (w : World) (h : sk s = 0) (h1 : 1 ≤ n) (h2 : n ≤ 3652059) : Calls Tryz.prog 54 #[.agg (sc s), .int .i64 n] w fun e w' => e = .returned (.int .i64 (sa s n)) ∧ Later w w' := by
  have O := Lib.hid (fun W => Greg.rof_any n W h1 h2)
  have hd := date_bd n h1 h2
  have hb := gone_bd s n h h1 h2
  have D := Lib.hid (fun W => same_g (Greg.rdays_any (yr n) (om n) W))
  have V := Lib.hid (fun W => drew_g (rdiv_any ((tb s n - ta s n) * (od n - 1)) (dm (yr n) (om n)) W (by omega) (by omega) (by omega) (by omega)))
  have HV : Hid (sa s n = ta s n + (tb s n - ta s n) * (od n - 1) / dm (yr n) (om n)) := Lib.hid rfl
  have hsa := sa_bd s n h h1 h2
  unfold sa at hsa
  have HN := Lib.hid (Sat.new w s)
  obtain ⟨a0, a1, b0, b1, _, _, o0, o1, _, _, p0, p1⟩ := hb
  obtain ⟨_, _, m0, m1, _, _⟩ := hd
  clear h h1 h2
  have HW := Lib.hid ((Later.refl w).alloc (sc s) 30)
  unfold sc at *
  go_enter Tryz.func54, Tryz.ntmps54
  go_wp2_with fail
  refine (O.out _).mono ?_
  rintro e w2 ⟨rfl, hg2⟩
  have HG2 := Lib.hid hg2
  clear hg2
  have x0 : (w2.alloc (.cells #[.int .i64 (yr n), .int .i64 (om n), .int .i64 (od n)] 129)).cell? ⟨w.heap.size, (om n).toNat - 1, none⟩ = some (.int .i64 (ta s n)) := (HN.out.later (HG2.out.alloc _ _)) _ (by omega)
  have x1 : (w2.alloc (.cells #[.int .i64 (yr n), .int .i64 (om n), .int .i64 (od n)] 129)).cell? ⟨w.heap.size, (om n % 12).toNat, none⟩ = some (.int .i64 (tb s n)) := by
    rw [show (om n % 12).toNat = (om n).toNat % 12 by omega]
    exact (HN.out.later (HG2.out.alloc _ _)) _ (by omega)
  go_wp2_with fail
  clear x0 x1
  have d0 := gw_cell (date_cell w2 (yr n) (om n) (od n)).1
  have d1 := gw_cell (date_cell w2 (yr n) (om n) (od n)).2.1
  have d2 := gw_cell (date_cell w2 (yr n) (om n) (od n)).2.2
  have e1 : IntKind.i64.wrap (tb s n - ta s n) = tb s n - ta s n := IntWalk.i64_in _ (by omega)
  have e2 : IntKind.i64.wrap (od n - 1) = od n - 1 := IntWalk.i64_in _ (by omega)
  have e3 : IntKind.i64.wrap ((tb s n - ta s n) * (od n - 1)) = (tb s n - ta s n) * (od n - 1) := IntWalk.i64_in _ (by omega)
  have e4 : IntKind.i64.wrap (ta s n + (tb s n - ta s n) * (od n - 1) / dm (yr n) (om n)) = ta s n + (tb s n - ta s n) * (od n - 1) / dm (yr n) (om n) := IntWalk.i64_in _ (by omega)
  refine region_grown (by kernel_rfl) (by kernel_rfl) ?_
  repeat (go_big_quiet_step (first | (go_at_call 83; exact in_grown (D.out _)) | (go_at_call 82; exact in_grown (V.out _))))
  refine wpQuiet_nil (grown_end ?_)
  intro w4 hg4
  clear d0 d1 d2 e1 e2 e3 e4
  go_wp2_with fail
  go_ret
  exact ⟨reti HV.out.symm, gtrans HW.out (gtrans (HG2.out.alloc _ _) hg4)⟩

set_option maxHeartbeats 1000000 in
theorem rmoment_zone (z : Zn) (s : Nat → Int) (n : Int) (w : World) (h : ¬ ck z = 0) : Calls Tryz.prog 32 #[.agg (zc z), .agg (sc s), .int .i64 n] w fun e w' => e = .returned (.tuple #[.int .i64 (mV z s n), .int .i64 (mE z s n)]) ∧ Later w w' := by
  have C := Lib.hid (fun W => Zone.rcheck_any z W)
  have S := Lib.hid (fun W => rcheck_tab s W)
  have e0 : (ck z != 0) = true := by simpa using h
  have hE : mE z s n = ck z := by unfold mE; rw [if_neg h]
  have HE := Lib.hid hE
  have HV := Lib.hid (show mV z s n = 0 by unfold mV; rw [if_neg (by rw [hE]; exact h)])
  clear h hE
  have HT := Lib.hid (two_tab w z s)
  have HZ := Lib.hid (two_zone w z s)
  have HG0 := Lib.hid (((Later.refl w).alloc (zc z) 28).alloc (sc s) 30)
  unfold zc sc at *
  go_enter Tryz.func32, Tryz.ntmps32
  go_wp2_with fail
  refine (C.out _).mono ?_
  rintro e w1 ⟨rfl, hg1⟩
  have HG1 := Lib.hid hg1
  clear hg1
  go_wp2_with fail
  go_ret2
  exact ⟨ret2 HV.out.symm HE.out.symm, gtrans HG0.out HG1.out⟩

set_option maxHeartbeats 1000000 in
theorem rmoment_tab (z : Zn) (s : Nat → Int) (n : Int) (w : World) (h : ck z = 0) (ha : ¬ sk s = 0) : Calls Tryz.prog 32 #[.agg (zc z), .agg (sc s), .int .i64 n] w fun e w' => e = .returned (.tuple #[.int .i64 (mV z s n), .int .i64 (mE z s n)]) ∧ Later w w' := by
  have C := Lib.hid (fun W => Zone.rcheck_any z W)
  have S := Lib.hid (fun W => rcheck_tab s W)
  have e0 : (ck z != 0) = false := by simpa using h
  have e1 : (sk s != 0) = true := by simpa using ha
  have hE : mE z s n = sk s := by unfold mE; rw [if_pos h, if_neg ha]
  have HE := Lib.hid hE
  have HV := Lib.hid (show mV z s n = 0 by unfold mV; rw [if_neg (by rw [hE]; exact ha)])
  clear h hE ha
  have HT := Lib.hid (two_tab w z s)
  have HZ := Lib.hid (two_zone w z s)
  have HG0 := Lib.hid (((Later.refl w).alloc (zc z) 28).alloc (sc s) 30)
  unfold zc sc at *
  go_enter Tryz.func32, Tryz.ntmps32
  go_wp2_with fail
  refine (C.out _).mono ?_
  rintro e w1 ⟨rfl, hg1⟩
  have HG1 := Lib.hid hg1
  clear hg1
  obtain ⟨k0, k1, k2, k3, k4, k5, k6, k7, k8, k9, k10, k11⟩ := (HT.out.later HG1.out).all
  go_wp2_with fail
  refine (S.out _).mono ?_
  rintro e w2 ⟨rfl, hg2⟩
  clear k0 k1 k2 k3 k4 k5 k6 k7 k8 k9 k10 k11
  have HG2 := Lib.hid (gtrans HG1.out hg2)
  clear hg2
  go_wp2_with fail
  go_ret2
  exact ⟨ret2 HV.out.symm HE.out.symm, gtrans HG0.out HG2.out⟩

set_option maxHeartbeats 1000000 in
theorem rmoment_low (z : Zn) (s : Nat → Int) (n : Int) (w : World) (h : ck z = 0) (ha : sk s = 0) (hn : n < 401) : Calls Tryz.prog 32 #[.agg (zc z), .agg (sc s), .int .i64 n] w fun e w' => e = .returned (.tuple #[.int .i64 (mV z s n), .int .i64 (mE z s n)]) ∧ Later w w' := by
  have C := Lib.hid (fun W => Zone.rcheck_any z W)
  have S := Lib.hid (fun W => rcheck_tab s W)
  have e0 : (ck z != 0) = false := by simpa using h
  have e1 : (sk s != 0) = false := by simpa using ha
  have e2 : decide (n < 401) = true := by simpa using hn
  have hE : mE z s n = 72 := by
    unfold mE; rw [if_pos h, if_pos ha, if_neg (by omega)]
  have HE := Lib.hid hE
  have HV := Lib.hid (show mV z s n = 0 by unfold mV; rw [if_neg (by rw [hE]; omega)])
  clear h hE ha hn
  have HT := Lib.hid (two_tab w z s)
  have HZ := Lib.hid (two_zone w z s)
  have HG0 := Lib.hid (((Later.refl w).alloc (zc z) 28).alloc (sc s) 30)
  unfold zc sc at *
  go_enter Tryz.func32, Tryz.ntmps32
  go_wp2_with fail
  refine (C.out _).mono ?_
  rintro e w1 ⟨rfl, hg1⟩
  have HG1 := Lib.hid hg1
  clear hg1
  obtain ⟨k0, k1, k2, k3, k4, k5, k6, k7, k8, k9, k10, k11⟩ := (HT.out.later HG1.out).all
  go_wp2_with fail
  refine (S.out _).mono ?_
  rintro e w2 ⟨rfl, hg2⟩
  clear k0 k1 k2 k3 k4 k5 k6 k7 k8 k9 k10 k11
  have HG2 := Lib.hid (gtrans HG1.out hg2)
  clear hg2
  go_wp2_with fail
  go_ret2
  exact ⟨ret2 HV.out.symm HE.out.symm, gtrans HG0.out HG2.out⟩

set_option maxHeartbeats 1000000 in
theorem rmoment_high (z : Zn) (s : Nat → Int) (n : Int) (w : World) (h : ck z = 0) (ha : sk s = 0) (hn : n > 3651998) : Calls Tryz.prog 32 #[.agg (zc z), .agg (sc s), .int .i64 n] w fun e w' => e = .returned (.tuple #[.int .i64 (mV z s n), .int .i64 (mE z s n)]) ∧ Later w w' := by
  have C := Lib.hid (fun W => Zone.rcheck_any z W)
  have S := Lib.hid (fun W => rcheck_tab s W)
  have e0 : (ck z != 0) = false := by simpa using h
  have e1 : (sk s != 0) = false := by simpa using ha
  have e2 : decide (n < 401) = false := by simp; omega
  have e3 : decide (n > 3651998) = true := by simpa using hn
  have hE : mE z s n = 72 := by
    unfold mE; rw [if_pos h, if_pos ha, if_neg (by omega)]
  have HE := Lib.hid hE
  have HV := Lib.hid (show mV z s n = 0 by unfold mV; rw [if_neg (by rw [hE]; omega)])
  clear h hE ha hn
  have HT := Lib.hid (two_tab w z s)
  have HZ := Lib.hid (two_zone w z s)
  have HG0 := Lib.hid (((Later.refl w).alloc (zc z) 28).alloc (sc s) 30)
  unfold zc sc at *
  go_enter Tryz.func32, Tryz.ntmps32
  go_wp2_with fail
  refine (C.out _).mono ?_
  rintro e w1 ⟨rfl, hg1⟩
  have HG1 := Lib.hid hg1
  clear hg1
  obtain ⟨k0, k1, k2, k3, k4, k5, k6, k7, k8, k9, k10, k11⟩ := (HT.out.later HG1.out).all
  go_wp2_with fail
  refine (S.out _).mono ?_
  rintro e w2 ⟨rfl, hg2⟩
  clear k0 k1 k2 k3 k4 k5 k6 k7 k8 k9 k10 k11
  have HG2 := Lib.hid (gtrans HG1.out hg2)
  clear hg2
  go_wp2_with fail
  go_ret2
  exact ⟨ret2 HV.out.symm HE.out.symm, gtrans HG0.out HG2.out⟩

set_option maxHeartbeats 1000000 in
theorem rmoment_yes (z : Zn) (s : Nat → Int) (n : Int) (w : World) (h : ck z = 0) (ha : sk s = 0) (hn0 : 401 ≤ n) (hn1 : n ≤ 3651998) : Calls Tryz.prog 32 #[.agg (zc z), .agg (sc s), .int .i64 n] w fun e w' => e = .returned (.tuple #[.int .i64 (mV z s n), .int .i64 (mE z s n)]) ∧ Later w w' := by
  have C := Lib.hid (fun W => Zone.rcheck_any z W)
  have S := Lib.hid (fun W => rcheck_tab s W)
  have A := Lib.hid (fun W => rat_any s n W ha (by omega) (by omega))
  have e0 : (ck z != 0) = false := by simpa using h
  have e1 : (sk s != 0) = false := by simpa using ha
  have e2 : decide (n < 401) = false := by simp; omega
  have e3 : decide (n > 3651998) = false := by simp; omega
  have hE : mE z s n = 0 := (mE_ok z s n).2 ⟨h, ha, hn0, hn1⟩
  have HE := Lib.hid hE
  have hb := sa_bd s n ha (by omega) (by omega)
  have hz := (ck_may z).1 h
  unfold May at hz
  obtain ⟨z0, z1, _⟩ := hz
  have HV : Hid (mV z s n = n * 1440 + sa s n - z.b) := Lib.hid (by unfold mV; rw [if_pos hE])
  have q1 := Lib.hid (show IntKind.i64.wrap (n * 1440) = n * 1440 from IntWalk.i64_in _ (by omega))
  have q2 := Lib.hid (show IntKind.i64.wrap (n * 1440 + sa s n) = n * 1440 + sa s n from IntWalk.i64_in _ (by omega))
  have q3 := Lib.hid (show IntKind.i64.wrap (n * 1440 + sa s n - z.b) = n * 1440 + sa s n - z.b from IntWalk.i64_in _ (by omega))
  clear h hE ha
  have HT := Lib.hid (two_tab w z s)
  have HZ := Lib.hid (two_zone w z s)
  have HG0 := Lib.hid (((Later.refl w).alloc (zc z) 28).alloc (sc s) 30)
  unfold zc sc at *
  go_enter Tryz.func32, Tryz.ntmps32
  go_wp2_with fail
  refine (C.out _).mono ?_
  rintro e w1 ⟨rfl, hg1⟩
  have HG1 := Lib.hid hg1
  clear hg1
  obtain ⟨k0, k1, k2, k3, k4, k5, k6, k7, k8, k9, k10, k11⟩ := (HT.out.later HG1.out).all
  go_wp2_with fail
  refine (S.out _).mono ?_
  rintro e w2 ⟨rfl, hg2⟩
  clear k0 k1 k2 k3 k4 k5 k6 k7 k8 k9 k10 k11
  have HG2 := Lib.hid (gtrans HG1.out hg2)
  clear hg2
  go_wp2_with fail
  obtain ⟨k0, k1, k2, k3, k4, k5, k6, k7, k8, k9, k10, k11⟩ := (HT.out.later HG2.out).all
  obtain ⟨j0, _⟩ := HZ.out.later HG2.out
  have x0 := gw_cell k0
  have x1 := gw_cell k1
  have x2 := gw_cell k2
  have x3 := gw_cell k3
  have x4 := gw_cell k4
  have x5 := gw_cell k5
  have x6 := gw_cell k6
  have x7 := gw_cell k7
  have x8 := gw_cell k8
  have x9 := gw_cell k9
  have x10 := gw_cell k10
  have x11 := gw_cell k11
  have y0 := gw_cell j0
  clear k0 k1 k2 k3 k4 k5 k6 k7 k8 k9 k10 k11 j0
  have f1 := q1.out
  have f2 := q2.out
  have f3 := q3.out
  refine region_grown (by kernel_rfl) (by kernel_rfl) ?_
  repeat (go_big_quiet_step ((go_at_call 54; exact in_grown (A.out _))))
  refine wpQuiet_nil (grown_end ?_)
  intro w3 hg3
  clear x0 x1 x2 x3 x4 x5 x6 x7 x8 x9 x10 x11 y0 f1 f2 f3
  go_wp2_with fail
  go_ret2
  exact ⟨ret2 HV.out.symm HE.out.symm, gtrans HG0.out (gtrans HG2.out hg3)⟩

theorem rmoment_any (z : Zn) (s : Nat → Int) (n : Int) (w : World) : Calls Tryz.prog 32 #[.agg (zc z), .agg (sc s), .int .i64 n] w fun e w' => e = .returned (.tuple #[.int .i64 (mV z s n), .int .i64 (mE z s n)]) ∧ Later w w' := by
  by_cases h : ck z = 0
  · by_cases ha : sk s = 0
    · by_cases h0 : n < 401
      · exact rmoment_low z s n w h ha h0
      by_cases h1 : n > 3651998
      · exact rmoment_high z s n w h ha h1
      exact rmoment_yes z s n w h ha (by omega) (by omega)
    · exact rmoment_tab z s n w h ha
  · exact rmoment_zone z s n w h

end Go.Proofs.YtmlnlkfdbbnkbaaGreatDoor.Sun

/- From the condition on the table of months (what the program's own text lays there) to what the walks ask, and a start that meets it. No further condition. -/
namespace Go.Proofs.YtmlnlkfdbbnkbaaGreatDoor.Greg
set_option maxRecDepth 100000
open Go.ChangeShapes Go.WideShapes Go.ChangeAt Go.RowKit
open Go.Proofs.YtmlnlkfdbbnkbaaGreatDoor.Divs Go.Proofs.YtmlnlkfdbbnkbaaGreatDoor.Grow

theorem own : ownKnob Tryz.prog.godebug = none := by kernel_rfl
theorem cells3 : Tryz.prog.cellsOf 3 = 1 := by kernel_rfl
theorem cells23 : Tryz.prog.cellsOf 129 = 3 := by kernel_rfl
theorem cells39 : Tryz.prog.cellsOf 29 = 12 := by kernel_rfl
theorem gMonths : Tryz.prog.globalNamed "newel/greg.monthDays" = some 0 := by kernel_rfl
theorem tMonths : (Tryz.prog.globals[0]?).map (·.type) = some 29 := by kernel_rfl

def laidL : List (String × DataW Unit) := [("newel/greg.monthDays", Rows.laid_newel_greg_monthDays)]

theorem of_laid {W : World} (h : laidMetH Tryz.prog laidL W) : Laid W := by
  unfold laidL at h
  rw [MakeChecks.laidMetH_plain _ _ _ (by kernel_rfl)] at h
  have t : Lib.TabIs Tryz.prog W "newel/greg.monthDays" .i64 [31, 28, 31, 30, 31, 30, 31, 31, 30, 31, 30, 31] :=
    Lib.tabIs_of_head (rest := []) gMonths tMonths Tryz.underlying29 Tryz.underlying3 cells3 cells39 h
  intro i hi
  rw [t.cell gMonths i (by simpa using hi)]
  obtain rfl | rfl | rfl | rfl | rfl | rfl | rfl | rfl | rfl | rfl | rfl | rfl : i = 0 ∨ i = 1 ∨ i = 2 ∨ i = 3 ∨ i = 4 ∨ i = 5 ∨ i = 6 ∨ i = 7 ∨ i = 8 ∨ i = 9 ∨ i = 10 ∨ i = 11 := by omega
  all_goals rfl

theorem door_met (os : Os) (args : Array Value) : laidMetH Tryz.prog laidL ((World.doorLaid Tryz.prog 400 os).forCall (fun _ _ => 0) ⟨#[], args, []⟩).memory :=
  laidMetH_of_parts3 (fuel := 8) (laidMet_of_run' 8 (by kernel_rfl) (by kernel_rfl)) (by kernel_rfl) (by kernel_rfl)

open Go.Proofs.YtmlnlkfdbbnkbaaGreatDoor.Zo Go.Proofs.YtmlnlkfdbbnkbaaGreatDoor.Zone Go.Joins

/-- A zone's numbers are ints. -/
def Zwf (z : Zn) : Prop := (Lit.int .i64 z.b).wf = true ∧ (Lit.int .i64 z.s).wf = true ∧ (Lit.int .i64 z.p.m).wf = true ∧ (Lit.int .i64 z.p.k).wf = true ∧ (Lit.int .i64 z.p.v).wf = true ∧ (Lit.int .i64 z.p.u).wf = true ∧ (Lit.int .i64 z.q.m).wf = true ∧ (Lit.int .i64 z.q.k).wf = true ∧ (Lit.int .i64 z.q.v).wf = true ∧ (Lit.int .i64 z.q.u).wf = true

/-- A zone's datum. -/
def zd {H : Type} (z : Zn) : DataW H := .agg [.lit (.int .i64 z.b), .lit (.int .i64 z.s), .agg [.lit (.int .i64 z.p.m), .lit (.int .i64 z.p.k), .lit (.int .i64 z.p.v), .lit (.int .i64 z.p.u)], .agg [.lit (.int .i64 z.q.m), .lit (.int .i64 z.q.k), .lit (.int .i64 z.q.v), .lit (.int .i64 z.q.u)]]

theorem cellsT : Tryz.prog.cellsOf 26 = 4 := by kernel_rfl
theorem cellsZ : Tryz.prog.cellsOf 28 = 10 := by kernel_rfl

section
variable {H : Type} {enc : TypeId × Value → H} {w : World} {base : Nat} {spare : Nat → Bool} {held : Bool}

theorem open_turn {n : Nat} {v0 v1 v2 v3 : Value} {x : DataW H × List MemPlace} (h : DataW.trod enc Tryz.prog w base spare held n 26 [v0, v1, v2, v3] = some x) :
    ∃ t : Tn, v0 = .int .i64 t.m ∧ v1 = .int .i64 t.k ∧ v2 = .int .i64 t.v ∧ v3 = .int .i64 t.u ∧ x = (.agg [.lit (.int .i64 t.m), .lit (.int .i64 t.k), .lit (.int .i64 t.v), .lit (.int .i64 t.u)], []) ∧
      ((Lit.int .i64 t.m).wf = true ∧ (Lit.int .i64 t.k).wf = true ∧ (Lit.int .i64 t.v).wf = true ∧ (Lit.int .i64 t.u).wf = true) := by
  obtain ⟨y0, y1, y2, y3, n', hx, _, h0, h1, h2, h3⟩ := trod_struct4 Tryz.underlying26 h
  simp [cells3] at h0 h1 h2 h3
  obtain ⟨a, e0, rfl, w0⟩ := DataW.trod_int Tryz.underlying3 h0
  obtain ⟨b, e1, rfl, w1⟩ := DataW.trod_int Tryz.underlying3 h1
  obtain ⟨c, e2, rfl, w2⟩ := DataW.trod_int Tryz.underlying3 h2
  obtain ⟨d, e3, rfl, w3⟩ := DataW.trod_int Tryz.underlying3 h3
  simp only [List.cons.injEq, and_true] at e0 e1 e2 e3
  exact ⟨⟨a, b, c, d⟩, e0, e1, e2, e3, by simpa using hx, w0, w1, w2, w3⟩

theorem shut_turn (t : Tn) (h : (Lit.int .i64 t.m).wf = true ∧ (Lit.int .i64 t.k).wf = true ∧ (Lit.int .i64 t.v).wf = true ∧ (Lit.int .i64 t.u).wf = true) :
    DataW.trod enc Tryz.prog w base spare held 2 26 [.int .i64 t.m, .int .i64 t.k, .int .i64 t.v, .int .i64 t.u] = some (.agg [.lit (.int .i64 t.m), .lit (.int .i64 t.k), .lit (.int .i64 t.v), .lit (.int .i64 t.u)], []) := by
  obtain ⟨w0, w1, w2, w3⟩ := h
  have := trod_struct4_mk (enc := enc) (w := w) (base := base) (spare := spare) (held := held) (n := 1) (cs := [.int .i64 t.m, .int .i64 t.k, .int .i64 t.v, .int .i64 t.u]) (y0 := (.lit (.int .i64 t.m), [])) (y1 := (.lit (.int .i64 t.k), [])) (y2 := (.lit (.int .i64 t.v), [])) (y3 := (.lit (.int .i64 t.u), [])) Tryz.underlying26 (by rw [cellsT]; rfl)
    (by simp [cells3, DataW.trod, Tryz.underlying3, w0]) (by simp [cells3, DataW.trod, Tryz.underlying3, w1]) (by simp [cells3, DataW.trod, Tryz.underlying3, w2]) (by simp [cells3, DataW.trod, Tryz.underlying3, w3])
  simpa using this

theorem open_zone {r : Reach} {b0 : Nat} {v : Value} {d : DataW H} {p : List MemPlace} (hv : Value.okWide Tryz.prog w r b0 28 v) (h : DataW.Trod enc Tryz.prog w base spare held 28 v d p) :
    ∃ z : Zn, v = .agg (zc z) ∧ d = zd z ∧ p = [] ∧ Zwf z := by
  obtain ⟨cs, rfl, hsz⟩ := okWide_struct Tryz.underlying28 hv
  obtain ⟨l⟩ := cs
  match l, hsz.trans cellsZ with
  | [c0, c1, c2, c3, c4, c5, c6, c7, c8, c9], _ =>
    obtain ⟨fuel, hf⟩ := h
    obtain ⟨y0, y1, y2, y3, n, hx, _, h0, h1, h2, h3⟩ := trod_struct4 Tryz.underlying28 hf
    simp [Value.cells, cells3] at h0 h1
    simp [Value.cells, cellsT] at h2 h3
    obtain ⟨a, e0, rfl, w0⟩ := DataW.trod_int Tryz.underlying3 h0
    obtain ⟨b, e1, rfl, w1⟩ := DataW.trod_int Tryz.underlying3 h1
    obtain ⟨s, rfl, rfl, rfl, rfl, rfl, ws0, ws1, ws2, ws3⟩ := open_turn h2
    obtain ⟨t, rfl, rfl, rfl, rfl, rfl, wt0, wt1, wt2, wt3⟩ := open_turn h3
    simp only [List.cons.injEq, and_true] at e0 e1
    subst e0 e1
    simp only [Prod.mk.injEq] at hx
    exact ⟨⟨a, b, s, t⟩, rfl, hx.1, by simpa using hx.2, w0, w1, ws0, ws1, ws2, ws3, wt0, wt1, wt2, wt3⟩

theorem shut_zone (z : Zn) (h : Zwf z) : DataW.Trod enc Tryz.prog w base spare held 28 (.agg (zc z)) (zd z) [] := by
  obtain ⟨w0, w1, ws0, ws1, ws2, ws3, wt0, wt1, wt2, wt3⟩ := h
  have hp := shut_turn (enc := enc) (w := w) (base := base) (spare := spare) (held := held) z.p ⟨ws0, ws1, ws2, ws3⟩
  have hq := shut_turn (enc := enc) (w := w) (base := base) (spare := spare) (held := held) z.q ⟨wt0, wt1, wt2, wt3⟩
  have := trod_struct4_mk (enc := enc) (w := w) (base := base) (spare := spare) (held := held) (n := 2) (cs := (zc z).toList) (y0 := (.lit (.int .i64 z.b), [])) (y1 := (.lit (.int .i64 z.s), [])) (y2 := (.agg [.lit (.int .i64 z.p.m), .lit (.int .i64 z.p.k), .lit (.int .i64 z.p.v), .lit (.int .i64 z.p.u)], [])) (y3 := (.agg [.lit (.int .i64 z.q.m), .lit (.int .i64 z.q.k), .lit (.int .i64 z.q.v), .lit (.int .i64 z.q.u)], [])) Tryz.underlying28 (by rw [cellsZ]; rfl)
    (by simp [zc, cells3, DataW.trod, Tryz.underlying3, w0]) (by simp [zc, cells3, DataW.trod, Tryz.underlying3, w1]) (by simpa [zc, cellsT] using hp) (by simpa [zc, cellsT] using hq)
  exact ⟨3, by simpa [Value.cells, zc, zd] using this⟩

end

end Go.Proofs.YtmlnlkfdbbnkbaaGreatDoor.Greg

/- Slices of bytes and of numbers, wherever they lie: cut, appended, made, compared. No condition but those that each theorem states. -/
namespace Go.Proofs.YtmlnlkfdbbnkbaaGreatDoor.By
set_option maxRecDepth 100000
open Go.ChangeShapes Go.WideShapes Go.ChangeAt Go.RowKit
open Go.Proofs.YtmlnlkfdbbnkbaaGreatDoor.Divs Go.Proofs.YtmlnlkfdbbnkbaaGreatDoor.Grow

theorem info_byte : (Tryz.prog.info? 5).map (fun i => (i.zero, i.size, i.bytes)) = some (some (.int .u8 0), 1, 1) := by kernel_rfl

theorem info_int : (Tryz.prog.info? 3).map (fun i => (i.zero, i.size, i.bytes)) = some (some (.int .i64 0), 1, 8) := by kernel_rfl

/-- v is a slice of these numbers. -/
def Sk (k : IntKind) (W : World) (v : Value) (xs : List Int) : Prop :=
  ∃ (ad : Option Addr) (cap : Nat), v = .slice ad xs.length cap ∧ xs.length ≤ cap ∧ cap ≤ 9223372036854775807 ∧ (ad = none → cap = 0) ∧
    ∀ (i : Nat) (x : Int), xs[i]? = some x → ∃ b off, ad = some ⟨b, off, none⟩ ∧ W.cell? ⟨b, off + i, none⟩ = some (.int k x)

theorem Sk.later {k : IntKind} {W W' : World} {v : Value} {xs : List Int} (h : Sk k W v xs) (g : Later W W') : Sk k W' v xs := by
  obtain ⟨ad, cap, rfl, h1, h2, h3, h4⟩ := h
  refine ⟨ad, cap, rfl, h1, h2, h3, fun i x hx => ?_⟩
  obtain ⟨b, off, e, c⟩ := h4 i x hx
  exact ⟨b, off, e, gsome g c⟩

/-- The cells of a slice that has some. -/
theorem Sk.has {k : IntKind} {W : World} {v : Value} {xs : List Int} (h : Sk k W v xs) (hp : 0 < xs.length) :
    ∃ b off cap, v = .slice (some ⟨b, off, none⟩) xs.length cap ∧ xs.length ≤ cap ∧ cap ≤ 9223372036854775807 ∧ b < W.heap.size ∧ ∀ i, i < xs.length → W.cell? ⟨b, off + i, none⟩ = some (.int k (xs.getD i 0)) := by
  obtain ⟨ad, cap, rfl, h1, h2, h3, h4⟩ := h
  obtain ⟨b, off, rfl, c0⟩ := h4 0 (xs.getD 0 0) (by simp [hp])
  refine ⟨b, off, cap, rfl, h1, h2, World.block_lt_of_cell? _ _ c0, fun i hi => ?_⟩
  obtain ⟨b', off', e, c⟩ := h4 i (xs.getD i 0) (by simp [hi])
  simp at e
  obtain ⟨rfl, rfl⟩ := e
  exact c

theorem Sk.bare {k : IntKind} {W : World} {v : Value} (h : Sk k W v []) : ∃ ad cap, v = .slice ad 0 cap ∧ cap ≤ 9223372036854775807 ∧ (ad = none → cap = 0) := by
  obtain ⟨ad, cap, rfl, _, h2, h3, _⟩ := h
  exact ⟨ad, cap, rfl, h2, h3⟩

theorem Sk.len {k : IntKind} {W : World} {v : Value} {xs : List Int} (h : Sk k W v xs) : ∃ ad cap, v = .slice ad xs.length cap ∧ xs.length ≤ 9223372036854775807 := by
  obtain ⟨ad, cap, rfl, h1, h2, _⟩ := h
  exact ⟨ad, cap, rfl, by omega⟩

/-- A row that lies whole. -/
theorem Sk.row {k : IntKind} {W : World} {g : Nat} {t : TypeId} {fr : Nat × Nat} {xs : List Int} {cap : Nat} {cs : Array Value} (h : W.heap[g]? = some (.cells cs t fr)) (hc : ∀ (i : Nat) (x : Int), xs[i]? = some x → cs[i]? = some (.int k x)) (h1 : xs.length ≤ cap) (h2 : cap ≤ 9223372036854775807) :
    Sk k W (.slice (some ⟨g, 0, none⟩) xs.length cap) xs := by
  refine ⟨_, cap, rfl, h1, h2, by simp, fun i x hx => ⟨g, 0, rfl, ?_⟩⟩
  rw [Nat.zero_add]
  have := hc i x hx
  simp [World.cell?, h, this]

/-- Bytes that are 0. -/
def zb (n : Nat) : List Value := List.replicate n (.int .u8 0)

theorem add_zero (g j : Nat) : (⟨g, 0, none⟩ : Addr).add j = ⟨g, j, none⟩ := by
  unfold Addr.add
  split
  · rename_i h
    rw [h]
  · simp

/-- v is a slice of these numbers, its cells laid since the world had b blocks. -/
def SL (k : IntKind) (e : TypeId) (W : World) (b : Nat) (v : Value) (xs : List Int) : Prop := W.ownsRow b e 1 v xs.length (xs.map (Value.int k))

theorem SL.later {k : IntKind} {e : TypeId} {W W' : World} {b : Nat} {v : Value} {xs : List Int} (h : SL k e W b v xs) (g : Later W W') : SL k e W' b v xs :=
  World.ownsRow.kept h g.grownBy (by cases v.ownBlock <;> simp)

theorem later_grown {k : IntKind} {e : TypeId} {w a b : World} {v : Value} {xs : List Int} (g : Later w a) (f : SL k e a w.heap.size v xs) (h : a.grownBy b v.ownBlock) : Later w b :=
  Later.of_below (g.below.grown h g.size (fun j e => (World.ownsRow.lt f j e).1))

theorem SL.sk {k : IntKind} {e : TypeId} {W : World} {b : Nat} {v : Value} {xs : List Int} (h : SL k e W b v xs) : Sk k W v xs := by
  rcases h.2 with ⟨hv, h0⟩ | ⟨g, cap, cur, rfl, _, _, h1, h2, _⟩
  · obtain rfl : xs = [] := List.length_eq_zero_iff.1 h0
    exact ⟨none, 0, hv, by simp, by omega, by simp, by simp⟩
  · refine ⟨_, cap, rfl, h1, by simpa [maxLen] using h2, by simp, fun i x hx => ⟨g, 0, rfl, ?_⟩⟩
    have c := World.ownsRow.cells h (g := g) rfl i (.int k x) (by rw [List.getElem?_map, hx]; rfl)
    rw [add_zero] at c
    rw [Nat.zero_add]
    exact c

theorem SL.nil (k : IntKind) (e : TypeId) (W : World) (b : Nat) : SL k e W b (.slice none 0 0) [] := World.ownsRow_nil _ _ _ _

theorem sk_nil (k : IntKind) (W : World) : Sk k W (.slice none 0 0) [] := ⟨none, 0, rfl, by simp, by omega, by simp, by simp⟩

/-- A slice that owns bytes begins somewhere. -/
theorem SL.has {k : IntKind} {e : TypeId} {W : World} {b : Nat} {v : Value} {xs : List Int} (h : SL k e W b v xs) (hp : 0 < xs.length) :
    ∃ g cap, v = .slice (some ⟨g, 0, none⟩) xs.length cap ∧ ∀ j u, (xs.map (Value.int k))[j]? = some u → W.cell? ((⟨g, 0, none⟩ : Addr).add j) = some u := by
  rcases h.2 with ⟨_, h0⟩ | ⟨g, cap, cur, rfl, _⟩
  · omega
  · exact ⟨g, cap, rfl, World.ownsRow.cells h (g := g) rfl⟩

theorem SL.base {k : IntKind} {e : TypeId} {W : World} {b c : Nat} {v : Value} {xs : List Int} (h : SL k e W b v xs) (hb : c ≤ b) : SL k e W c v xs := by
  refine ⟨h.1, ?_⟩
  rcases h.2 with h | ⟨g, cap, cur, hv, h1, h2⟩
  · exact .inl h
  · exact .inr ⟨g, cap, cur, hv, Nat.le_trans hb h1, h2⟩

def IRel (xs ys : List Int) (w : World) (x : Value) (wr : World) : Prop := ∃ i k : Nat, i ≤ xs.length ∧ x = .int .i64 (i : Int) ∧ xs.take i = ys.take i ∧ wr = w.drewN k

theorem take_all (xs ys : List Int) (n : Nat) (hx : n = xs.length) (hl : xs.length = ys.length) (h : xs.take n = ys.take n) : xs = ys := by
  rw [List.take_of_length_le (by omega), List.take_of_length_le (by omega)] at h
  exact h

theorem take_on (xs ys : List Int) (i : Nat) (a : Int) (hx : xs[i]? = some a) (hy : ys[i]? = some a) (h : xs.take i = ys.take i) : xs.take (i + 1) = ys.take (i + 1) := by
  rw [List.take_add_one, List.take_add_one, h, hx, hy]

theorem bool_no {b : Bool} (h : ¬ b = true) : Ending.returned (.bool false) = .returned (.bool b) := by
  cases b
  · rfl
  · exact absurd rfl h

theorem bool_yes {b : Bool} (h : b = true) : Ending.returned (.bool true) = .returned (.bool b) := by rw [h]

/-- A row that has just been laid. -/
theorem sk_new (k : IntKind) (t : TypeId) (xs : List Int) (w : World) (hn : xs.length ≤ 1000) : Sk k (w.alloc (.cells (xs.map (Value.int k)).toArray t)) (.slice (some ⟨w.heap.size, 0, none⟩) xs.length xs.length) xs :=
  Sk.row (heap_alloc_new _ _) (fun i x hx => by simp [hx]) (Nat.le_refl _) (by omega)

/-- A slice as a source of cells: none, or they lie one behind the other. -/
theorem Sk.src {k : IntKind} {W : World} {v : Value} {xs : List Int} (h : Sk k W v xs) :
    (v = .slice none 0 0 ∧ xs = []) ∨ ∃ a cap, v = .slice (some a) xs.length cap ∧ ∀ j u, (xs.map (Value.int k))[j]? = some u → W.cell? (a.add j) = some u := by
  obtain ⟨ad, cap, rfl, h1, h2, h3, h4⟩ := h
  cases ad with
  | none =>
    obtain rfl := h3 rfl
    obtain rfl := List.length_eq_zero_iff.1 (Nat.le_zero.1 h1)
    exact .inl ⟨rfl, rfl⟩
  | some a =>
    refine .inr ⟨a, cap, rfl, fun j u hu => ?_⟩
    rw [List.getElem?_map] at hu
    cases e : xs[j]? with
    | none => rw [e] at hu; simp at hu
    | some x =>
      obtain ⟨b, off, ea, c⟩ := h4 j x e
      simp only [Option.some.injEq] at ea
      rw [e] at hu
      rw [ea, Go.WideShapes.add_plain, c]
      exact hu

/-- An empty slice that has just been made. -/
theorem SL.made (W0 w : World) (h : Later W0 w) : SL .u8 5 (w.alloc (.cells #[] 5)) W0.heap.size (.slice (some ⟨w.heap.size, 0, none⟩) 0 0) [] := by
  refine ⟨rfl, .inr ⟨w.heap.size, 0, #[], rfl, h.size, heap_alloc_new _ _, by simp, by simp, by simp, by simp⟩⟩

/-- A slice that begins its block, one of its numbers turned. -/
theorem Sk.set {k : IntKind} {W : World} {g n cap : Nat} {xs : List Int} (h : Sk k W (.slice (some ⟨g, 0, none⟩) n cap) xs) (i : Nat) (x : Int) (hi : i < xs.length) : Sk k (W.setCell ⟨g, i, none⟩ (.int k x)) (.slice (some ⟨g, 0, none⟩) n cap) (xs.set i x) := by
  obtain ⟨ad, cap', e, h1, h2, h3, h4⟩ := h
  simp only [Value.slice.injEq] at e
  obtain ⟨rfl, rfl, rfl⟩ := e
  refine ⟨_, _, by rw [List.length_set], by rw [List.length_set]; exact h1, h2, by simp, fun j y hy => ?_⟩
  refine ⟨g, 0, rfl, ?_⟩
  rw [Nat.zero_add]
  by_cases hj : j = i
  · subst hj
    obtain ⟨b, off, e, c⟩ := h4 j (xs.getD j 0) (by simp [hi])
    simp only [Option.some.injEq, Addr.mk.injEq, and_true] at e
    obtain ⟨rfl, rfl⟩ := e
    rw [Nat.zero_add] at c
    rw [World.cell?_setCell_same (h := c)]
    rw [List.getElem?_set_self hi] at hy
    simpa using hy
  · rw [List.getElem?_set_ne (by omega)] at hy
    obtain ⟨b, off, e, c⟩ := h4 j y hy
    simp only [Option.some.injEq, Addr.mk.injEq, and_true] at e
    obtain ⟨rfl, rfl⟩ := e
    rw [Nat.zero_add] at c
    rw [World.cell?_setCell_other (h := by intro e; simp only [Addr.mk.injEq, and_true, true_and] at e; omega)]
    exact c

/-- Bytes that have just been made. -/
theorem sk_made (W : World) (n : Nat) (h : n ≤ 100000) : Sk .u8 (W.alloc (.cells (zb n).toArray 5)) (.slice (some ⟨W.heap.size, 0, none⟩) n n) (List.replicate n 0) := by
  have := Sk.row (k := .u8) (xs := List.replicate n 0) (cap := n) (heap_alloc_new W (.cells (zb n).toArray 5)) (fun i x hx => by
    rw [List.getElem?_replicate] at hx
    split at hx
    · rename_i hi
      simp at hx
      subst hx
      simp [zb, hi]
    · simp at hx) (by simp) (by omega)
  simpa using this

end Go.Proofs.YtmlnlkfdbbnkbaaGreatDoor.By

/- Plain facts on configurations, in whole numbers: which windows, and which configurations, may be, and which are the same. No condition but those that each theorem states. -/
namespace Go.Proofs.YtmlnlkfdbbnkbaaGreatDoor.Cf
set_option maxRecDepth 100000
set_option maxRecDepth 100000
open Go.Proofs.YtmlnlkfdbbnkbaaGreatDoor.Zo Go.Proofs.YtmlnlkfdbbnkbaaGreatDoor.Su

/-- A window: kind, mode, weight, argument, shift, minute, length. -/
structure Wn where
  k : Int
  m : Int
  p : Int
  a : Int
  h : Int
  u : Int
  l : Int

/-- A configuration: floors, cars, park; stops; travel, level, open, dwell, lead, close, hold; rest, pater; zone, sunsets, abroad; windows. -/
structure Cg where
  f : Int
  n : Int
  p : Int
  st : List Int
  t : Int
  l : Int
  o : Int
  d : Int
  e : Int
  c : Int
  h : Int
  r : Int
  q : Int
  z : Zn
  s : Nat → Int
  ab : Bool
  ws : List Wn

/-- From a to b. -/
def bt (n a b : Int) : Bool := decide (a ≤ n) && decide (n ≤ b)

theorem bt_iff (n a b : Int) : bt n a b = true ↔ a ≤ n ∧ n ≤ b := by simp [bt]

/-- The ends of what goes by a window's kind: argument, shift, minute, length. -/
structure Ru where
  a0 : Int
  a1 : Int
  h0 : Int
  h1 : Int
  u0 : Int
  u1 : Int
  l0 : Int
  l1 : Int

def rz : Ru := ⟨0, 0, 0, 0, 0, 0, 0, 0⟩

def ru (k : Int) : Ru :=
  if k = 1 then ⟨1, 127, 0, 0, 0, 1439, 1, 10080⟩ else if k = 2 then ⟨401, 3651998, 0, 0, 0, 1439, 1, 10080⟩ else if k = 3 then ⟨1, 7, -7, 7, 0, 1439, 1, 10080⟩ else if k = 4 then ⟨0, 0, 0, 0, 0, 180, 0, 180⟩ else rz

def kn (k : Int) : Bool := bt k 1 4

/-- Does a window keep to a rule? -/
def al (r : Ru) (x : Wn) : Bool := bt x.a r.a0 r.a1 && (bt x.h r.h0 r.h1 && (bt x.u r.u0 r.u1 && bt x.l r.l0 r.l1))

/-- May a window be? -/
def wo (x : Wn) : Bool := kn x.k && (bt x.m 0 5 && (bt x.p 0 99 && al (ru x.k) x))

/-- The error of a window, or 0. -/
def we (x : Wn) : Int := if wo x = true then 0 else 104

theorem we_ok (x : Wn) : we x = 0 ↔ wo x = true := by
  unfold we
  split <;> simp_all

theorem we_two (x : Wn) : we x = 0 ∨ we x = 104 := by
  unfold we
  split <;> simp

/-- Is the size one that may be? -/
def so (c : Cg) : Bool := bt c.f 2 64 && (bt c.n 1 8 && bt c.p 0 (c.f - 1))

/-- The least that a stop may be, by the one ahead of it. -/
def lo (st : List Int) (i : Nat) : Int := if i = 0 then 0 else st.getD (i - 1) 0 + 1

def sg (f : Int) (st : List Int) (i : Nat) : Prop := lo st i ≤ st.getD i 0 ∧ st.getD i 0 ≤ f - 1

instance (f : Int) (st : List Int) (i : Nat) : Decidable (sg f st i) := by unfold sg; infer_instance

/-- Do the first k stops rise, each one a floor? -/
def su (f : Int) (st : List Int) (k : Nat) : Prop := ∀ i, i < k → sg f st i

instance (f : Int) (st : List Int) (k : Nat) : Decidable (su f st k) := by unfold su; infer_instance

/-- May the stops be? -/
def to (c : Cg) : Bool := decide (2 ≤ c.st.length ∧ su c.f c.st c.st.length)

theorem to_iff (c : Cg) : to c = true ↔ 2 ≤ c.st.length ∧ su c.f c.st c.st.length := by simp [to]

theorem su_zero (f : Int) (st : List Int) : su f st 0 := fun i h => absurd h (by omega)

theorem su_on {f : Int} {st : List Int} {k : Nat} (h : su f st k) (g : sg f st k) : su f st (k + 1) := by
  intro i hi
  by_cases e : i = k
  · rw [e]; exact g
  · exact h i (by omega)

theorem lo_succ (st : List Int) (i : Nat) : lo st (i + 1) = st.getD i 0 + 1 := by simp [lo]

theorem su_pos {f : Int} {st : List Int} {k : Nat} (h : su f st k) : ∀ i, i < k → 0 ≤ st.getD i 0 ∧ st.getD i 0 ≤ f - 1 := by
  intro i
  induction i with
  | zero =>
    intro hi
    have := h 0 hi
    simp only [sg, lo, if_true] at this
    exact this
  | succ j ih =>
    intro hi
    have a := ih (by omega)
    have b := h (j + 1) hi
    rw [sg, lo_succ] at b
    omega

theorem lo_pos {f : Int} {st : List Int} {k : Nat} (h : su f st k) : 0 ≤ lo st k := by
  cases k with
  | zero => simp [lo]
  | succ j =>
    rw [lo_succ]
    have := su_pos h j (by omega)
    omega

/-- May the times be? -/
def ti (c : Cg) : Bool :=
  (bt c.t 1 60 && (bt c.l 1 60 && (bt c.o 1 60 && (bt c.d 1 60 && bt c.c 1 60)))) && (bt c.h 0 60 && ((bt c.r 1 300 && bt c.q 1 300) && bt c.e 1 (min (min c.d c.r) c.q)))

/-- May the windows be? -/
def wa (ws : List Wn) : Bool := ws.all wo

/-- The error of a configuration, or 0. -/
def ce (c : Cg) : Int :=
  if so c = true then (if to c = true then (if ti c = true then (if ck c.z = 0 then (if sk c.s = 0 then (if c.ws.length ≤ 16 then (if wa c.ws = true then 0 else 104) else 103) else sk c.s) else ck c.z) else 102) else 101) else 100

/-- Are two windows the same? -/
def ws (x y : Wn) : Bool := x.k == y.k && (x.m == y.m && (x.p == y.p && (x.a == y.a && (x.h == y.h && (x.u == y.u && x.l == y.l)))))

theorem ws_iff (x y : Wn) : ws x y = true ↔ x = y := by
  cases x; cases y
  simp [ws]

end Go.Proofs.YtmlnlkfdbbnkbaaGreatDoor.Cf

/- The cells of windows and of configurations, and rows of windows, wherever they lie. No condition but those that each theorem states. -/
namespace Go.Proofs.YtmlnlkfdbbnkbaaGreatDoor.Conf
set_option maxRecDepth 100000
set_option maxRecDepth 100000
open Go.ChangeShapes Go.WideShapes Go.ChangeAt Go.RowKit
open Go.Proofs.YtmlnlkfdbbnkbaaGreatDoor.Divs Go.Proofs.YtmlnlkfdbbnkbaaGreatDoor.Grow Go.Proofs.YtmlnlkfdbbnkbaaGreatDoor.Zone
open Go.Proofs.YtmlnlkfdbbnkbaaGreatDoor.By (Sk SL)
open Go.Proofs.YtmlnlkfdbbnkbaaGreatDoor.Zo Go.Proofs.YtmlnlkfdbbnkbaaGreatDoor.Su Go.Proofs.YtmlnlkfdbbnkbaaGreatDoor.Cf

/-- A window's cells. -/
def wc (x : Wn) : List Value := [.int .i64 x.k, .int .i64 x.m, .int .i64 x.p, .int .i64 x.a, .int .i64 x.h, .int .i64 x.u, .int .i64 x.l]

/-- The cells of windows in a row. -/
def fl (xs : List Wn) : List Value := xs.flatMap wc

theorem fl_len (xs : List Wn) : (fl xs).length = xs.length * 7 := by
  induction xs with
  | nil => rfl
  | cons x r ih =>
    have : fl (x :: r) = wc x ++ fl r := rfl
    rw [this, List.length_append, ih]
    simp only [wc, List.length_cons, List.length_nil]
    omega

theorem fl_app (xs ys : List Wn) : fl (xs ++ ys) = fl xs ++ fl ys := by simp [fl]

theorem fl_one (x : Wn) : fl [x] = wc x := by simp [fl]

theorem fl_take (xs : List Wn) (k : Nat) : fl (xs.take k) = (fl xs).take (k * 7) := by
  induction xs generalizing k with
  | nil => simp [fl]
  | cons x r ih =>
    cases k with
    | zero => simp [fl]
    | succ j =>
      have e : fl (x :: r) = wc x ++ fl r := rfl
      have e' : fl ((x :: r).take (j + 1)) = wc x ++ fl (r.take j) := rfl
      have l : (wc x).length = 7 := rfl
      rw [e, e', ih, List.take_append, l, List.take_of_length_le (l := wc x) (by omega), show (j + 1) * 7 - 7 = j * 7 by omega]

theorem fl_drop (xs : List Wn) (k : Nat) : fl (xs.drop k) = (fl xs).drop (k * 7) := by
  induction xs generalizing k with
  | nil => simp [fl]
  | cons x r ih =>
    cases k with
    | zero => simp [fl]
    | succ j =>
      have e : fl (x :: r) = wc x ++ fl r := rfl
      have e' : fl ((x :: r).drop (j + 1)) = fl (r.drop j) := rfl
      have l : (wc x).length = 7 := rfl
      rw [e, e', ih, List.drop_append, l, List.drop_of_length_le (l := wc x) (by omega), show (j + 1) * 7 - 7 = j * 7 by omega, List.nil_append]

theorem fl_get {xs : List Wn} {i : Nat} {x : Wn} (h : xs[i]? = some x) {j : Nat} (hj : j < 7) : (fl xs)[i * 7 + j]? = (wc x)[j]? := by
  have e : xs.drop i = x :: xs.drop (i + 1) := by
    obtain ⟨hi, rfl⟩ := List.getElem?_eq_some_iff.1 h
    exact List.drop_eq_getElem_cons hi
  have d := fl_drop xs i
  rw [e] at d
  have e2 : fl (x :: xs.drop (i + 1)) = wc x ++ fl (xs.drop (i + 1)) := rfl
  rw [← List.getElem?_drop, ← d, e2, List.getElem?_append_left (by simpa [wc] using hj)]

/-- v is a slice of these windows. -/
def Wk (W : World) (v : Value) (xs : List Wn) : Prop :=
  ∃ (ad : Option Addr) (cap : Nat), v = .slice ad xs.length cap ∧ xs.length ≤ cap ∧ cap ≤ 9223372036854775807 ∧ (ad = none → cap = 0) ∧
    ∀ (i : Nat) (x : Value), (fl xs)[i]? = some x → ∃ b off, ad = some ⟨b, off, none⟩ ∧ W.cell? ⟨b, off + i, none⟩ = some x

theorem Wk.later {W W' : World} {v : Value} {xs : List Wn} (h : Wk W v xs) (g : Later W W') : Wk W' v xs := by
  obtain ⟨ad, cap, rfl, h1, h2, h3, h4⟩ := h
  refine ⟨ad, cap, rfl, h1, h2, h3, fun i x hx => ?_⟩
  obtain ⟨b, off, e, c⟩ := h4 i x hx
  exact ⟨b, off, e, gsome g c⟩

theorem Wk.len {W : World} {v : Value} {xs : List Wn} (h : Wk W v xs) : ∃ ad cap, v = .slice ad xs.length cap ∧ xs.length ≤ 9223372036854775807 := by
  obtain ⟨ad, cap, rfl, h1, h2, _⟩ := h
  exact ⟨ad, cap, rfl, by omega⟩

/-- The cells of a slice of windows that has some. -/
theorem Wk.has {W : World} {v : Value} {xs : List Wn} (h : Wk W v xs) (hp : 0 < xs.length) :
    ∃ b off cap, v = .slice (some ⟨b, off, none⟩) xs.length cap ∧ xs.length ≤ 9223372036854775807 ∧ b < W.heap.size ∧ ∀ i x, xs[i]? = some x → W.rangeAt b (off + i * 7) (wc x) := by
  obtain ⟨ad, cap, rfl, h1, h2, h3, h4⟩ := h
  have hl := fl_len xs
  obtain ⟨c, hc⟩ : ∃ c, (fl xs)[0]? = some c := ⟨_, List.getElem?_eq_getElem (by omega)⟩
  obtain ⟨b, off, rfl, c0⟩ := h4 0 c hc
  refine ⟨b, off, cap, rfl, by omega, World.block_lt_of_cell? _ _ c0, fun i x hx j y hy => ?_⟩
  have hj : j < 7 := by
    have := (List.getElem?_eq_some_iff.1 hy).1
    simpa [wc] using this
  obtain ⟨b', off', e, c⟩ := h4 (i * 7 + j) y (by rw [fl_get hx hj]; exact hy)
  simp only [Option.some.injEq, Addr.mk.injEq, and_true] at e
  obtain ⟨rfl, rfl⟩ := e
  rw [Nat.add_assoc]
  exact c

/-- A configuration's cells, by its two slices. -/
def cc (c : Cg) (u v : Value) : Array Value := #[.int .i64 c.f, .int .i64 c.n, .int .i64 c.p, u, .int .i64 c.t, .int .i64 c.l, .int .i64 c.o, .int .i64 c.d, .int .i64 c.e, .int .i64 c.c, .int .i64 c.h, .int .i64 c.r, .int .i64 c.q,
  .int .i64 c.z.b, .int .i64 c.z.s, .int .i64 c.z.p.m, .int .i64 c.z.p.k, .int .i64 c.z.p.v, .int .i64 c.z.p.u, .int .i64 c.z.q.m, .int .i64 c.z.q.k, .int .i64 c.z.q.v, .int .i64 c.z.q.u,
  .int .i64 (c.s 0), .int .i64 (c.s 1), .int .i64 (c.s 2), .int .i64 (c.s 3), .int .i64 (c.s 4), .int .i64 (c.s 5), .int .i64 (c.s 6), .int .i64 (c.s 7), .int .i64 (c.s 8), .int .i64 (c.s 9), .int .i64 (c.s 10), .int .i64 (c.s 11), .bool c.ab, v]

end Go.Proofs.YtmlnlkfdbbnkbaaGreatDoor.Conf
