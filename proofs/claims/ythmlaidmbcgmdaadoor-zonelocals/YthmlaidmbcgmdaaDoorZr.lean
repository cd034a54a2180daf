/-
  The document's answers of layer 6, call by call: whether a zone may be, a turn's instant, whether clocks are shifted, what they tell. Conditions: the numbers are ints, as each theorem says.
-/
import Derived.Test.YthmlaidmbcgmdaaDoorZt
import Derived.Test.YthmlaidmbcgmdaaDoorRefs
namespace Go.Proofs.YthmlaidmbcgmdaaDoor.Zone
open Go.ChangeShapes Go.WideShapes Go.ChangeAt Go.RowKit
open Go.Proofs.YthmlaidmbcgmdaaDoor.Divs Go.Proofs.YthmlaidmbcgmdaaDoor.Grow
open Go.Proofs.YthmlaidmbcgmdaaDoor.Greg (nthV nthE)
open Go.Proofs.YthmlaidmbcgmdaaDoor.Cal (ya yr om od)
open Go.Proofs.YthmlaidmbcgmdaaDoor.Zo

attribute [local go_sem high] equal_turn

set_option maxHeartbeats 1000000 in
theorem rturn_any (t : Tn) (w : World) : Calls Tryd.prog 27 #[.agg (tc t)] w fun e w' => e = .returned (.bool (okB t)) ∧ Later w w' := by
  have HV := Lib.hid (okB_iff t)
  have HL := Lib.hid ((Later.refl w).alloc (tc t) 23)
  unfold tc at *
  go_enter Tryd.func27, Tryd.ntmps27
  go_wp2
  all_goals
    go_ret
    refine ⟨retb ?_, HL.out⟩
    rw [Bool.eq_iff_iff, HV.out]
    simp
    omega

theorem rtime_any (t : Int) (w : World) : Calls Tryd.prog 15 #[.int .i64 t] w fun e w' => e = .returned (.bool (wiB t 576000 5258879999)) ∧ w = w' := by
  have HV := Lib.hid (wiB_iff t 576000 5258879999)
  go_enter Tryd.func15, Tryd.ntmps15
  go_wp2
  all_goals
    go_ret
    refine ⟨retb ?_, rfl⟩
    rw [Bool.eq_iff_iff, HV.out]
    simp
    omega

def dyB (d m : Int) : Bool := decide (401 ≤ d ∧ d ≤ 3651998 ∧ 0 ≤ m ∧ m ≤ 1439)

theorem dyB_iff (d m : Int) : dyB d m = true ↔ 401 ≤ d ∧ d ≤ 3651998 ∧ 0 ≤ m ∧ m ≤ 1439 := by simp [dyB]

theorem rday_any (d m : Int) (w : World) : Calls Tryd.prog 19 #[.int .i64 d, .int .i64 m] w fun e w' => e = .returned (.bool (dyB d m)) ∧ w = w' := by
  have HV := Lib.hid (dyB_iff d m)
  go_enter Tryd.func19, Tryd.ntmps19
  go_wp2
  all_goals
    go_ret
    refine ⟨retb ?_, rfl⟩
    rw [Bool.eq_iff_iff, HV.out]
    simp
    omega

theorem rcheck_low (z : Zn) (w : World) (h : z.b < -720 ∨ 840 < z.b ∨ z.s < 0 ∨ 120 < z.s) : Calls Tryd.prog 12 #[.agg (zc z)] w fun e w' => e = .returned (.int .i64 (ck z)) ∧ Later w w' := by
  have HL := Lib.hid ((Later.refl w).alloc (zc z) 25)
  unfold zc at *
  by_cases h1 : z.b < -720
  · have HV := Lib.hid (show 60 = ck z by unfold ck; rw [if_pos (by omega)])
    clear h
    go_enter Tryd.func12, Tryd.ntmps12
    go_wp2_with fail
    go_ret
    exact ⟨reti HV.out, HL.out⟩
  by_cases h2 : 840 < z.b
  · have HV := Lib.hid (show 60 = ck z by unfold ck; rw [if_pos (by omega)])
    clear h
    go_enter Tryd.func12, Tryd.ntmps12
    go_wp2_with fail
    go_ret
    exact ⟨reti HV.out, HL.out⟩
  by_cases h3 : z.s < 0
  · have HV := Lib.hid (show 61 = ck z by unfold ck; rw [if_neg (by omega), if_pos (by omega)])
    clear h
    go_enter Tryd.func12, Tryd.ntmps12
    go_wp2_with fail
    go_ret
    exact ⟨reti HV.out, HL.out⟩
  have h4 : 120 < z.s := by omega
  have HV := Lib.hid (show 61 = ck z by unfold ck; rw [if_neg (by omega), if_pos (by omega)])
  clear h
  go_enter Tryd.func12, Tryd.ntmps12
  go_wp2_with fail
  go_ret
  exact ⟨reti HV.out, HL.out⟩

theorem ck_zero (z : Zn) (b0 : -720 ≤ z.b) (b1 : z.b ≤ 840) (hs : z.s = 0) : ck z = if ztB z.p = true ∧ ztB z.q = true then 0 else 62 := by
  unfold ck
  rw [if_neg (by omega), if_neg (by omega)]
  have e : badB z = (!ztB z.p || !ztB z.q) := by unfold badB wrB; simp [hs]
  rw [e]
  cases ztB z.p <;> cases ztB z.q <;> simp

theorem ck_some (z : Zn) (b0 : -720 ≤ z.b) (b1 : z.b ≤ 840) (s0 : 1 ≤ z.s) (s1 : z.s ≤ 120) : ck z = if okB z.p = true ∧ okB z.q = true ∧ apB z = true then 0 else 62 := by
  unfold ck
  rw [if_neg (by omega), if_neg (by omega)]
  have hs : ¬ z.s = 0 := by omega
  have e : badB z = (!okB z.p || (!okB z.q || !apB z)) := by unfold badB wrB; simp [hs]
  rw [e]
  cases okB z.p <;> cases okB z.q <;> cases apB z <;> simp

set_option maxHeartbeats 1000000 in
theorem rcheck_zero (z : Zn) (w : World) (b0 : -720 ≤ z.b) (b1 : z.b ≤ 840) (hs : z.s = 0) : Calls Tryd.prog 12 #[.agg (zc z)] w fun e w' => e = .returned (.int .i64 (ck z)) ∧ Later w w' := by
  have HC := Lib.hid (ck_zero z b0 b1 hs)
  have e0 : (z.s == 0) = true := by simpa using hs
  have x0 : ¬ z.s < 0 := by omega
  have x1 : ¬ 120 < z.s := by omega
  clear hs
  unfold zc at *
  go_enter Tryd.func12, Tryd.ntmps12
  go_wp2_with fail
  all_goals
    go_ret
    refine ⟨reti ?_, ((Later.refl w).alloc _ _).alloc _ _⟩
    rw [HC.out]
    try simp only [Bool.not_eq_true', Bool.not_eq_false', beq_iff_eq, beq_eq_false_iff_ne, ne_eq] at *
    first
      | (rw [if_pos ⟨by rw [ztB_iff]; omega, by rw [ztB_iff]; omega⟩])
      | (rw [if_neg (by rw [ztB_iff, ztB_iff]; omega)])

set_option maxHeartbeats 1000000 in
theorem rcheck_some (z : Zn) (w : World) (b0 : -720 ≤ z.b) (b1 : z.b ≤ 840) (s0 : 1 ≤ z.s) (s1 : z.s ≤ 120) : Calls Tryd.prog 12 #[.agg (zc z)] w fun e w' => e = .returned (.int .i64 (ck z)) ∧ Later w w' := by
  have HC := Lib.hid (ck_some z b0 b1 s0 s1)
  have HN := Lib.hid (Zat.new w z)
  have HL := Lib.hid ((((Later.refl w).alloc (zc z) 25).alloc #[.int .i64 0, .int .i64 0, .int .i64 0, .int .i64 0] 23))
  have e0 : (z.s == 0) = false := by simp; omega
  have P := Lib.hid (fun W => rturn_any z.p W)
  have Q := Lib.hid (fun W => rturn_any z.q W)
  have HP := Lib.hid (okB_iff z.p)
  have HQ := Lib.hid (okB_iff z.q)
  have HA := Lib.hid (apB_iff z)
  unfold zc at HL ⊢
  go_enter Tryd.func12, Tryd.ntmps12
  go_wp2_with fail
  refine (P.out _).mono ?_
  rintro e w1 ⟨rfl, hg1⟩
  have HG1 := Lib.hid (gtrans HL.out hg1)
  have z1 := HN.out.later (gtrans ((Later.refl _).alloc _ _) hg1)
  have HZ1 := Lib.hid z1
  obtain ⟨c0, c1, c2, c3, c4, c5, c6, c7, c8, c9⟩ := z1
  clear hg1
  go_wp2_with fail
  refine (Q.out _).mono ?_
  rintro e w2 ⟨rfl, hg2⟩
  have HG2 := Lib.hid (gtrans HG1.out hg2)
  clear c0 c1 c2 c3 c4 c5 c6 c7 c8 c9
  obtain ⟨c0, c1, c2, c3, c4, c5, c6, c7, c8, c9⟩ := HZ1.out.later hg2
  clear hg2
  cases hp : okB z.p with
  | false =>
    have HP1 := Lib.hid hp
    clear hp
    go_wp2_with fail
    all_goals
      go_ret
      refine ⟨reti ?_, HG2.out⟩
      rw [HC.out, HP1.out]
      simp
  | true =>
    have HP1 := Lib.hid hp
    obtain ⟨p1, p2, _⟩ := HP.out.1 hp
    clear hp
    cases hq : okB z.q with
    | false =>
      have HQ1 := Lib.hid hq
      clear hq
      go_wp2_with fail
      all_goals
        go_ret
        refine ⟨reti ?_, HG2.out⟩
        rw [HC.out, HQ1.out]
        simp
    | true =>
      have HQ1 := Lib.hid hq
      obtain ⟨q1, q2, _⟩ := HQ.out.1 hq
      clear hq
      by_cases hlt : z.p.m - z.q.m < 0
      all_goals
        go_wp2_with fail
        all_goals
          go_ret
          refine ⟨reti ?_, HG2.out⟩
          rw [HC.out, HP1.out, HQ1.out]
          first
            | (rw [if_pos ⟨rfl, rfl, HA.out.2 (by omega)⟩])
            | (rw [if_neg (by rintro ⟨_, _, h⟩; have := HA.out.1 h; omega)])

theorem rcheck_any (z : Zn) (w : World) : Calls Tryd.prog 12 #[.agg (zc z)] w fun e w' => e = .returned (.int .i64 (ck z)) ∧ Later w w' := by
  by_cases h : z.b < -720 ∨ 840 < z.b ∨ z.s < 0 ∨ 120 < z.s
  · exact rcheck_low z w h
  by_cases hs : z.s = 0
  · exact rcheck_zero z w (by omega) (by omega) hs
  · exact rcheck_some z w (by omega) (by omega) (by omega) (by omega)

theorem rwhen_any (z : Zn) (t : Tn) (y : Int) (w : World) (b0 : -720 ≤ z.b) (b1 : z.b ≤ 840) (h1 : 1 ≤ y) (h2 : y ≤ 9999) (h : okB t = true) :
    Calls Tryd.prog 32 #[.agg (zc z), .agg (tc t), .int .i64 y] w fun e w' => e = .returned (.int .i64 (wn z t y)) ∧ Later w w' := by
  have N := Lib.hid (fun k W => Greg.rnth_all y t.m t.v k W)
  obtain ⟨f0, f1, f2, f3⟩ := wn_fits t y h1 h2 h
  have HV : Hid (nthV y t.m t.v (wk t.k) * 1440 + t.u - z.b = wn z t y) := (rfl : _ = wn z t y)
  have HZ := Lib.hid (Zat.new w z)
  have hT : ∀ w1, Later ((w.alloc (.cells (zc z) 25)).alloc (.cells (tc t) 23)) w1 → w1.cell? ⟨w.heap.size + 1, 3, none⟩ = some (.int .i64 t.u) := by
    intro w1 hg
    refine gsome hg ?_
    simp [tc]
  have HT := Lib.hid hT
  clear hT h h1 h2
  unfold wk at f0 f1 HV
  unfold zc tc
  by_cases h5 : t.k = 5
  · have e5 : (t.k == 5) = true := by simpa using h5
    rw [if_pos h5] at f0 f1 HV
    clear h5
    go_enter Tryd.func32, Tryd.ntmps32
    go_wp2_with fail
    refine (N.out _ _).mono ?_
    rintro e w1 ⟨rfl, hg1⟩
    have c3 := HT.out w1 hg1
    obtain ⟨c0, _⟩ := HZ.out.later (gtrans ((Later.refl _).alloc _ _) hg1)
    go_wp2_with fail
    go_ret
    exact ⟨reti HV.out, gtrans (((Later.refl w).alloc _ _).alloc _ _) hg1⟩
  · have e5 : (t.k == 5) = false := by simpa using h5
    rw [if_neg h5] at f0 f1 HV
    clear h5
    go_enter Tryd.func32, Tryd.ntmps32
    go_wp2_with fail
    refine (N.out _ _).mono ?_
    rintro e w1 ⟨rfl, hg1⟩
    have c3 := HT.out w1 hg1
    obtain ⟨c0, _⟩ := HZ.out.later (gtrans ((Later.refl _).alloc _ _) hg1)
    go_wp2_with fail
    go_ret
    exact ⟨reti HV.out, gtrans (((Later.refl w).alloc _ _).alloc _ _) hg1⟩

theorem rsummer_no (z : Zn) (t : Int) (w : World) (hs : z.s = 0) : Calls Tryd.prog 17 #[.agg (zc z), .int .i64 t] w fun e w' => e = .returned (.bool (sm z t)) ∧ Later w w' := by
  have HV := Lib.hid (sm_zero z t hs)
  have e0 : (z.s == 0) = true := by simpa using hs
  clear hs
  unfold zc
  go_enter Tryd.func17, Tryd.ntmps17
  go_wp2_with fail
  go_ret
  exact ⟨retb HV.out.symm, (Later.refl w).alloc _ _⟩

set_option maxHeartbeats 2000000 in
theorem rsummer_yes (z : Zn) (t : Int) (w : World) (h : May z) (hs : ¬ z.s = 0) (t0 : 576000 ≤ t) (t1 : t ≤ 5258879999) : Calls Tryd.prog 17 #[.agg (zc z), .int .i64 t] w fun e w' => e = .returned (.bool (sm z t)) ∧ Later w w' := by
  have e0 : (z.s == 0) = false := by simpa using hs
  obtain ⟨d0, d1⟩ := day_bd z t h t0 t1
  obtain ⟨y0, y1, _, _⟩ := Cal.yr_spec _ d0 d1
  obtain ⟨op, oq, _⟩ := may_on z h hs
  have b0 := h.1
  have b1 := h.2.1
  have D := Lib.hid (fun W => drew_g (rdiv_any (t + z.b) 1440 W (by omega) (by omega) (by omega) (by omega)))
  have O := Lib.hid (fun W => Greg.rof_any ((t + z.b) / 1440) W d0 d1)
  have P := Lib.hid (fun W => rwhen_any z z.p (yz z t) W h.1 h.2.1 y0 y1 op)
  have Q := Lib.hid (fun W => rwhen_any z z.q (yz z t) W h.1 h.2.1 y0 y1 oq)
  have HV : Hid (sm z t = inB (wn z z.p (yz z t)) (wn z z.q (yz z t)) t) := by
    have : sm z t = inB (wn z z.p (yz z t)) (wn z z.q (yz z t)) t := by unfold sm; rw [if_neg hs]
    exact this
  have HN := Lib.hid (Zat.new w z)
  have HY : Hid (yr ((t + z.b) / 1440) = yz z t) := (rfl : yr ((t + z.b) / 1440) = yz z t)
  clear hs d0 d1 y0 y1 op oq
  unfold zc
  go_enter Tryd.func17, Tryd.ntmps17
  go_wp2_with fail
  refine (D.out _).mono ?_
  rintro e w1 ⟨rfl, hg1⟩
  have HG1 := Lib.hid (gtrans ((Later.refl w).alloc _ _) hg1)
  have z1 := HN.out.later hg1
  have HZ1 := Lib.hid z1
  clear hg1 z1
  go_wp2_with fail
  refine (O.out _).mono ?_
  rintro e w2 ⟨rfl, hg2⟩
  rw [HY.out]
  have HG2 := Lib.hid (gtrans HG1.out hg2)
  have HZ2 := Lib.hid (HZ1.out.later hg2)
  have z2 := HZ1.out.later (hg2.alloc #[.int .i64 (yz z t), .int .i64 (om ((t + z.b) / 1440)), .int .i64 (od ((t + z.b) / 1440))] 52)
  obtain ⟨c0, c1, c2, c3, c4, c5, c6, c7, c8, c9⟩ := z2
  clear hg2
  go_wp2_with fail
  refine (P.out _).mono ?_
  rintro e w3 ⟨rfl, hg3⟩
  have HG3 := Lib.hid (gtrans (HG2.out.alloc _ _) hg3)
  have y3 : w3.cell? ⟨w2.heap.size, 0, none⟩ = some (.int .i64 (yz z t)) := gsome hg3 (by simp)
  have HY3 := Lib.hid y3
  have z3 := HZ2.out.later (gtrans ((Later.refl _).alloc _ _) hg3)
  clear c0 c1 c2 c3 c4 c5 c6 c7 c8 c9
  obtain ⟨c0, c1, c2, c3, c4, c5, c6, c7, c8, c9⟩ := z3
  clear hg3
  go_wp2_with fail
  refine (Q.out _).mono ?_
  rintro e w4 ⟨rfl, hg4⟩
  have HG4 := Lib.hid (gtrans HG3.out hg4)
  clear c0 c1 c2 c3 c4 c5 c6 c7 c8 c9 hg4 y3
  generalize wn z z.p (yz z t) = a at *
  generalize wn z z.q (yz z t) = b at *
  by_cases hab : a < b
  · by_cases h1 : a ≤ t
    · have R := Lib.hid (show inB a b t = decide (t < b) by rw [inB_lt a b t hab]; simp [h1])
      go_wp2_with fail
      go_ret
      exact ⟨retb (by rw [HV.out, R.out]), HG4.out⟩
    · have R := Lib.hid (show inB a b t = false by rw [inB_lt a b t hab]; simp [h1])
      go_wp2_with fail
      go_ret
      exact ⟨retb (by rw [HV.out, R.out]), HG4.out⟩
  · by_cases h1 : b ≤ t
    · have R := Lib.hid (show inB a b t = !decide (t < a) by
        rw [inB_ge a b t hab]
        rw [show decide (t < b) = false by simp; omega, Bool.false_or]
        by_cases h2 : t < a
        · rw [show decide (a ≤ t) = false by simp; omega, show decide (t < a) = true by simp; omega]; rfl
        · rw [show decide (a ≤ t) = true by simp; omega, show decide (t < a) = false by simp; omega]; rfl)
      go_wp2_with fail
      go_ret
      exact ⟨retb (by rw [HV.out, R.out]), HG4.out⟩
    · have R := Lib.hid (show inB a b t = true by rw [inB_ge a b t hab]; rw [show decide (t < b) = true by simp; omega]; rfl)
      go_wp2_with fail
      go_ret
      exact ⟨retb (by rw [HV.out, R.out]), HG4.out⟩

theorem rsummer_any (z : Zn) (t : Int) (w : World) (h : May z) (t0 : 576000 ≤ t) (t1 : t ≤ 5258879999) : Calls Tryd.prog 17 #[.agg (zc z), .int .i64 t] w fun e w' => e = .returned (.bool (sm z t)) ∧ Later w w' := by
  by_cases hs : z.s = 0
  · exact rsummer_no z t w hs
  · exact rsummer_yes z t w h hs t0 t1

theorem rtold_any (z : Zn) (t : Int) (w : World) (h : May z) (t0 : 576000 ≤ t) (t1 : t ≤ 5258879999) : Calls Tryd.prog 16 #[.agg (zc z), .int .i64 t] w fun e w' => e = .returned (.int .i64 (td z t)) ∧ Later w w' := by
  have S := fun W => rsummer_any z t W h t0 t1
  have HN := Lib.hid (Zat.new w z)
  unfold May at h
  obtain ⟨b0, b1, s0, s1, _⟩ := h
  unfold zc at *
  rcases td_cases z t with ⟨hs, ht⟩ | ⟨hs, ht⟩
  all_goals
    have HT := Lib.hid ht
    rw [hs] at S
    have HS := Lib.hid S
    clear S hs ht
    go_enter Tryd.func16, Tryd.ntmps16
    go_wp2_with fail
    refine (HS.out _).mono ?_
    rintro e w1 ⟨rfl, hg1⟩
    have HG1 := Lib.hid (gtrans ((Later.refl w).alloc _ _) hg1)
    obtain ⟨c0, c1, c2, c3, c4, c5, c6, c7, c8, c9⟩ := HN.out.later hg1
    clear hg1
    go_wp2_with fail
    go_ret
    exact ⟨reti HT.out.symm, HG1.out⟩

end Go.Proofs.YthmlaidmbcgmdaaDoor.Zone
