/-
  What the zone's Summer and Local answer, by the program. Conditions: the numbers are ints, the table of months lies where the program lays it, as each theorem says.
-/
import Derived.Test.YtepaiolhflpmeaaDoorZc
namespace Go.Proofs.YtepaiolhflpmeaaDoor.Zone
open Go.ChangeShapes Go.WideShapes Go.ChangeAt Go.RowKit
open Go.Proofs.YtepaiolhflpmeaaDoor.Divs Go.Proofs.YtepaiolhflpmeaaDoor.Grow
open Go.Proofs.YtepaiolhflpmeaaDoor.Greg (Laid nthV nthE)
open Go.Proofs.YtepaiolhflpmeaaDoor.Cal (ya yr om od)
open Go.Proofs.YtepaiolhflpmeaaDoor.Zo

theorem split_any (n : Int) (w : World) (h0 : -9223372036854775808 ≤ n) (h1 : n ≤ 9223372036854775807) : Calls Tryd.prog 27 #[.int .i64 n] w fun e w' => e = .returned (.tuple #[.int .i64 (n / 1440), .int .i64 (n % 1440)]) ∧ Later w w' := by
  have D := Lib.hid (fun W => drew_g (div_yes n 1440 W h0 h1 (by omega) (by omega)))
  have M := Lib.hid (fun W => drew_g (mod_yes n 1440 W h0 h1 (by omega) (by omega)))
  go_enter Tryd.func27, Tryd.ntmps27
  go_wp2_with fail
  refine (D.out _).mono ?_
  rintro e w1 ⟨rfl, hg1⟩
  go_wp2_with fail
  refine (M.out _).mono ?_
  rintro e w2 ⟨rfl, hg2⟩
  go_wp2_with fail
  go_ret2
  exact ⟨rfl, gtrans hg1 hg2⟩

theorem year_any (z : Zn) (t : Int) (w : World) (hL : Laid w) (t0 : -9000000000000000000 ≤ t) (t1 : t ≤ 9000000000000000000) (b0 : -720 ≤ z.b) (b1 : z.b ≤ 840) (h1 : 1 ≤ (t + z.b) / 1440) (h2 : (t + z.b) / 1440 ≤ 3652059) :
    Calls Tryd.prog 44 #[.agg (zc z), .int .i64 t] w fun e w' => e = .returned (.int .i64 (yz z t)) ∧ Later w w' := by
  have S := Lib.hid (fun W => split_any (t + z.b) W (by omega) (by omega))
  have O := Lib.hid (fun W hW => Greg.of_yes ((t + z.b) / 1440) W hW h1 h2)
  have HV : Hid (yr ((t + z.b) / 1440) = yz z t) := (rfl : yr ((t + z.b) / 1440) = yz z t)
  have HL := Lib.hid hL
  clear h1 h2 hL
  unfold zc
  go_enter Tryd.func44, Tryd.ntmps44
  go_wp2_with fail
  refine (S.out _).mono ?_
  rintro e w1 ⟨rfl, hg1⟩
  have HG1 := Lib.hid (gtrans ((Later.refl w).alloc _ _) hg1)
  clear hg1
  go_wp2_with fail
  refine (O.out _ (HL.out.grown HG1.out)).mono ?_
  rintro e w2 ⟨rfl, hg2⟩
  go_wp2_with fail
  go_ret
  exact ⟨reti HV.out, gtrans HG1.out (hg2.alloc _ _)⟩

theorem wn_fits (t : Tn) (y : Int) (h1 : 1 ≤ y) (h2 : y ≤ 9999) (h : okB t = true) : 0 ≤ nthV y t.m t.v (wk t.k) ∧ nthV y t.m t.v (wk t.k) ≤ 3652059 ∧ 0 ≤ t.u ∧ t.u ≤ 1439 := by
  obtain ⟨a, b⟩ := nth_year y t h1 h2 h
  have c := Cal.ya_bd y h1 (by omega)
  have d := Cal.ya_bd (y + 1) (by omega) (by omega)
  rw [okB_iff] at h
  omega

theorem turnat_any (z : Zn) (t : Tn) (y : Int) (w : World) (hL : Laid w) (b0 : -720 ≤ z.b) (b1 : z.b ≤ 840) (h1 : 1 ≤ y) (h2 : y ≤ 9999) (h : okB t = true) :
    Calls Tryd.prog 45 #[.agg (zc z), .agg (tc t), .int .i64 y] w fun e w' => e = .returned (.int .i64 (wn z t y)) ∧ Later w w' := by
  have N := Lib.hid (fun k W hW => Greg.nth_all y t.m t.v k W hW)
  obtain ⟨f0, f1, f2, f3⟩ := wn_fits t y h1 h2 h
  have HV : Hid (nthV y t.m t.v (wk t.k) * 1440 + t.u - z.b = wn z t y) := (rfl : _ = wn z t y)
  have HZ := Lib.hid (Zat.new w z)
  have HL := Lib.hid hL
  have hT : ∀ w1, Later ((w.alloc (.cells (zc z) 35)).alloc (.cells (tc t) 33)) w1 → w1.cell? ⟨w.heap.size + 1, 3, none⟩ = some (.int .i64 t.u) := by
    intro w1 hg
    refine gsome hg ?_
    simp [tc]
  have HT := Lib.hid hT
  clear hT hL h h1 h2
  unfold wk at f0 f1 HV
  unfold zc tc
  by_cases h5 : t.k = 5
  · have e5 : (t.k == 5) = true := by simpa using h5
    rw [if_pos h5] at f0 f1 HV
    clear h5
    go_enter Tryd.func45, Tryd.ntmps45
    go_wp2_with fail
    refine (N.out _ _ (HL.out.grown (((Later.refl w).alloc _ _).alloc _ _))).mono ?_
    rintro e w1 ⟨rfl, hg1⟩
    have c3 := HT.out w1 hg1
    obtain ⟨c0, _⟩ := HZ.out.later (gtrans ((Later.refl _).alloc _ _) hg1)
    go_wp2_with fail
    go_ret
    exact ⟨reti HV.out, gtrans (((Later.refl w).alloc _ _).alloc _ _) hg1⟩
  · have e5 : (t.k == 5) = false := by simpa using h5
    rw [if_neg h5] at f0 f1 HV
    clear h5
    go_enter Tryd.func45, Tryd.ntmps45
    go_wp2_with fail
    refine (N.out _ _ (HL.out.grown (((Later.refl w).alloc _ _).alloc _ _))).mono ?_
    rintro e w1 ⟨rfl, hg1⟩
    have c3 := HT.out w1 hg1
    obtain ⟨c0, _⟩ := HZ.out.later (gtrans ((Later.refl _).alloc _ _) hg1)
    go_wp2_with fail
    go_ret
    exact ⟨reti HV.out, gtrans (((Later.refl w).alloc _ _).alloc _ _) hg1⟩

theorem stB_may (z : Zn) (h : May z) : stB z = decide (z.s = 0) := by
  unfold May at h
  unfold stB
  rcases h with ⟨_, _, _, _, ⟨a, b, c⟩ | ⟨a, _⟩⟩
  · simp [a, b, c]
  · have : ¬ z.s = 0 := by omega
    simp [this]

theorem shifted_no (z : Zn) (t : Int) (w : World) (h : May z) (hs : z.s = 0) : Calls Tryd.prog 29 #[.agg (zc z), .int .i64 t] w fun e w' => e = .returned (.bool (sm z t)) ∧ Later w w' := by
  have S := fun W => steady_any z W
  rw [show stB z = true by rw [stB_may z h]; simpa using hs] at S
  have HS := Lib.hid S
  have HV := Lib.hid (sm_zero z t hs)
  clear S hs h
  unfold zc
  go_enter Tryd.func29, Tryd.ntmps29
  go_wp2_with fail
  refine (HS.out _).mono ?_
  rintro e w1 ⟨rfl, hg1⟩
  go_wp2_with fail
  go_ret
  exact ⟨retb HV.out.symm, gtrans ((Later.refl w).alloc _ _) hg1⟩

theorem inB_lt (a b t : Int) (h : a < b) : inB a b t = (decide (a ≤ t) && decide (t < b)) := by
  unfold inB; rw [if_pos h]; simp

theorem inB_ge (a b t : Int) (h : ¬ a < b) : inB a b t = (decide (t < b) || decide (a ≤ t)) := by
  unfold inB; rw [if_neg h]; simp

set_option maxHeartbeats 2000000 in
theorem shifted_yes (z : Zn) (t : Int) (w : World) (hL : Laid w) (h : May z) (hs : ¬ z.s = 0) (t0 : 576000 ≤ t) (t1 : t ≤ 5258879999) : Calls Tryd.prog 29 #[.agg (zc z), .int .i64 t] w fun e w' => e = .returned (.bool (sm z t)) ∧ Later w w' := by
  have S := fun W => steady_any z W
  rw [show stB z = false by rw [stB_may z h]; simpa using hs] at S
  have HS := Lib.hid S
  obtain ⟨d0, d1⟩ := day_bd z t h t0 t1
  obtain ⟨y0, y1, _, _⟩ := Cal.yr_spec _ d0 d1
  obtain ⟨op, oq, _⟩ := may_on z h hs
  have Y := Lib.hid (fun W hW => year_any z t W hW (by omega) (by omega) h.1 h.2.1 d0 d1)
  have hok : ∀ x : Tn, x = z.p ∨ x = z.q → okB x = true := by rintro x (rfl | rfl) <;> assumption
  have T := Lib.hid (fun (x : Tn) W hW hx => turnat_any z x (yz z t) W hW h.1 h.2.1 y0 y1 (hok x hx))
  have HV : Hid (sm z t = inB (wn z z.p (yz z t)) (wn z z.q (yz z t)) t) := by
    have : sm z t = inB (wn z z.p (yz z t)) (wn z z.q (yz z t)) t := by unfold sm; rw [if_neg hs]
    exact this
  have HN := Lib.hid (Zat.new w z)
  have HL := Lib.hid hL
  have ha := wn_fits z.p _ y0 y1 op
  have hb := wn_fits z.q _ y0 y1 oq
  clear S hs d0 d1 y0 y1 op oq hL ha hb hok
  unfold zc
  go_enter Tryd.func29, Tryd.ntmps29
  go_wp2_with fail
  refine (HS.out _).mono ?_
  rintro e w1 ⟨rfl, hg1⟩
  have HG1 := Lib.hid (gtrans ((Later.refl w).alloc _ _) hg1)
  have z1 := HN.out.later hg1
  have HZ1 := Lib.hid z1
  obtain ⟨c0, c1, c2, c3, c4, c5, c6, c7, c8, c9⟩ := z1
  clear hg1
  go_wp2_with fail
  refine (Y.out _ (HL.out.grown HG1.out)).mono ?_
  rintro e w2 ⟨rfl, hg2⟩
  clear c0 c1 c2 c3 c4 c5 c6 c7 c8 c9
  go_wp2_with fail
  have HG2 := Lib.hid (gtrans HG1.out hg2)
  obtain ⟨k0, k1, k2, k3, k4, k5, k6, k7, k8, k9⟩ := HZ1.out.later hg2
  have c0 := gw_cell k0
  have c1 := gw_cell k1
  have c2 := gw_cell k2
  have c3 := gw_cell k3
  have c4 := gw_cell k4
  have c5 := gw_cell k5
  have c6 := gw_cell k6
  have c7 := gw_cell k7
  have c8 := gw_cell k8
  have c9 := gw_cell k9
  have hL2 : Laid w2 := HL.out.grown HG2.out
  clear k0 k1 k2 k3 k4 k5 k6 k7 k8 k9 hg2
  refine region_grown (by kernel_rfl) (by kernel_rfl) ?_
  repeat (go_big_quiet_step ((go_at_call 45; refine in_grown (T.out _ _ (hL2.gw _) ?_); first | exact .inl rfl | exact .inr rfl)))
  refine wpQuiet_nil (grown_end ?_)
  intro w3 hg3
  clear c0 c1 c2 c3 c4 c5 c6 c7 c8 c9
  have HG3 := Lib.hid (gtrans HG2.out hg3)
  clear hg3
  generalize wn z z.p (yz z t) = a at *
  generalize wn z z.q (yz z t) = b at *
  by_cases hab : a < b
  · by_cases h1 : a ≤ t
    · have R := Lib.hid (show inB a b t = decide (t < b) by rw [inB_lt a b t hab]; simp [h1])
      go_wp2_with fail
      go_ret
      exact ⟨retb (by rw [HV.out, R.out]), HG3.out⟩
    · have R := Lib.hid (show inB a b t = false by rw [inB_lt a b t hab]; simp [h1])
      go_wp2_with fail
      go_ret
      exact ⟨retb (by rw [HV.out, R.out]), HG3.out⟩
  · by_cases h1 : t < b
    · have R := Lib.hid (show inB a b t = true by rw [inB_ge a b t hab]; simp [h1])
      go_wp2_with fail
      go_ret
      exact ⟨retb (by rw [HV.out, R.out]), HG3.out⟩
    · have R := Lib.hid (show inB a b t = decide (a ≤ t) by rw [inB_ge a b t hab]; simp [h1])
      go_wp2_with fail
      go_ret
      exact ⟨retb (by rw [HV.out, R.out]), HG3.out⟩

theorem shifted_any (z : Zn) (t : Int) (w : World) (hL : Laid w) (h : May z) (t0 : 576000 ≤ t) (t1 : t ≤ 5258879999) : Calls Tryd.prog 29 #[.agg (zc z), .int .i64 t] w fun e w' => e = .returned (.bool (sm z t)) ∧ Later w w' := by
  by_cases hs : z.s = 0
  · exact shifted_no z t w h hs
  · exact shifted_yes z t w hL h hs t0 t1

/-- The error of an instant. -/
def sE (z : Zn) (t : Int) : Int := if ck z = 0 then (if 576000 ≤ t ∧ t ≤ 5258879999 then 0 else 63) else ck z

/-- Whether clocks are shifted, or false, and what they tell, or 0. -/
def sV (z : Zn) (t : Int) : Bool := if sE z t = 0 then sm z t else false

def lD (z : Zn) (t : Int) : Int := if sE z t = 0 then td z t / 1440 else 0

def lM (z : Zn) (t : Int) : Int := if sE z t = 0 then td z t % 1440 else 0

theorem sE_ok (z : Zn) (t : Int) : sE z t = 0 ↔ May z ∧ 576000 ≤ t ∧ t ≤ 5258879999 := by
  unfold sE
  rw [← ck_may]
  by_cases h : ck z = 0
  · rw [if_pos h]; split <;> omega
  · rw [if_neg h]; omega

theorem retbi {a b : Bool} {c d : Int} (h1 : a = b) (h2 : c = d) : Ending.returned (.tuple #[.bool a, .int .i64 c]) = .returned (.tuple #[.bool b, .int .i64 d]) := by rw [h1, h2]

theorem ret3 {a b c a' b' c' : Int} (h1 : a = a') (h2 : b = b') (h3 : c = c') : Ending.returned (.tuple #[.int .i64 a, .int .i64 b, .int .i64 c]) = .returned (.tuple #[.int .i64 a', .int .i64 b', .int .i64 c']) := by rw [h1, h2, h3]

theorem summer_any (z : Zn) (t : Int) (w : World) (hL : Laid w) : Calls Tryd.prog 15 #[.agg (zc z), .int .i64 t] w fun e w' => e = .returned (.tuple #[.bool (sV z t), .int .i64 (sE z t)]) ∧ Later w w' := by
  have C := Lib.hid (fun W => check_any z W)
  have K := Lib.hid (fun n a b W => within_any n a b W)
  have HN := Lib.hid (Zat.new w z)
  have HL := Lib.hid hL
  clear hL
  by_cases h0 : ck z = 0
  · have e0 : (ck z != 0) = false := by simpa using h0
    by_cases ht : 576000 ≤ t ∧ t ≤ 5258879999
    · have e1 : wiB t 576000 5258879999 = true := (wiB_iff _ _ _).2 ht
      have hE : sE z t = 0 := by unfold sE; rw [if_pos h0, if_pos ht]
      have HE := Lib.hid hE
      have HV : Hid (sm z t = sV z t) := by
        have : sm z t = sV z t := by unfold sV; rw [if_pos hE]
        exact this
      have S := Lib.hid (fun W hW => shifted_any z t W hW ((ck_may z).1 h0) ht.1 ht.2)
      clear h0 ht hE
      unfold zc
      go_enter Tryd.func15, Tryd.ntmps15
      go_wp2_with fail
      refine (C.out _).mono ?_
      rintro e w1 ⟨rfl, hg1⟩
      have HG1 := Lib.hid (gtrans ((Later.refl w).alloc _ _) hg1)
      obtain ⟨c0, c1, c2, c3, c4, c5, c6, c7, c8, c9⟩ := HN.out.later hg1
      clear hg1
      go_wp2_with (go_at_call 28; refine (K.out _ _ _ _).mono ?_; rintro e w1 ⟨rfl, rfl⟩)
      refine (S.out _ (HL.out.grown HG1.out)).mono ?_
      rintro e w2 ⟨rfl, hg2⟩
      clear c0 c1 c2 c3 c4 c5 c6 c7 c8 c9
      go_wp2_with fail
      go_ret2
      exact ⟨retbi HV.out HE.out.symm, gtrans HG1.out hg2⟩
    · have e1 : wiB t 576000 5258879999 = false := by
        cases hw : wiB t 576000 5258879999 with
        | false => rfl
        | true => exact absurd ((wiB_iff _ _ _).1 hw) ht
      have hE : sE z t = 63 := by unfold sE; rw [if_pos h0, if_neg ht]
      have HE := Lib.hid hE
      have HV : Hid (false = sV z t) := by
        have : false = sV z t := by unfold sV; rw [if_neg (by omega)]
        exact this
      clear h0 ht hE
      unfold zc
      go_enter Tryd.func15, Tryd.ntmps15
      go_wp2_with fail
      refine (C.out _).mono ?_
      rintro e w1 ⟨rfl, hg1⟩
      have HG1 := Lib.hid (gtrans ((Later.refl w).alloc _ _) hg1)
      clear hg1
      go_wp2_with (go_at_call 28; refine (K.out _ _ _ _).mono ?_; rintro e w1 ⟨rfl, rfl⟩)
      go_ret2
      exact ⟨retbi HV.out HE.out.symm, HG1.out⟩
  · have e0 : (ck z != 0) = true := by simpa using h0
    have hE : sE z t = ck z := by unfold sE; rw [if_neg h0]
    have HE := Lib.hid hE
    have HV : Hid (false = sV z t) := by
      have : false = sV z t := by unfold sV; rw [if_neg (by omega)]
      exact this
    clear h0 hE
    unfold zc
    go_enter Tryd.func15, Tryd.ntmps15
    go_wp2_with fail
    refine (C.out _).mono ?_
    rintro e w1 ⟨rfl, hg1⟩
    have HG1 := Lib.hid (gtrans ((Later.refl w).alloc _ _) hg1)
    clear hg1
    go_wp2_with fail
    go_ret2
    exact ⟨retbi HV.out HE.out.symm, HG1.out⟩

theorem local_any (z : Zn) (t : Int) (w : World) (hL : Laid w) : Calls Tryd.prog 14 #[.agg (zc z), .int .i64 t] w fun e w' => e = .returned (.tuple #[.int .i64 (lD z t), .int .i64 (lM z t), .int .i64 (sE z t)]) ∧ Later w w' := by
  have S := Lib.hid (fun W hW => summer_any z t W hW)
  have HN := Lib.hid (Zat.new w z)
  have HL := Lib.hid (hL.grown ((Later.refl w).alloc (zc z) 35))
  clear hL
  by_cases hE : sE z t = 0
  · have e0 : (sE z t != 0) = false := by simpa using hE
    obtain ⟨hm, t0, t1⟩ := (sE_ok z t).1 hE
    have HD : Hid (lD z t = td z t / 1440) := by
      have : lD z t = td z t / 1440 := by unfold lD; rw [if_pos hE]
      exact this
    have HM : Hid (lM z t = td z t % 1440) := by
      have : lM z t = td z t % 1440 := by unfold lM; rw [if_pos hE]
      exact this
    have HV : Hid (sV z t = sm z t) := by
      have : sV z t = sm z t := by unfold sV; rw [if_pos hE]
      exact this
    have HE := Lib.hid hE
    unfold May at hm
    obtain ⟨b0, b1, s0, s1, _⟩ := hm
    clear hE
    have hc : (sm z t = true ∧ td z t = t + (z.b + z.s)) ∨ (sm z t = false ∧ td z t = t + z.b) := by
      rcases td_cases z t with ⟨hs, ht⟩ | ⟨hs, ht⟩
      · exact .inl ⟨hs, by omega⟩
      · exact .inr ⟨hs, ht⟩
    rcases hc with ⟨hs, ht⟩ | ⟨hs, ht⟩
    all_goals
      have HT := Lib.hid ht
      have HS := Lib.hid hs
      have P := Lib.hid (fun W => split_any (td z t) W (by omega) (by omega))
      rw [ht] at P
      clear ht hs
      unfold zc at HL ⊢
      go_enter Tryd.func14, Tryd.ntmps14
      go_wp2_with fail
      refine (S.out _ HL.out).mono ?_
      rintro e w1 ⟨rfl, hg1⟩
      rw [HV.out, HS.out]
      have HG1 := Lib.hid (gtrans ((Later.refl w).alloc _ _) hg1)
      obtain ⟨c0, c1, c2, c3, c4, c5, c6, c7, c8, c9⟩ := HN.out.later hg1
      clear hg1
      go_wp2_with fail
      refine (P.out _).mono ?_
      rintro e w2 ⟨rfl, hg2⟩
      go_wp2_with fail
      go_ret3
      exact ⟨ret3 (by rw [HD.out, HT.out]) (by rw [HM.out, HT.out]) HE.out.symm, gtrans HG1.out hg2⟩
  · have e0 : (sE z t != 0) = true := by simpa using hE
    have HD : Hid (0 = lD z t) := by
      have : 0 = lD z t := by unfold lD; rw [if_neg hE]
      exact this
    have HM : Hid (0 = lM z t) := by
      have : 0 = lM z t := by unfold lM; rw [if_neg hE]
      exact this
    clear hE
    unfold zc at HL ⊢
    go_enter Tryd.func14, Tryd.ntmps14
    go_wp2_with fail
    refine (S.out _ HL.out).mono ?_
    rintro e w1 ⟨rfl, hg1⟩
    have HG1 := Lib.hid (gtrans ((Later.refl w).alloc _ _) hg1)
    clear hg1
    go_wp2_with fail
    go_ret3
    exact ⟨ret3 HD.out HM.out rfl, HG1.out⟩

end Go.Proofs.YtepaiolhflpmeaaDoor.Zone
