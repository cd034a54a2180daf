/-
  The document's answers of layer 6, call by call: whether a zone may be, a turn's instant, whether clocks are shifted, what they tell. Conditions: the numbers are ints, as each theorem says.
-/
import Derived.Test.YthbgllbbliijlaaZc
namespace Go.Proofs.Ythbgllbbliijlaa.Zone
open Go.ChangeShapes Go.WideShapes Go.ChangeAt Go.RowKit
open Go.Proofs.Ythbgllbbliijlaa.Divs Go.Proofs.Ythbgllbbliijlaa.Grow
open Go.Proofs.Ythbgllbbliijlaa.Zo

attribute [local go_sem high] equal_turn

set_option maxHeartbeats 1000000 in
theorem rturn_any (t : Tn) (w : World) : Calls Try.prog 39 #[.agg (tc t)] w fun e w' => e = .returned (.bool (okB t)) ∧ Later w w' := by
  have HV := Lib.hid (okB_iff t)
  have HL := Lib.hid ((Later.refl w).alloc (tc t) 26)
  unfold tc at *
  go_enter Try.func39, Try.ntmps39
  go_wp2
  all_goals
    go_ret
    refine ⟨retb ?_, HL.out⟩
    rw [Bool.eq_iff_iff, HV.out]
    simp
    omega

def dyB (d m : Int) : Bool := decide (401 ≤ d ∧ d ≤ 3651998 ∧ 0 ≤ m ∧ m ≤ 1439)

theorem dyB_iff (d m : Int) : dyB d m = true ↔ 401 ≤ d ∧ d ≤ 3651998 ∧ 0 ≤ m ∧ m ≤ 1439 := by simp [dyB]

theorem rcheck_low (z : Zn) (w : World) (h : z.b < -720 ∨ 840 < z.b ∨ z.s < 0 ∨ 120 < z.s) : Calls Try.prog 26 #[.agg (zc z)] w fun e w' => e = .returned (.int .i64 (ck z)) ∧ Later w w' := by
  have HL := Lib.hid ((Later.refl w).alloc (zc z) 28)
  unfold zc at *
  by_cases h1 : z.b < -720
  · have HV := Lib.hid (show 60 = ck z by unfold ck; rw [if_pos (by omega)])
    clear h
    go_enter Try.func26, Try.ntmps26
    go_wp2_with fail
    go_ret
    exact ⟨reti HV.out, HL.out⟩
  by_cases h2 : 840 < z.b
  · have HV := Lib.hid (show 60 = ck z by unfold ck; rw [if_pos (by omega)])
    clear h
    go_enter Try.func26, Try.ntmps26
    go_wp2_with fail
    go_ret
    exact ⟨reti HV.out, HL.out⟩
  by_cases h3 : z.s < 0
  · have HV := Lib.hid (show 61 = ck z by unfold ck; rw [if_neg (by omega), if_pos (by omega)])
    clear h
    go_enter Try.func26, Try.ntmps26
    go_wp2_with fail
    go_ret
    exact ⟨reti HV.out, HL.out⟩
  have h4 : 120 < z.s := by omega
  have HV := Lib.hid (show 61 = ck z by unfold ck; rw [if_neg (by omega), if_pos (by omega)])
  clear h
  go_enter Try.func26, Try.ntmps26
  go_wp2_with fail
  go_ret
  exact ⟨reti HV.out, HL.out⟩

theorem ck_zero (z : Zn) (b0 : -720 ≤ z.b) (b1 : z.b ≤ 840) (hs : z.s = 0) : ck z = if ztB z.p = true ∧ ztB z.q = true then 0 else 62 := by
  unfold ck
  rw [if_neg (by omega), if_neg (by omega)]
  have e : badB z = (!ztB z.p || !ztB z.q) := by unfold badB wrB; simp [hs]
  rw [e]
  cases ztB z.p <;> cases ztB z.q <;> simp

theorem ck_some (z : Zn) (b0 : -720 ≤ z.b) (b1 : z.b ≤ 840) (s0 : 1 ≤ z.s) (s1 : z.s ≤ 120) : ck z = if okB z.p = true ∧ okB z.q = true ∧ apB z = true then 0 else 62 := by
  unfold ck
  rw [if_neg (by omega), if_neg (by omega)]
  have hs : ¬ z.s = 0 := by omega
  have e : badB z = (!okB z.p || (!okB z.q || !apB z)) := by unfold badB wrB; simp [hs]
  rw [e]
  cases okB z.p <;> cases okB z.q <;> cases apB z <;> simp

set_option maxHeartbeats 1000000 in
theorem rcheck_zero (z : Zn) (w : World) (b0 : -720 ≤ z.b) (b1 : z.b ≤ 840) (hs : z.s = 0) : Calls Try.prog 26 #[.agg (zc z)] w fun e w' => e = .returned (.int .i64 (ck z)) ∧ Later w w' := by
  have HC := Lib.hid (ck_zero z b0 b1 hs)
  have e0 : (z.s == 0) = true := by simpa using hs
  have x0 : ¬ z.s < 0 := by omega
  have x1 : ¬ 120 < z.s := by omega
  clear hs
  unfold zc at *
  go_enter Try.func26, Try.ntmps26
  go_wp2_with fail
  all_goals
    go_ret
    refine ⟨reti ?_, ((Later.refl w).alloc _ _).alloc _ _⟩
    rw [HC.out]
    try simp only [Bool.not_eq_true', Bool.not_eq_false', beq_iff_eq, beq_eq_false_iff_ne, ne_eq] at *
    first
      | (rw [if_pos ⟨by rw [ztB_iff]; omega, by rw [ztB_iff]; omega⟩])
      | (rw [if_neg (by rw [ztB_iff, ztB_iff]; omega)])

set_option maxHeartbeats 1000000 in
theorem rcheck_some (z : Zn) (w : World) (b0 : -720 ≤ z.b) (b1 : z.b ≤ 840) (s0 : 1 ≤ z.s) (s1 : z.s ≤ 120) : Calls Try.prog 26 #[.agg (zc z)] w fun e w' => e = .returned (.int .i64 (ck z)) ∧ Later w w' := by
  have HC := Lib.hid (ck_some z b0 b1 s0 s1)
  have HN := Lib.hid (Zat.new w z)
  have HL := Lib.hid ((((Later.refl w).alloc (zc z) 28).alloc #[.int .i64 0, .int .i64 0, .int .i64 0, .int .i64 0] 26))
  have e0 : (z.s == 0) = false := by simp; omega
  have P := Lib.hid (fun W => rturn_any z.p W)
  have Q := Lib.hid (fun W => rturn_any z.q W)
  have HP := Lib.hid (okB_iff z.p)
  have HQ := Lib.hid (okB_iff z.q)
  have HA := Lib.hid (apB_iff z)
  unfold zc at HL ⊢
  go_enter Try.func26, Try.ntmps26
  go_wp2_with fail
  refine (P.out _).mono ?_
  rintro e w1 ⟨rfl, hg1⟩
  have HG1 := Lib.hid (gtrans HL.out hg1)
  have z1 := HN.out.later (gtrans ((Later.refl _).alloc _ _) hg1)
  have HZ1 := Lib.hid z1
  obtain ⟨c0, c1, c2, c3, c4, c5, c6, c7, c8, c9⟩ := z1
  clear hg1
  go_wp2_with fail
  refine (Q.out _).mono ?_
  rintro e w2 ⟨rfl, hg2⟩
  have HG2 := Lib.hid (gtrans HG1.out hg2)
  clear c0 c1 c2 c3 c4 c5 c6 c7 c8 c9
  obtain ⟨c0, c1, c2, c3, c4, c5, c6, c7, c8, c9⟩ := HZ1.out.later hg2
  clear hg2
  cases hp : okB z.p with
  | false =>
    have HP1 := Lib.hid hp
    clear hp
    go_wp2_with fail
    all_goals
      go_ret
      refine ⟨reti ?_, HG2.out⟩
      rw [HC.out, HP1.out]
      simp
  | true =>
    have HP1 := Lib.hid hp
    obtain ⟨p1, p2, _⟩ := HP.out.1 hp
    clear hp
    cases hq : okB z.q with
    | false =>
      have HQ1 := Lib.hid hq
      clear hq
      go_wp2_with fail
      all_goals
        go_ret
        refine ⟨reti ?_, HG2.out⟩
        rw [HC.out, HQ1.out]
        simp
    | true =>
      have HQ1 := Lib.hid hq
      obtain ⟨q1, q2, _⟩ := HQ.out.1 hq
      clear hq
      by_cases hlt : z.p.m - z.q.m < 0
      all_goals
        go_wp2_with fail
        all_goals
          go_ret
          refine ⟨reti ?_, HG2.out⟩
          rw [HC.out, HP1.out, HQ1.out]
          first
            | (rw [if_pos ⟨rfl, rfl, HA.out.2 (by omega)⟩])
            | (rw [if_neg (by rintro ⟨_, _, h⟩; have := HA.out.1 h; omega)])

theorem rcheck_any (z : Zn) (w : World) : Calls Try.prog 26 #[.agg (zc z)] w fun e w' => e = .returned (.int .i64 (ck z)) ∧ Later w w' := by
  by_cases h : z.b < -720 ∨ 840 < z.b ∨ z.s < 0 ∨ 120 < z.s
  · exact rcheck_low z w h
  by_cases hs : z.s = 0
  · exact rcheck_zero z w (by omega) (by omega) hs
  · exact rcheck_some z w (by omega) (by omega) (by omega) (by omega)

end Go.Proofs.Ythbgllbbliijlaa.Zone
