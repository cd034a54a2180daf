/-
  Whether a window, and the times of a configuration, may be, by the reckoning. No condition.
-/
import Derived.Test.YthbgllbbliijlaaCq
import Derived.Test.YthbgllbbliijlaaSr
namespace Go.Proofs.Ythbgllbbliijlaa.Conf
open Go.ChangeShapes Go.WideShapes Go.ChangeAt Go.RowKit
open Go.Proofs.Ythbgllbbliijlaa.Divs Go.Proofs.Ythbgllbbliijlaa.Grow Go.Proofs.Ythbgllbbliijlaa.Zone
open Go.Proofs.Ythbgllbbliijlaa.By (Sk SL)
open Go.Proofs.Ythbgllbbliijlaa.Each
open Go.Proofs.Ythbgllbbliijlaa.Zo Go.Proofs.Ythbgllbbliijlaa.Su Go.Proofs.Ythbgllbbliijlaa.Cf

def tmB (x : Wn) : Bool := decide (0 ≤ x.u ∧ x.u ≤ 1439 ∧ 1 ≤ x.l ∧ x.l ≤ 10080)

theorem tmB_iff (x : Wn) : tmB x = true ↔ 0 ≤ x.u ∧ x.u ≤ 1439 ∧ 1 ≤ x.l ∧ x.l ≤ 10080 := by simp [tmB]

set_option maxHeartbeats 2000000 in
theorem wo_iff (x : Wn) : wo x = true ↔ (0 ≤ x.m ∧ x.m ≤ 5 ∧ 0 ≤ x.p ∧ x.p ≤ 99) ∧ ((x.k = 1 ∧ tmB x = true ∧ 1 ≤ x.a ∧ x.a ≤ 127 ∧ x.h = 0) ∨ (x.k = 2 ∧ tmB x = true ∧ 401 ≤ x.a ∧ x.a ≤ 3651998 ∧ x.h = 0) ∨ (x.k = 3 ∧ tmB x = true ∧ 1 ≤ x.a ∧ x.a ≤ 7 ∧ -7 ≤ x.h ∧ x.h ≤ 7) ∨ (x.k = 4 ∧ x.a = 0 ∧ x.h = 0 ∧ 0 ≤ x.u ∧ x.u ≤ 180 ∧ 0 ≤ x.l ∧ x.l ≤ 180)) := by
  unfold wo kn al ru
  rw [tmB_iff]
  simp only [Bool.and_eq_true, bt_iff]
  by_cases h1 : x.k = 1
  · simp [h1]; omega
  by_cases h2 : x.k = 2
  · simp [h2]; omega
  by_cases h3 : x.k = 3
  · simp [h3]; omega
  by_cases h4 : x.k = 4
  · simp [h4]; omega
  · constructor
    · rintro ⟨h, _⟩
      omega
    · rintro ⟨_, h⟩
      rcases h with ⟨h, _⟩ | ⟨h, _⟩ | ⟨h, _⟩ | ⟨h, _⟩
      · exact absurd h h1
      · exact absurd h h2
      · exact absurd h h3
      · exact absurd h h4

theorem timed_any (x : Wn) (w : World) : Calls Try.prog 28 #[.agg (wc x).toArray] w fun e w' => e = .returned (.bool (tmB x)) ∧ Later w w' := by
  have HV := Lib.hid (tmB_iff x)
  have HL := Lib.hid ((Later.refl w).alloc (wc x).toArray 35)
  unfold wc at *
  go_enter Try.func28, Try.ntmps28
  go_wp2
  all_goals
    go_ret
    refine ⟨retb ?_, HL.out⟩
    rw [Bool.eq_iff_iff, HV.out]
    simp
    omega

set_option maxHeartbeats 4000000 in
theorem rwindow_any (x : Wn) (w : World) : Calls Try.prog 15 #[.agg (wc x).toArray] w fun e w' => e = .returned (.bool (wo x)) ∧ Later w w' := by
  have HV := Lib.hid (wo_iff x)
  have K := Lib.hid (fun W => timed_any x W)
  have HL := Lib.hid ((Later.refl w).alloc (wc x).toArray 35)
  have HA := Lib.hid (At.new w (wc x).toArray 35)
  unfold wc at *
  by_cases hm : 0 ≤ x.m ∧ x.m ≤ 5 ∧ 0 ≤ x.p ∧ x.p ≤ 99
  · obtain ⟨m0, m1, p0, p1⟩ := hm
    have HP : Hid (0 ≤ x.m ∧ x.m ≤ 5 ∧ 0 ≤ x.p ∧ x.p ≤ 99) := Lib.hid ⟨m0, m1, p0, p1⟩
    have t1 : decide (x.m < 0) = false := by simp; omega
    have t2 : decide (x.m > 5) = false := by simp; omega
    have t3 : decide (x.p < 0) = false := by simp; omega
    have t4 : decide (x.p > 99) = false := by simp; omega
    clear m0 m1 p0 p1
    go_enter Try.func15, Try.ntmps15
    go_wp2_with fail
    refine (K.out _).mono ?_
    rintro e w1 ⟨rfl, hg1⟩
    have hA := HA.out.later hg1
    have HG := Lib.hid (gtrans HL.out hg1)
    have c0 := hA 0 _ rfl
    have c3 := hA 3 _ rfl
    have c4 := hA 4 _ rfl
    have c5 := hA 5 _ rfl
    have c6 := hA 6 _ rfl
    simp at c0 c3 c4 c5 c6
    clear hA hg1 t1 t2 t3 t4
    obtain ⟨b, hb⟩ : ∃ b, tmB x = b := ⟨_, rfl⟩
    rw [hb]
    have HB := Lib.hid hb
    clear hb
    have HW : Hid (wo x = ((x.k == 1 && (b && (decide (1 ≤ x.a) && (decide (x.a ≤ 127) && x.h == 0)))) || ((x.k == 2 && (b && (decide (401 ≤ x.a) && (decide (x.a ≤ 3651998) && x.h == 0)))) || ((x.k == 3 && (b && (decide (1 ≤ x.a) && (decide (x.a ≤ 7) && (decide (-7 ≤ x.h) && decide (x.h ≤ 7)))))) || (x.k == 4 && (x.a == 0 && (x.h == 0 && (decide (0 ≤ x.u) && (decide (x.u ≤ 180) && (decide (0 ≤ x.l) && decide (x.l ≤ 180))))))))))) := Lib.hid (by
      rw [Bool.eq_iff_iff, HV.out, HB.out]
      have := HP.out
      simp only [Bool.or_eq_true, Bool.and_eq_true, decide_eq_true_eq, beq_iff_eq]
      simp only [this.1, this.2.1, this.2.2.1, this.2.2.2, true_and, and_true])
    go_wp2
    all_goals
      go_ret
      refine ⟨retb ?_, HG.out⟩
      rw [HW.out]
      first | (simp_all; done) | (simp_all; omega)
  · have HW : Hid (wo x = false) := Lib.hid (by
      cases e : wo x with
      | false => rfl
      | true => exact absurd ((wo_iff x).1 e).1 hm)
    have HM := Lib.hid hm
    clear hm
    go_enter Try.func15, Try.ntmps15
    go_wp2_with fail
    all_goals first
      | (go_ret; exact ⟨retb HW.out.symm, HL.out⟩)
      | (exfalso; have := HM.out; omega)

end Go.Proofs.Ythbgllbbliijlaa.Conf
