/-
  Whether a configuration's times and stops may be, by the reckoning. No condition but those that each theorem states.
-/
import Derived.Test.YthbgllbbliijlaaCr
import Derived.Test.YthbgllbbliijlaaDa
namespace Go.Proofs.Ythbgllbbliijlaa.Conf
open Go.ChangeShapes Go.WideShapes Go.ChangeAt Go.RowKit
open Go.Proofs.Ythbgllbbliijlaa.Divs Go.Proofs.Ythbgllbbliijlaa.Grow Go.Proofs.Ythbgllbbliijlaa.Zone
open Go.Proofs.Ythbgllbbliijlaa.By (Sk SL)
open Go.Proofs.Ythbgllbbliijlaa.Each
open Go.Proofs.Ythbgllbbliijlaa.Zo Go.Proofs.Ythbgllbbliijlaa.Su Go.Proofs.Ythbgllbbliijlaa.Cf

theorem tick_any (n : Int) (w : World) : Calls Try.prog 38 #[.int .i64 n] w fun e w' => e = .returned (.bool (bt n 1 60)) ∧ w = w' := by
  go_enter Try.func38, Try.ntmps38
  go_wp2
  all_goals
    go_ret
    refine ⟨retb ?_, rfl⟩
    rw [Bool.eq_iff_iff, bt_iff]
    simp
    try omega

set_option maxHeartbeats 4000000 in
theorem rtimes_any (c : Cg) (u v : Value) (w : World) : Calls Try.prog 25 #[.agg (cc c u v)] w fun e w' => e = .returned (.bool (ti c)) ∧ Later w w' := by
  have K := Lib.hid (fun n W => tick_any n W)
  obtain ⟨b1, e1⟩ : ∃ b, bt c.t 1 60 = b := ⟨_, rfl⟩
  obtain ⟨b2, e2⟩ : ∃ b, bt c.l 1 60 = b := ⟨_, rfl⟩
  obtain ⟨b3, e3⟩ : ∃ b, bt c.o 1 60 = b := ⟨_, rfl⟩
  obtain ⟨b4, e4⟩ : ∃ b, bt c.d 1 60 = b := ⟨_, rfl⟩
  obtain ⟨b5, e5⟩ : ∃ b, bt c.c 1 60 = b := ⟨_, rfl⟩
  have hv : ti c = ((b1 && (b2 && (b3 && (b4 && b5)))) && (bt c.h 0 60 && ((bt c.r 1 300 && bt c.q 1 300) && bt c.e 1 (min (min c.d c.r) c.q)))) := by
    unfold ti
    rw [e1, e2, e3, e4, e5]
  have HV := Lib.hid hv
  have hw : (b1 && (b2 && (b3 && (b4 && b5)))) = true → (ti c = true ↔ (0 ≤ c.h ∧ c.h ≤ 60 ∧ 1 ≤ c.r ∧ c.r ≤ 300 ∧ 1 ≤ c.q ∧ c.q ≤ 300 ∧ 1 ≤ c.e ∧ c.e ≤ c.d ∧ c.e ≤ c.r ∧ c.e ≤ c.q)) := by
    intro h
    rw [hv, h, Bool.true_and]
    simp only [Bool.and_eq_true, bt_iff]
    omega
  have HW := Lib.hid hw
  generalize ti c = R at *
  have E1 := Lib.hid e1
  have E2 := Lib.hid e2
  have E3 := Lib.hid e3
  have E4 := Lib.hid e4
  have E5 := Lib.hid e5
  clear hv hw e1 e2 e3 e4 e5
  obtain ⟨C, hC⟩ : ∃ C, C = cc c u v := ⟨_, rfl⟩
  rw [← hC]
  have f4 : C[4]? = some (.int .i64 c.t) := by rw [hC]; rfl
  have f5 : C[5]? = some (.int .i64 c.l) := by rw [hC]; rfl
  have f6 : C[6]? = some (.int .i64 c.o) := by rw [hC]; rfl
  have f7 : C[7]? = some (.int .i64 c.d) := by rw [hC]; rfl
  have f8 : C[8]? = some (.int .i64 c.e) := by rw [hC]; rfl
  have f9 : C[9]? = some (.int .i64 c.c) := by rw [hC]; rfl
  have f10 : C[10]? = some (.int .i64 c.h) := by rw [hC]; rfl
  have f11 : C[11]? = some (.int .i64 c.r) := by rw [hC]; rfl
  have f12 : C[12]? = some (.int .i64 c.q) := by rw [hC]; rfl
  clear hC
  have HL : Hid (Later w ((w.alloc (.cells C 33)).alloc (.cells #[.int .i64 c.t, .int .i64 c.l, .int .i64 c.o, .int .i64 c.d, .int .i64 c.e, .int .i64 c.c, .int .i64 c.h] 24))) := Lib.hid (((Later.refl w).alloc _ _).alloc _ _)
  go_enter Try.func25, Try.ntmps25
  go_wp2_with fail
  refine (K.out c.t _).mono ?_
  rintro e _ ⟨rfl, rfl⟩
  rw [E1.out]
  go_wp2_with fail
  refine (K.out c.l _).mono ?_
  rintro e _ ⟨rfl, rfl⟩
  rw [E2.out]
  go_wp2_with fail
  refine (K.out c.o _).mono ?_
  rintro e _ ⟨rfl, rfl⟩
  rw [E3.out]
  go_wp2_with fail
  refine (K.out c.d _).mono ?_
  rintro e _ ⟨rfl, rfl⟩
  rw [E4.out]
  go_wp2_with fail
  refine (K.out c.c _).mono ?_
  rintro e _ ⟨rfl, rfl⟩
  rw [E5.out]
  cases b1 with
  | false =>
    go_wp2_with fail
    go_ret
    exact ⟨retb (by rw [HV.out]; rfl), HL.out⟩
  | true =>
  cases b2 with
  | false =>
    go_wp2_with fail
    go_ret
    exact ⟨retb (by rw [HV.out]; rfl), HL.out⟩
  | true =>
  cases b3 with
  | false =>
    go_wp2_with fail
    go_ret
    exact ⟨retb (by rw [HV.out]; rfl), HL.out⟩
  | true =>
  cases b4 with
  | false =>
    go_wp2_with fail
    go_ret
    exact ⟨retb (by rw [HV.out]; rfl), HL.out⟩
  | true =>
  cases b5 with
  | false =>
    go_wp2_with fail
    go_ret
    exact ⟨retb (by rw [HV.out]; rfl), HL.out⟩
  | true =>
  go_wp2
  all_goals
    go_ret
    refine ⟨retb ?_, HL.out⟩
    rw [Bool.eq_iff_iff, HW.out rfl]
    simp
    try omega

end Go.Proofs.Ythbgllbbliijlaa.Conf
