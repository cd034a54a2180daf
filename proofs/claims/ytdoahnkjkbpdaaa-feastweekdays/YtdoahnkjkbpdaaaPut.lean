/-
  By how many days a year is put off, by its moon's weekday and part; a year's delay, first day and length. Conditions: the weekday is from 0 to 6; the years are from 2 to 10000, as each theorem says.
-/
import Derived.Test.YtdoahnkjkbpdaaaMol
namespace Go.Proofs.Ytdoahnkjkbpdaaa.Mol
open Go.ChangeShapes Go.WideShapes Go.ChangeAt Go.RowKit
open Go.Proofs.Ytdoahnkjkbpdaaa.Divs Go.Proofs.Ytdoahnkjkbpdaaa.Grow
open Go.Proofs.Ytdoahnkjkbpdaaa.Year (lh mh pt md mp p1 p2 po dl ny yl)

theorem four (x : Int) : ((x == 0) = true) ∨ ((x == 0) = false ∧ (x == 3) = true) ∨ ((x == 0) = false ∧ (x == 3) = false ∧ (x == 5) = true) ∨ ((x == 0) = false ∧ (x == 3) = false ∧ (x == 5) = false) := by
  cases x == 0 <;> cases x == 3 <;> cases x == 5 <;> simp

theorem p2_yes (v : Int) (h : (v % 7 == 0) = true ∨ (v % 7 == 3) = true ∨ (v % 7 == 5) = true) : p2 v = 1 := by
  simp only [beq_iff_eq] at h
  unfold p2
  rw [if_pos h]
theorem p2_no (v : Int) (h : (v % 7 == 0) = false ∧ (v % 7 == 3) = false ∧ (v % 7 == 5) = false) : p2 v = 0 := by
  simp only [beq_eq_false_iff_ne] at h
  unfold p2
  rw [if_neg (by omega)]

theorem put_late (v p : Int) (l b : Bool) (w : World) (v0 : 0 ≤ v) (v1 : v ≤ 6) (hp : 19440 ≤ p) :
    Calls Try.prog 74 #[.int .i64 v, .int .i64 p, .bool l, .bool b] w fun e w' => e = .returned (.int .i64 (po v p l b)) ∧ ∃ n, w' = w.drewN n := by
  have h1 : p1 v p l b = 1 := by unfold p1; rw [if_pos (Or.inl hp)]
  have hv : po v p l b = 1 + p2 (v + 1) := by unfold po; rw [h1]
  clear h1
  have K1 := Lib.hid (fun W => weekday_any (v + 1) W (by omega) (by omega))
  rcases four ((v + 1) % 7) with t1 | ⟨t1, t2⟩ | ⟨t1, t2, t3⟩ | ⟨t1, t2, t3⟩
  · rw [p2_yes (v + 1) (Or.inl t1)] at hv
    have HV := Lib.hid hv
    clear hv
    go_enter Try.func74, Try.ntmps74
    go_wp2_with (go_at_call 22; refine (K1.out _).mono ?_; rintro e w' ⟨rfl, n, rfl⟩)
    go_ret
    exact ⟨ret1 HV.out.symm, _, rfl⟩
  · rw [p2_yes (v + 1) (Or.inr (Or.inl t2))] at hv
    have HV := Lib.hid hv
    clear hv
    go_enter Try.func74, Try.ntmps74
    go_wp2_with (go_at_call 22; refine (K1.out _).mono ?_; rintro e w' ⟨rfl, n, rfl⟩)
    go_ret
    exact ⟨ret1 HV.out.symm, _, rfl⟩
  · rw [p2_yes (v + 1) (Or.inr (Or.inr t3))] at hv
    have HV := Lib.hid hv
    clear hv
    go_enter Try.func74, Try.ntmps74
    go_wp2_with (go_at_call 22; refine (K1.out _).mono ?_; rintro e w' ⟨rfl, n, rfl⟩)
    go_ret
    exact ⟨ret1 HV.out.symm, _, rfl⟩
  · rw [p2_no (v + 1) ⟨t1, t2, t3⟩] at hv
    have HV := Lib.hid hv
    clear hv
    go_enter Try.func74, Try.ntmps74
    go_wp2_with (go_at_call 22; refine (K1.out _).mono ?_; rintro e w' ⟨rfl, n, rfl⟩)
    go_ret
    exact ⟨ret1 HV.out.symm, _, rfl⟩

theorem put_other (v p : Int) (l b : Bool) (w : World) (v0 : 0 ≤ v) (v1 : v ≤ 6) (hp : p < 19440) (n1 : ¬ v = 1) (n2 : ¬ v = 2) :
    Calls Try.prog 74 #[.int .i64 v, .int .i64 p, .bool l, .bool b] w fun e w' => e = .returned (.int .i64 (po v p l b)) ∧ ∃ n, w' = w.drewN n := by
  have h1 : p1 v p l b = 0 := by unfold p1; rw [if_neg (by omega)]
  have hv : po v p l b = 0 + p2 (v + 0) := by unfold po; rw [h1]
  have e1 : (v == 1) = false := beq_eq_false_iff_ne.2 n1
  have e2 : (v == 2) = false := beq_eq_false_iff_ne.2 n2
  clear h1 n1 n2
  have K1 := Lib.hid (fun W => weekday_any (v + 0) W (by omega) (by omega))
  rw [Int.add_zero] at *
  rcases four (v % 7) with t1 | ⟨t1, t2⟩ | ⟨t1, t2, t3⟩ | ⟨t1, t2, t3⟩
  · rw [p2_yes v (Or.inl t1)] at hv
    have HV := Lib.hid hv
    clear hv
    go_enter Try.func74, Try.ntmps74
    go_wp2_with (go_at_call 22; refine (K1.out _).mono ?_; rintro e w' ⟨rfl, n, rfl⟩)
    go_ret
    exact ⟨ret1 HV.out.symm, _, rfl⟩
  · rw [p2_yes v (Or.inr (Or.inl t2))] at hv
    have HV := Lib.hid hv
    clear hv
    go_enter Try.func74, Try.ntmps74
    go_wp2_with (go_at_call 22; refine (K1.out _).mono ?_; rintro e w' ⟨rfl, n, rfl⟩)
    go_ret
    exact ⟨ret1 HV.out.symm, _, rfl⟩
  · rw [p2_yes v (Or.inr (Or.inr t3))] at hv
    have HV := Lib.hid hv
    clear hv
    go_enter Try.func74, Try.ntmps74
    go_wp2_with (go_at_call 22; refine (K1.out _).mono ?_; rintro e w' ⟨rfl, n, rfl⟩)
    go_ret
    exact ⟨ret1 HV.out.symm, _, rfl⟩
  · rw [p2_no v ⟨t1, t2, t3⟩] at hv
    have HV := Lib.hid hv
    clear hv
    go_enter Try.func74, Try.ntmps74
    go_wp2_with (go_at_call 22; refine (K1.out _).mono ?_; rintro e w' ⟨rfl, n, rfl⟩)
    go_ret
    exact ⟨ret1 HV.out.symm, _, rfl⟩

theorem put_2_leap (p : Int) (b : Bool) (w : World) (hp : p < 19440) :
    Calls Try.prog 74 #[.int .i64 2, .int .i64 p, .bool true, .bool b] w fun e w' => e = .returned (.int .i64 (po 2 p true b)) ∧ ∃ n, w' = w.drewN n := by
  have h1 : p1 2 p true b = 0 := by unfold p1; rw [if_neg (by simp; omega)]
  have hv : po 2 p true b = 0 := by unfold po; rw [h1]; decide
  have HV := Lib.hid hv
  clear h1 hv
  have K1 := Lib.hid (fun W => weekday_any 2 W (by omega) (by omega))
  go_enter Try.func74, Try.ntmps74
  go_wp2_with (go_at_call 22; refine (K1.out _).mono ?_; rintro e w' ⟨rfl, n, rfl⟩)
  go_ret
  exact ⟨ret1 HV.out.symm, _, rfl⟩

theorem put_2_low (p : Int) (b : Bool) (w : World) (hp : p < 9924) :
    Calls Try.prog 74 #[.int .i64 2, .int .i64 p, .bool false, .bool b] w fun e w' => e = .returned (.int .i64 (po 2 p false b)) ∧ ∃ n, w' = w.drewN n := by
  have h1 : p1 2 p false b = 0 := by unfold p1; rw [if_neg (by simp; omega)]
  have hv : po 2 p false b = 0 := by unfold po; rw [h1]; decide
  have HV := Lib.hid hv
  clear h1 hv
  have K1 := Lib.hid (fun W => weekday_any 2 W (by omega) (by omega))
  go_enter Try.func74, Try.ntmps74
  go_wp2_with (go_at_call 22; refine (K1.out _).mono ?_; rintro e w' ⟨rfl, n, rfl⟩)
  go_ret
  exact ⟨ret1 HV.out.symm, _, rfl⟩

theorem put_2_high (p : Int) (b : Bool) (w : World) (hp : p < 19440) (hq : 9924 ≤ p) :
    Calls Try.prog 74 #[.int .i64 2, .int .i64 p, .bool false, .bool b] w fun e w' => e = .returned (.int .i64 (po 2 p false b)) ∧ ∃ n, w' = w.drewN n := by
  have h1 : p1 2 p false b = 1 := by unfold p1; rw [if_pos (by simp; omega)]
  have hv : po 2 p false b = 2 := by unfold po; rw [h1]; decide
  have HV := Lib.hid hv
  clear h1 hv
  have K1 := Lib.hid (fun W => weekday_any 3 W (by omega) (by omega))
  go_enter Try.func74, Try.ntmps74
  go_wp2_with (go_at_call 22; refine (K1.out _).mono ?_; rintro e w' ⟨rfl, n, rfl⟩)
  go_ret
  exact ⟨ret1 HV.out.symm, _, rfl⟩

theorem put_1_calm (p : Int) (l : Bool) (w : World) (hp : p < 19440) :
    Calls Try.prog 74 #[.int .i64 1, .int .i64 p, .bool l, .bool false] w fun e w' => e = .returned (.int .i64 (po 1 p l false)) ∧ ∃ n, w' = w.drewN n := by
  have h1 : p1 1 p l false = 0 := by unfold p1; rw [if_neg (by simp; omega)]
  have hv : po 1 p l false = 0 := by unfold po; rw [h1]; decide
  have HV := Lib.hid hv
  clear h1 hv
  have K1 := Lib.hid (fun W => weekday_any 1 W (by omega) (by omega))
  go_enter Try.func74, Try.ntmps74
  go_wp2_with (go_at_call 22; refine (K1.out _).mono ?_; rintro e w' ⟨rfl, n, rfl⟩)
  go_ret
  exact ⟨ret1 HV.out.symm, _, rfl⟩

theorem put_1_low (p : Int) (l : Bool) (w : World) (hp : p < 16789) :
    Calls Try.prog 74 #[.int .i64 1, .int .i64 p, .bool l, .bool true] w fun e w' => e = .returned (.int .i64 (po 1 p l true)) ∧ ∃ n, w' = w.drewN n := by
  have h1 : p1 1 p l true = 0 := by unfold p1; rw [if_neg (by simp; omega)]
  have hv : po 1 p l true = 0 := by unfold po; rw [h1]; decide
  have HV := Lib.hid hv
  clear h1 hv
  have K1 := Lib.hid (fun W => weekday_any 1 W (by omega) (by omega))
  go_enter Try.func74, Try.ntmps74
  go_wp2_with (go_at_call 22; refine (K1.out _).mono ?_; rintro e w' ⟨rfl, n, rfl⟩)
  go_ret
  exact ⟨ret1 HV.out.symm, _, rfl⟩

theorem put_1_high (p : Int) (l : Bool) (w : World) (hp : p < 19440) (hq : 16789 ≤ p) :
    Calls Try.prog 74 #[.int .i64 1, .int .i64 p, .bool l, .bool true] w fun e w' => e = .returned (.int .i64 (po 1 p l true)) ∧ ∃ n, w' = w.drewN n := by
  have h1 : p1 1 p l true = 1 := by unfold p1; rw [if_pos (by simp; omega)]
  have hv : po 1 p l true = 1 := by unfold po; rw [h1]; decide
  have HV := Lib.hid hv
  clear h1 hv
  have K1 := Lib.hid (fun W => weekday_any 2 W (by omega) (by omega))
  go_enter Try.func74, Try.ntmps74
  go_wp2_with (go_at_call 22; refine (K1.out _).mono ?_; rintro e w' ⟨rfl, n, rfl⟩)
  go_ret
  exact ⟨ret1 HV.out.symm, _, rfl⟩

theorem put_any (v p : Int) (l b : Bool) (w : World) (v0 : 0 ≤ v) (v1 : v ≤ 6) :
    Calls Try.prog 74 #[.int .i64 v, .int .i64 p, .bool l, .bool b] w fun e w' => e = .returned (.int .i64 (po v p l b)) ∧ ∃ n, w' = w.drewN n := by
  by_cases hp : 19440 ≤ p
  · exact put_late v p l b w v0 v1 hp
  by_cases n2 : v = 2
  · subst n2
    cases l with
    | true => exact put_2_leap p b w (by omega)
    | false =>
      by_cases hq : 9924 ≤ p
      · exact put_2_high p b w (by omega) hq
      · exact put_2_low p b w (by omega)
  by_cases n1 : v = 1
  · subst n1
    cases b with
    | false => exact put_1_calm p l w (by omega)
    | true =>
      by_cases hq : 16789 ≤ p
      · exact put_1_high p l w (by omega) hq
      · exact put_1_low p l w (by omega)
  exact put_other v p l b w v0 v1 (by omega) n1 n2

end Go.Proofs.Ytdoahnkjkbpdaaa.Mol
