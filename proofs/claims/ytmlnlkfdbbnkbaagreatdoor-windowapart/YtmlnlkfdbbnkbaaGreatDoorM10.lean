/-
  Texts of mine, merged: each part says what it holds. Conditions: as each theorem states.
-/
import Derived.Shelf.Abstract
import Derived.OwnWalk
import Derived.RangeFuncNested
import Derived.RangeFuncBound
import Derived.RangeFuncCalls
import Derived.RangeFuncLeaves
import Derived.Shelf.RegionOpen
import Derived.WalkKit
import Derived.OwnWalkIn
import Derived.TacticsInMore
import Derived.LoopNIn
import Derived.LoopIn
import Derived.Scope
import Derived.Test.YtmlnlkfdbbnkbaaGreatDoorM9

/- What the methods of a Hebrew year answer: leap years, months ahead, the moon's day and part. Conditions: the numbers are ints, the years are from 1 to 10000, as each theorem says. -/
namespace Go.Proofs.YtmlnlkfdbbnkbaaGreatDoor.Mol
set_option maxRecDepth 100000
open Go.ChangeShapes Go.WideShapes Go.ChangeAt Go.RowKit
open Go.Proofs.YtmlnlkfdbbnkbaaGreatDoor.Divs Go.Proofs.YtmlnlkfdbbnkbaaGreatDoor.Grow
open Go.Proofs.YtmlnlkfdbbnkbaaGreatDoor.Year (lh mh pt md mp p1 p2 po dl ny yl)

theorem lh_of (h : Int) : decide ((7 * (h % 19) + 1) % 19 < 7) = lh h := rfl

theorem leap_any (h : Int) (w : World) (h0 : -9223372036854775808 ≤ h) (h1 : h ≤ 9223372036854775807) :
    Calls Tryz.prog 115 #[.int .i64 h] w fun e w' => e = .returned (.bool (lh h)) ∧ ∃ n, w' = w.drewN n := by
  have hm0 := Int.emod_nonneg h (show (19 : Int) ≠ 0 by omega)
  have hm1 := Int.emod_lt_of_pos h (show (0 : Int) < 19 by omega)
  have k1 := fun W => mod_yes h 19 W h0 h1 (by omega) (by omega)
  have k2 := fun W => mod_yes (7 * (h % 19) + 1) 19 W (by omega) (by omega) (by omega) (by omega)
  have K1 := Lib.hid k1
  have K2 := Lib.hid k2
  clear k1 k2
  go_enter Tryz.func115, Tryz.ntmps115
  go_wp2_with fail
  refine (K1.out _).mono ?_
  rintro e w1 ⟨rfl, n1, rfl⟩
  go_wp2_with fail
  refine (K2.out _).mono ?_
  rintro e w2 ⟨rfl, n2, rfl⟩
  go_wp2_with fail
  go_ret
  exact ⟨retb (lh_of h), _, rfl⟩

theorem months_any (h : Int) (w : World) (h1 : 1 ≤ h) (h2 : h ≤ 10000) :
    Calls Tryz.prog 146 #[.agg #[.int .i64 h]] w fun e w' => e = .returned (.int .i64 (mh h)) ∧ Later w w' := by
  have k1 := fun W => div_yes (7 * (h - 1) + 1) 19 W (by omega) (by omega) (by omega) (by omega)
  have K1 := Lib.hid k1
  have hb : 0 ≤ (7 * (h - 1) + 1) / 19 ∧ (7 * (h - 1) + 1) / 19 ≤ 10000 := by omega
  clear k1
  go_enter Tryz.func146, Tryz.ntmps146
  go_wp2_with fail
  refine (K1.out _).mono ?_
  rintro e w1 ⟨rfl, n1, rfl⟩
  go_wp2_with fail
  go_ret
  exact ⟨ret1 rfl, ((Later.refl w).alloc _ _)⟩

theorem parts_any (h : Int) (w : World) (h1 : 1 ≤ h) (h2 : h ≤ 10000) :
    Calls Tryz.prog 143 #[.agg #[.int .i64 h]] w fun e w' => e = .returned (.int .i64 (pt h)) ∧ Later w w' := by
  have hb := Year.mh_bd h h1 h2
  go_enter Tryz.func143, Tryz.ntmps143
  go_wp2_with fail
  refine (months_any _ _ h1 h2).mono ?_
  rintro e w1 ⟨rfl, hg1⟩
  go_wp2_with fail
  go_ret
  exact ⟨ret1 rfl, gtrans ((Later.refl w).alloc _ _) hg1⟩

theorem day_any (h : Int) (w : World) (h1 : 1 ≤ h) (h2 : h ≤ 10000) :
    Calls Tryz.prog 140 #[.agg #[.int .i64 h]] w fun e w' => e = .returned (.int .i64 (md h)) ∧ Later w w' := by
  have hb := Year.pt_bd h h1 h2
  have k1 := fun W => div_yes (pt h) 25920 W (by omega) (by omega) (by omega) (by omega)
  have hq : 0 ≤ pt h / 25920 ∧ pt h / 25920 ≤ 4000000 := by omega
  have K1 := Lib.hid k1
  clear k1
  go_enter Tryz.func140, Tryz.ntmps140
  go_wp2_with fail
  refine (parts_any _ _ h1 h2).mono ?_
  rintro e w1 ⟨rfl, hg1⟩
  go_wp2_with fail
  refine (K1.out _).mono ?_
  rintro e w2 ⟨rfl, n2, rfl⟩
  go_wp2_with fail
  go_ret
  exact ⟨ret1 rfl, gtrans ((Later.refl w).alloc _ _) hg1⟩

theorem part_any (h : Int) (w : World) (h1 : 1 ≤ h) (h2 : h ≤ 10000) :
    Calls Tryz.prog 145 #[.agg #[.int .i64 h]] w fun e w' => e = .returned (.int .i64 (mp h)) ∧ Later w w' := by
  have hb := Year.pt_bd h h1 h2
  have k1 := fun W => mod_yes (pt h) 25920 W (by omega) (by omega) (by omega) (by omega)
  have K1 := Lib.hid k1
  clear k1
  go_enter Tryz.func145, Tryz.ntmps145
  go_wp2_with fail
  refine (parts_any _ _ h1 h2).mono ?_
  rintro e w1 ⟨rfl, hg1⟩
  go_wp2_with fail
  refine (K1.out _).mono ?_
  rintro e w2 ⟨rfl, n2, rfl⟩
  go_wp2_with fail
  go_ret
  exact ⟨ret1 rfl, gtrans ((Later.refl w).alloc _ _) hg1⟩

theorem weekday_any (n : Int) (w : World) (h0 : -9223372036854775808 ≤ n) (h1 : n ≤ 9223372036854775807) :
    Calls Tryz.prog 66 #[.int .i64 n] w fun e w' => e = .returned (.int .i64 (n % 7)) ∧ ∃ k, w' = w.drewN k := by
  have k1 := fun W => mod_yes n 7 W h0 h1 (by omega) (by omega)
  have K1 := Lib.hid k1
  clear k1
  go_enter Tryz.func66, Tryz.ntmps66
  go_wp2_with fail
  refine (K1.out _).mono ?_
  rintro e w1 ⟨rfl, n1, rfl⟩
  go_wp2_with fail
  go_ret
  exact ⟨rfl, _, rfl⟩

/-- A year that is not reckoned: no question is asked. -/
theorem reckon_no (h : Int) (f : Value) (w : World) (hb : h < 3762 ∨ 9999 < h) :
    Calls Tryz.prog 130 #[.int .i64 h, f] w fun e w' => e = .returned (.tuple #[.int .i64 0, .int .i64 30]) ∧ w = w' := by
  by_cases h1 : h < 3762
  · clear hb
    have h3 : h ≤ 9999 := by omega
    go_enter Tryz.func130, Tryz.ntmps130
    go_wp2
    go_ret2
    exact ⟨rfl, rfl⟩
  · have h2 : 9999 < h := by omega
    clear hb
    go_enter Tryz.func130, Tryz.ntmps130
    go_wp2
    go_ret2
    exact ⟨rfl, rfl⟩

theorem reckon_yes (h v : Int) (k : FuncId) (w : World) (h1 : 3762 ≤ h) (h2 : h ≤ 9999)
    (ek : ∀ args W, (callFunc k args).run Tryz.prog W = .ok (.enter k args) W) (hk : ∀ W, Calls Tryz.prog k #[.agg #[.int .i64 h]] W fun e w' => e = .returned (.int .i64 v) ∧ Later W w') :
    Calls Tryz.prog 130 #[.int .i64 h, .func (.func k) #[.agg #[.int .i64 h]] #[]] w fun e w' => e = .returned (.tuple #[.int .i64 v, .int .i64 0]) ∧ Later w w' := by
  have HK := Lib.hid hk
  clear hk
  go_enter Tryz.func130, Tryz.ntmps130
  go_wp2_with fail
  refine (HK.out _).mono ?_
  rintro e w1 ⟨rfl, hg1⟩
  go_wp2_with fail
  go_ret2
  exact ⟨rfl, hg1⟩

end Go.Proofs.YtmlnlkfdbbnkbaaGreatDoor.Mol

/- By how many days a year is put off, by its moon's weekday and part; a year's delay, first day and length. Conditions: the weekday is from 0 to 6; the years are from 2 to 10000, as each theorem says. -/
namespace Go.Proofs.YtmlnlkfdbbnkbaaGreatDoor.Mol
set_option maxRecDepth 100000
open Go.ChangeShapes Go.WideShapes Go.ChangeAt Go.RowKit
open Go.Proofs.YtmlnlkfdbbnkbaaGreatDoor.Divs Go.Proofs.YtmlnlkfdbbnkbaaGreatDoor.Grow
open Go.Proofs.YtmlnlkfdbbnkbaaGreatDoor.Year (lh mh pt md mp p1 p2 po dl ny yl)

theorem four (x : Int) : ((x == 0) = true) ∨ ((x == 0) = false ∧ (x == 3) = true) ∨ ((x == 0) = false ∧ (x == 3) = false ∧ (x == 5) = true) ∨ ((x == 0) = false ∧ (x == 3) = false ∧ (x == 5) = false) := by
  cases x == 0 <;> cases x == 3 <;> cases x == 5 <;> simp

theorem p2_yes (v : Int) (h : (v % 7 == 0) = true ∨ (v % 7 == 3) = true ∨ (v % 7 == 5) = true) : p2 v = 1 := by
  simp only [beq_iff_eq] at h
  unfold p2
  rw [if_pos h]
theorem p2_no (v : Int) (h : (v % 7 == 0) = false ∧ (v % 7 == 3) = false ∧ (v % 7 == 5) = false) : p2 v = 0 := by
  simp only [beq_eq_false_iff_ne] at h
  unfold p2
  rw [if_neg (by omega)]

theorem put_late (v p : Int) (l b : Bool) (w : World) (v0 : 0 ≤ v) (v1 : v ≤ 6) (hp : 19440 ≤ p) :
    Calls Tryz.prog 144 #[.int .i64 v, .int .i64 p, .bool l, .bool b] w fun e w' => e = .returned (.int .i64 (po v p l b)) ∧ ∃ n, w' = w.drewN n := by
  have h1 : p1 v p l b = 1 := by unfold p1; rw [if_pos (Or.inl hp)]
  have hv : po v p l b = 1 + p2 (v + 1) := by unfold po; rw [h1]
  clear h1
  have K1 := Lib.hid (fun W => weekday_any (v + 1) W (by omega) (by omega))
  rcases four ((v + 1) % 7) with t1 | ⟨t1, t2⟩ | ⟨t1, t2, t3⟩ | ⟨t1, t2, t3⟩
  · rw [p2_yes (v + 1) (Or.inl t1)] at hv
    have HV := Lib.hid hv
    clear hv
    go_enter Tryz.func144, Tryz.ntmps144
    go_wp2_with (go_at_call 66; refine (K1.out _).mono ?_; rintro e w' ⟨rfl, n, rfl⟩)
    go_ret
    exact ⟨ret1 HV.out.symm, _, rfl⟩
  · rw [p2_yes (v + 1) (Or.inr (Or.inl t2))] at hv
    have HV := Lib.hid hv
    clear hv
    go_enter Tryz.func144, Tryz.ntmps144
    go_wp2_with (go_at_call 66; refine (K1.out _).mono ?_; rintro e w' ⟨rfl, n, rfl⟩)
    go_ret
    exact ⟨ret1 HV.out.symm, _, rfl⟩
  · rw [p2_yes (v + 1) (Or.inr (Or.inr t3))] at hv
    have HV := Lib.hid hv
    clear hv
    go_enter Tryz.func144, Tryz.ntmps144
    go_wp2_with (go_at_call 66; refine (K1.out _).mono ?_; rintro e w' ⟨rfl, n, rfl⟩)
    go_ret
    exact ⟨ret1 HV.out.symm, _, rfl⟩
  · rw [p2_no (v + 1) ⟨t1, t2, t3⟩] at hv
    have HV := Lib.hid hv
    clear hv
    go_enter Tryz.func144, Tryz.ntmps144
    go_wp2_with (go_at_call 66; refine (K1.out _).mono ?_; rintro e w' ⟨rfl, n, rfl⟩)
    go_ret
    exact ⟨ret1 HV.out.symm, _, rfl⟩

theorem put_other (v p : Int) (l b : Bool) (w : World) (v0 : 0 ≤ v) (v1 : v ≤ 6) (hp : p < 19440) (n1 : ¬ v = 1) (n2 : ¬ v = 2) :
    Calls Tryz.prog 144 #[.int .i64 v, .int .i64 p, .bool l, .bool b] w fun e w' => e = .returned (.int .i64 (po v p l b)) ∧ ∃ n, w' = w.drewN n := by
  have h1 : p1 v p l b = 0 := by unfold p1; rw [if_neg (by omega)]
  have hv : po v p l b = 0 + p2 (v + 0) := by unfold po; rw [h1]
  have e1 : (v == 1) = false := beq_eq_false_iff_ne.2 n1
  have e2 : (v == 2) = false := beq_eq_false_iff_ne.2 n2
  clear h1 n1 n2
  have K1 := Lib.hid (fun W => weekday_any (v + 0) W (by omega) (by omega))
  rw [Int.add_zero] at *
  rcases four (v % 7) with t1 | ⟨t1, t2⟩ | ⟨t1, t2, t3⟩ | ⟨t1, t2, t3⟩
  · rw [p2_yes v (Or.inl t1)] at hv
    have HV := Lib.hid hv
    clear hv
    go_enter Tryz.func144, Tryz.ntmps144
    go_wp2_with (go_at_call 66; refine (K1.out _).mono ?_; rintro e w' ⟨rfl, n, rfl⟩)
    go_ret
    exact ⟨ret1 HV.out.symm, _, rfl⟩
  · rw [p2_yes v (Or.inr (Or.inl t2))] at hv
    have HV := Lib.hid hv
    clear hv
    go_enter Tryz.func144, Tryz.ntmps144
    go_wp2_with (go_at_call 66; refine (K1.out _).mono ?_; rintro e w' ⟨rfl, n, rfl⟩)
    go_ret
    exact ⟨ret1 HV.out.symm, _, rfl⟩
  · rw [p2_yes v (Or.inr (Or.inr t3))] at hv
    have HV := Lib.hid hv
    clear hv
    go_enter Tryz.func144, Tryz.ntmps144
    go_wp2_with (go_at_call 66; refine (K1.out _).mono ?_; rintro e w' ⟨rfl, n, rfl⟩)
    go_ret
    exact ⟨ret1 HV.out.symm, _, rfl⟩
  · rw [p2_no v ⟨t1, t2, t3⟩] at hv
    have HV := Lib.hid hv
    clear hv
    go_enter Tryz.func144, Tryz.ntmps144
    go_wp2_with (go_at_call 66; refine (K1.out _).mono ?_; rintro e w' ⟨rfl, n, rfl⟩)
    go_ret
    exact ⟨ret1 HV.out.symm, _, rfl⟩

theorem put_2_leap (p : Int) (b : Bool) (w : World) (hp : p < 19440) :
    Calls Tryz.prog 144 #[.int .i64 2, .int .i64 p, .bool true, .bool b] w fun e w' => e = .returned (.int .i64 (po 2 p true b)) ∧ ∃ n, w' = w.drewN n := by
  have h1 : p1 2 p true b = 0 := by unfold p1; rw [if_neg (by simp; omega)]
  have hv : po 2 p true b = 0 := by unfold po; rw [h1]; decide
  have HV := Lib.hid hv
  clear h1 hv
  have K1 := Lib.hid (fun W => weekday_any 2 W (by omega) (by omega))
  go_enter Tryz.func144, Tryz.ntmps144
  go_wp2_with (go_at_call 66; refine (K1.out _).mono ?_; rintro e w' ⟨rfl, n, rfl⟩)
  go_ret
  exact ⟨ret1 HV.out.symm, _, rfl⟩

theorem put_2_low (p : Int) (b : Bool) (w : World) (hp : p < 9924) :
    Calls Tryz.prog 144 #[.int .i64 2, .int .i64 p, .bool false, .bool b] w fun e w' => e = .returned (.int .i64 (po 2 p false b)) ∧ ∃ n, w' = w.drewN n := by
  have h1 : p1 2 p false b = 0 := by unfold p1; rw [if_neg (by simp; omega)]
  have hv : po 2 p false b = 0 := by unfold po; rw [h1]; decide
  have HV := Lib.hid hv
  clear h1 hv
  have K1 := Lib.hid (fun W => weekday_any 2 W (by omega) (by omega))
  go_enter Tryz.func144, Tryz.ntmps144
  go_wp2_with (go_at_call 66; refine (K1.out _).mono ?_; rintro e w' ⟨rfl, n, rfl⟩)
  go_ret
  exact ⟨ret1 HV.out.symm, _, rfl⟩

theorem put_2_high (p : Int) (b : Bool) (w : World) (hp : p < 19440) (hq : 9924 ≤ p) :
    Calls Tryz.prog 144 #[.int .i64 2, .int .i64 p, .bool false, .bool b] w fun e w' => e = .returned (.int .i64 (po 2 p false b)) ∧ ∃ n, w' = w.drewN n := by
  have h1 : p1 2 p false b = 1 := by unfold p1; rw [if_pos (by simp; omega)]
  have hv : po 2 p false b = 2 := by unfold po; rw [h1]; decide
  have HV := Lib.hid hv
  clear h1 hv
  have K1 := Lib.hid (fun W => weekday_any 3 W (by omega) (by omega))
  go_enter Tryz.func144, Tryz.ntmps144
  go_wp2_with (go_at_call 66; refine (K1.out _).mono ?_; rintro e w' ⟨rfl, n, rfl⟩)
  go_ret
  exact ⟨ret1 HV.out.symm, _, rfl⟩

theorem put_1_calm (p : Int) (l : Bool) (w : World) (hp : p < 19440) :
    Calls Tryz.prog 144 #[.int .i64 1, .int .i64 p, .bool l, .bool false] w fun e w' => e = .returned (.int .i64 (po 1 p l false)) ∧ ∃ n, w' = w.drewN n := by
  have h1 : p1 1 p l false = 0 := by unfold p1; rw [if_neg (by simp; omega)]
  have hv : po 1 p l false = 0 := by unfold po; rw [h1]; decide
  have HV := Lib.hid hv
  clear h1 hv
  have K1 := Lib.hid (fun W => weekday_any 1 W (by omega) (by omega))
  go_enter Tryz.func144, Tryz.ntmps144
  go_wp2_with (go_at_call 66; refine (K1.out _).mono ?_; rintro e w' ⟨rfl, n, rfl⟩)
  go_ret
  exact ⟨ret1 HV.out.symm, _, rfl⟩

theorem put_1_low (p : Int) (l : Bool) (w : World) (hp : p < 16789) :
    Calls Tryz.prog 144 #[.int .i64 1, .int .i64 p, .bool l, .bool true] w fun e w' => e = .returned (.int .i64 (po 1 p l true)) ∧ ∃ n, w' = w.drewN n := by
  have h1 : p1 1 p l true = 0 := by unfold p1; rw [if_neg (by simp; omega)]
  have hv : po 1 p l true = 0 := by unfold po; rw [h1]; decide
  have HV := Lib.hid hv
  clear h1 hv
  have K1 := Lib.hid (fun W => weekday_any 1 W (by omega) (by omega))
  go_enter Tryz.func144, Tryz.ntmps144
  go_wp2_with (go_at_call 66; refine (K1.out _).mono ?_; rintro e w' ⟨rfl, n, rfl⟩)
  go_ret
  exact ⟨ret1 HV.out.symm, _, rfl⟩

theorem put_1_high (p : Int) (l : Bool) (w : World) (hp : p < 19440) (hq : 16789 ≤ p) :
    Calls Tryz.prog 144 #[.int .i64 1, .int .i64 p, .bool l, .bool true] w fun e w' => e = .returned (.int .i64 (po 1 p l true)) ∧ ∃ n, w' = w.drewN n := by
  have h1 : p1 1 p l true = 1 := by unfold p1; rw [if_pos (by simp; omega)]
  have hv : po 1 p l true = 1 := by unfold po; rw [h1]; decide
  have HV := Lib.hid hv
  clear h1 hv
  have K1 := Lib.hid (fun W => weekday_any 2 W (by omega) (by omega))
  go_enter Tryz.func144, Tryz.ntmps144
  go_wp2_with (go_at_call 66; refine (K1.out _).mono ?_; rintro e w' ⟨rfl, n, rfl⟩)
  go_ret
  exact ⟨ret1 HV.out.symm, _, rfl⟩

theorem put_any (v p : Int) (l b : Bool) (w : World) (v0 : 0 ≤ v) (v1 : v ≤ 6) :
    Calls Tryz.prog 144 #[.int .i64 v, .int .i64 p, .bool l, .bool b] w fun e w' => e = .returned (.int .i64 (po v p l b)) ∧ ∃ n, w' = w.drewN n := by
  by_cases hp : 19440 ≤ p
  · exact put_late v p l b w v0 v1 hp
  by_cases n2 : v = 2
  · subst n2
    cases l with
    | true => exact put_2_leap p b w (by omega)
    | false =>
      by_cases hq : 9924 ≤ p
      · exact put_2_high p b w (by omega) hq
      · exact put_2_low p b w (by omega)
  by_cases n1 : v = 1
  · subst n1
    cases b with
    | false => exact put_1_calm p l w (by omega)
    | true =>
      by_cases hq : 16789 ≤ p
      · exact put_1_high p l w (by omega) hq
      · exact put_1_low p l w (by omega)
  exact put_other v p l b w v0 v1 (by omega) n1 n2

end Go.Proofs.YtmlnlkfdbbnkbaaGreatDoor.Mol

/- A year's delay, its first day and its length, and what the calls of layer 3 answer. Conditions: the numbers are ints; the years are from 2 to 10000, as each theorem says. -/
namespace Go.Proofs.YtmlnlkfdbbnkbaaGreatDoor.Mol
set_option maxRecDepth 100000
open Go.ChangeShapes Go.WideShapes Go.ChangeAt Go.RowKit
open Go.Proofs.YtmlnlkfdbbnkbaaGreatDoor.Divs Go.Proofs.YtmlnlkfdbbnkbaaGreatDoor.Grow
open Go.Proofs.YtmlnlkfdbbnkbaaGreatDoor.Year (lh mh pt md mp p1 p2 po dl ny yl)

theorem dl_of (h : Int) : po (md h % 7) (mp h) (lh h) (lh (h - 1)) = dl h := rfl

theorem delay_any (h : Int) (w : World) (h1 : 2 ≤ h) (h2 : h ≤ 10000) :
    Calls Tryz.prog 141 #[.agg #[.int .i64 h]] w fun e w' => e = .returned (.int .i64 (dl h)) ∧ Later w w' := by
  have X0 := Lib.hid (gw_new w #[.int .i64 h] 158 0 (.int .i64 h) rfl)
  have hb := Year.md_bd h (by omega) h2
  have hw : 0 ≤ md h % 7 ∧ md h % 7 ≤ 6 := by omega
  have D := Lib.hid (fun W => day_any h W (by omega) h2)
  have P := Lib.hid (fun W => part_any h W (by omega) h2)
  have V := Lib.hid (fun W => drew_g (weekday_any (md h) W (by omega) (by omega)))
  have L := Lib.hid (fun (k : Int) (k1 : 1 ≤ k) (k2 : k ≤ 10000) W => drew_g (leap_any k W (by omega) (by omega)))
  have Q := Lib.hid (fun W => drew_g (put_any (md h % 7) (mp h) (lh h) (lh (h - 1)) W hw.1 hw.2))
  go_enter Tryz.func141, Tryz.ntmps141
  go_wp2_with fail
  have x0 := X0.out
  refine region_grown (by kernel_rfl) (by kernel_rfl) ?_
  repeat (go_big_quiet_step (first
    | (go_at_call 140; exact in_grown (D.out _))
    | (go_at_call 145; exact in_grown (P.out _))
    | (go_at_call 66; exact in_grown (V.out _))
    | (go_at_call 115; exact in_grown (L.out _ (by omega) (by omega) _))
    | (go_at_call 144; exact in_grown (Q.out _))))
  refine wpQuiet_nil (grown_end ?_)
  intro w2 hg2
  clear x0
  go_wp2_with fail
  go_ret
  exact ⟨ret1 (dl_of h), gtrans ((Later.refl w).alloc _ _) hg2⟩

theorem first_any (h : Int) (w : World) (h1 : 2 ≤ h) (h2 : h ≤ 10000) :
    Calls Tryz.prog 131 #[.agg #[.int .i64 h]] w fun e w' => e = .returned (.int .i64 (ny h)) ∧ Later w w' := by
  have X0 := Lib.hid (gw_new w #[.int .i64 h] 158 0 (.int .i64 h) rfl)
  have hb := Year.md_bd h (by omega) h2
  have hd := Year.dl_bd h
  have D := Lib.hid (fun W => day_any h W (by omega) h2)
  have P := Lib.hid (fun W => delay_any h W (by omega) h2)
  go_enter Tryz.func131, Tryz.ntmps131
  go_wp2_with fail
  have x0 := X0.out
  refine region_grown (by kernel_rfl) (by kernel_rfl) ?_
  repeat (go_big_quiet_step (first
    | (go_at_call 140; exact in_grown (D.out _))
    | (go_at_call 141; exact in_grown (P.out _))))
  refine wpQuiet_nil (grown_end ?_)
  intro w2 hg2
  clear x0
  go_wp2_with fail
  go_ret
  exact ⟨ret1 rfl, gtrans ((Later.refl w).alloc _ _) hg2⟩

theorem two_old (w : World) (a b : Value) (t : TypeId) : ∀ x : Gw ((w.alloc (.cells #[a] t)).alloc (.cells #[b] t)), x.w'.cell? ⟨w.heap.size, 0, none⟩ = some a :=
  gw_cell (by simp)
theorem two_new (w : World) (a b : Value) (t : TypeId) : ∀ x : Gw ((w.alloc (.cells #[a] t)).alloc (.cells #[b] t)), x.w'.cell? ⟨w.heap.size + 1, 0, none⟩ = some b :=
  gw_cell (by simp)

theorem days_any (h : Int) (w : World) (h1 : 2 ≤ h) (h2 : h ≤ 9999) :
    Calls Tryz.prog 132 #[.agg #[.int .i64 h]] w fun e w' => e = .returned (.int .i64 (yl h)) ∧ Later w w' := by
  have hb := Year.ny_bd h (by omega) (by omega)
  have hd := Year.ny_bd (h + 1) (by omega) (by omega)
  have D := Lib.hid (fun (k : Int) (k1 : 2 ≤ k) (k2 : k ≤ 10000) W => first_any k W k1 k2)
  have X0 := Lib.hid (two_old w (.int .i64 h) (.int .i64 (h + 1)) 158)
  have X1 := Lib.hid (two_new w (.int .i64 h) (.int .i64 (h + 1)) 158)
  go_enter Tryz.func132, Tryz.ntmps132
  go_wp2_with fail
  have x0 := X0.out
  have x1 := X1.out
  refine region_grown (by kernel_rfl) (by kernel_rfl) ?_
  repeat (go_big_quiet_step ((go_at_call 131; exact in_grown (D.out _ (by omega) (by omega) _))))
  refine wpQuiet_nil (grown_end ?_)
  intro w2 hg2
  clear x0 x1
  go_wp2_with fail
  go_ret
  exact ⟨ret1 rfl, gtrans (((Later.refl w).alloc _ _).alloc _ _) hg2⟩

theorem newyear_yes (h : Int) (w : World) (h1 : 3762 ≤ h) (h2 : h ≤ 9999) :
    Calls Tryz.prog 113 #[.int .i64 h] w fun e w' => e = .returned (.tuple #[.int .i64 (ny h), .int .i64 0]) ∧ Later w w' := by
  have K := Lib.hid (fun W => reckon_yes h (ny h) 131 W h1 h2 (enters_of Tryz.func131 (by kernel_rfl) rfl) (fun W => first_any h W (by omega) (by omega)))
  go_enter Tryz.func113, Tryz.ntmps113
  go_wp2_with fail
  refine (K.out _).mono ?_
  rintro e w1 ⟨rfl, hg1⟩
  go_wp2_with fail
  go_ret2
  exact ⟨rfl, hg1⟩

theorem newyear_no (h : Int) (w : World) (hb : h < 3762 ∨ 9999 < h) :
    Calls Tryz.prog 113 #[.int .i64 h] w fun e w' => e = .returned (.tuple #[.int .i64 0, .int .i64 30]) ∧ w = w' := by
  have K := Lib.hid (fun f W => reckon_no h f W hb)
  clear hb
  go_enter Tryz.func113, Tryz.ntmps113
  go_wp2_with fail
  refine (K.out _ _).mono ?_
  rintro e w1 ⟨rfl, rfl⟩
  go_wp2_with fail
  go_ret2
  exact ⟨rfl, rfl⟩

theorem len_yes (h : Int) (w : World) (h1 : 3762 ≤ h) (h2 : h ≤ 9999) :
    Calls Tryz.prog 114 #[.int .i64 h] w fun e w' => e = .returned (.tuple #[.int .i64 (yl h), .int .i64 0]) ∧ Later w w' := by
  have K := Lib.hid (fun W => reckon_yes h (yl h) 132 W h1 h2 (enters_of Tryz.func132 (by kernel_rfl) rfl) (fun W => days_any h W (by omega) (by omega)))
  go_enter Tryz.func114, Tryz.ntmps114
  go_wp2_with fail
  refine (K.out _).mono ?_
  rintro e w1 ⟨rfl, hg1⟩
  go_wp2_with fail
  go_ret2
  exact ⟨rfl, hg1⟩

theorem len_no (h : Int) (w : World) (hb : h < 3762 ∨ 9999 < h) :
    Calls Tryz.prog 114 #[.int .i64 h] w fun e w' => e = .returned (.tuple #[.int .i64 0, .int .i64 30]) ∧ w = w' := by
  have K := Lib.hid (fun f W => reckon_no h f W hb)
  clear hb
  go_enter Tryz.func114, Tryz.ntmps114
  go_wp2_with fail
  refine (K.out _ _).mono ?_
  rintro e w1 ⟨rfl, rfl⟩
  go_wp2_with fail
  go_ret2
  exact ⟨rfl, rfl⟩

end Go.Proofs.YtmlnlkfdbbnkbaaGreatDoor.Mol

/- Plain facts on the days of Hebrew months, in whole numbers: a month's days by the year's length and whether it is leap, the days ahead of a month, which year and month a day lies in, and the row of the months that have days. No condition but those that each theorem states. -/
namespace Go.Proofs.YtmlnlkfdbbnkbaaGreatDoor.Heb
set_option maxRecDepth 100000
open Go.Proofs.YtmlnlkfdbbnkbaaGreatDoor.Year

/-- The days of month m, of a year of l days, leap or not. -/
def hd (l : Int) (b : Bool) (m : Int) : Int :=
  if m = 2 then (if l % 10 = 5 then 30 else 29) else if m = 3 then (if l % 10 = 3 then 29 else 30) else if m = 6 then (if b = true then 30 else 0)
  else if m = 1 ∨ m = 5 ∨ m = 8 ∨ m = 10 ∨ m = 12 then 30 else if m = 4 ∨ m = 7 ∨ m = 9 ∨ m = 11 ∨ m = 13 then 29 else 0

/-- The days ahead of month m. -/
def ha (l : Int) (b : Bool) (m : Int) : Int :=
  if m ≤ 1 then 0 else if m = 2 then 30 else if m = 3 then 30 + hd l b 2 else if m = 4 then 30 + hd l b 2 + hd l b 3 else if m = 5 then 59 + hd l b 2 + hd l b 3
  else if m = 6 then 89 + hd l b 2 + hd l b 3 else if m = 7 then 89 + hd l b 2 + hd l b 3 + hd l b 6 else if m = 8 then 118 + hd l b 2 + hd l b 3 + hd l b 6
  else if m = 9 then 148 + hd l b 2 + hd l b 3 + hd l b 6 else if m = 10 then 177 + hd l b 2 + hd l b 3 + hd l b 6 else if m = 11 then 207 + hd l b 2 + hd l b 3 + hd l b 6
  else if m = 12 then 236 + hd l b 2 + hd l b 3 + hd l b 6 else if m = 13 then 266 + hd l b 2 + hd l b 3 + hd l b 6 else 295 + hd l b 2 + hd l b 3 + hd l b 6

theorem months_all (m : Int) (h1 : 1 ≤ m) (h2 : m ≤ 13) : m = 1 ∨ m = 2 ∨ m = 3 ∨ m = 4 ∨ m = 5 ∨ m = 6 ∨ m = 7 ∨ m = 8 ∨ m = 9 ∨ m = 10 ∨ m = 11 ∨ m = 12 ∨ m = 13 := by omega

theorem hd_range (l : Int) (b : Bool) (m : Int) : hd l b m = 0 ∨ hd l b m = 29 ∨ hd l b m = 30 := by
  unfold hd
  repeat' split
  all_goals simp

theorem hd_bd (l : Int) (b : Bool) (m : Int) : 0 ≤ hd l b m ∧ hd l b m ≤ 30 := by
  have := hd_range l b m
  omega

theorem hd_out (l : Int) (b : Bool) (m : Int) (h : m < 1 ∨ 13 < m) : hd l b m = 0 := by
  unfold hd
  repeat' split
  all_goals omega

theorem hd_six (l : Int) : hd l false 6 = 0 ∧ hd l true 6 = 30 := by simp [hd]

theorem hd_in (l : Int) (b : Bool) (m : Int) (h1 : 1 ≤ m) (h2 : m ≤ 13) (h6 : m ≠ 6 ∨ b = true) : 29 ≤ hd l b m := by
  rcases h6 with h6 | h6
  · unfold hd
    repeat' split
    all_goals omega
  · subst h6
    unfold hd
    repeat' split
    all_goals first | omega | simp_all

theorem hd_zero (l : Int) (b : Bool) (m : Int) (h1 : 1 ≤ m) (h2 : m ≤ 13) (h0 : hd l b m = 0) : m = 6 ∧ b = false := by
  have k := hd_in l b m h1 h2
  by_cases h6 : m ≠ 6 ∨ b = true
  · have := k h6; omega
  · refine ⟨by omega, ?_⟩
    cases b <;> simp_all

theorem hd_month (l : Int) (b : Bool) (m : Int) (h : 0 < hd l b m) : 1 ≤ m ∧ m ≤ 13 := by
  by_cases k : m < 1 ∨ 13 < m
  · have := hd_out l b m k; omega
  · omega

theorem ha_one (l : Int) (b : Bool) : ha l b 1 = 0 := by simp [ha]

theorem ha_step (l : Int) (b : Bool) (m : Int) (h1 : 1 ≤ m) (h2 : m ≤ 13) : ha l b (m + 1) = ha l b m + hd l b m := by
  rcases months_all m h1 h2 with rfl | rfl | rfl | rfl | rfl | rfl | rfl | rfl | rfl | rfl | rfl | rfl | rfl <;>
    simp [ha, hd] <;> omega

theorem ha_bd (l : Int) (b : Bool) (m : Int) : 0 ≤ ha l b m ∧ ha l b m ≤ 385 := by
  have := hd_bd l b 2
  have := hd_bd l b 3
  have := hd_bd l b 6
  unfold ha
  repeat' split
  all_goals omega

theorem ha_le (l : Int) (b : Bool) (m : Int) (h1 : 1 ≤ m) (n : Nat) (h2 : m + n ≤ 14) : ha l b m ≤ ha l b (m + n) := by
  induction n with
  | zero => simp
  | succ n ih =>
    have k := ih (by omega)
    have s := ha_step l b (m + n) (by omega) (by omega)
    have := hd_bd l b (m + n)
    rw [show m + ((n + 1 : Nat) : Int) = m + n + 1 by omega, s]
    omega

theorem ha_mono (l : Int) (b : Bool) (m m' : Int) (h1 : 1 ≤ m) (h : m ≤ m') (h2 : m' ≤ 14) : ha l b m ≤ ha l b m' := by
  have k := ha_le l b m h1 (m' - m).toNat (by omega)
  rwa [show m + ((m' - m).toNat : Int) = m' by omega] at k

/-- A month is told by a day. -/
theorem ha_one_of (l : Int) (b : Bool) (g m m' : Int) (a1 : 1 ≤ m) (a2 : m ≤ 13) (a3 : ha l b m ≤ g) (a4 : g < ha l b (m + 1)) (c1 : 1 ≤ m') (c2 : m' ≤ 13) (c3 : ha l b m' ≤ g) (c4 : g < ha l b (m' + 1)) : m' = m := by
  by_cases x : m' < m
  · have := ha_mono l b (m' + 1) m (by omega) (by omega) (by omega); omega
  · by_cases y : m < m'
    · have := ha_mono l b (m + 1) m' (by omega) (by omega) (by omega); omega
    · omega

theorem yl_digit (h : Int) : (lh h = false ∧ (yl h = 353 ∨ yl h = 354 ∨ yl h = 355)) ∨ (lh h = true ∧ (yl h = 383 ∨ yl h = 384 ∨ yl h = 385)) := by
  cases hl : lh h with
  | false => have := len_common h hl; left; exact ⟨rfl, by omega⟩
  | true => have := len_leap h hl; right; exact ⟨rfl, by omega⟩

theorem yl_bd (h : Int) : 353 ≤ yl h ∧ yl h ≤ 385 := by have := yl_digit h; omega

/-- A year's months have as many days as the year. -/
theorem ha_all (h : Int) : ha (yl h) (lh h) 14 = yl h := by
  rcases yl_digit h with ⟨hl, e | e | e⟩ | ⟨hl, e | e | e⟩ <;> rw [hl, e] <;> decide

/-- From 15 Nisan to the next new year there are 163 days. -/
theorem ha_spring (h : Int) : yl h - ha (yl h) (lh h) 8 - 14 = 163 := by
  rcases yl_digit h with ⟨hl, e | e | e⟩ | ⟨hl, e | e | e⟩ <;> rw [hl, e] <;> decide

/-- Of two places where a row of numbers stands at and beyond n there is one where it steps over n. -/
theorem step_over (f : Int → Int) (a n : Int) (k : Nat) (h1 : f a ≤ n) (h2 : n < f (a + k)) : ∃ h, a ≤ h ∧ h < a + k ∧ f h ≤ n ∧ n < f (h + 1) := by
  induction k with
  | zero => simp at h2; omega
  | succ k ih =>
    by_cases c : n < f (a + k)
    · obtain ⟨h, x1, x2, x3, x4⟩ := ih c
      exact ⟨h, x1, by omega, x3, x4⟩
    · refine ⟨a + k, by omega, by omega, by omega, ?_⟩
      rwa [show a + (k : Int) + 1 = a + ((k + 1 : Nat) : Int) by omega]

theorem year_of (n : Int) (h1 : ny 3762 ≤ n) (h2 : n < ny 10000) : ∃ h, 3762 ≤ h ∧ h ≤ 9999 ∧ ny h ≤ n ∧ n < ny (h + 1) := by
  obtain ⟨h, x1, x2, x3, x4⟩ := step_over ny 3762 n 6238 h1 (by simpa using h2)
  exact ⟨h, x1, by omega, x3, x4⟩

theorem month_of (l : Int) (b : Bool) (g : Int) (h1 : 0 ≤ g) (h2 : g < ha l b 14) : ∃ m, 1 ≤ m ∧ m ≤ 13 ∧ ha l b m ≤ g ∧ g < ha l b (m + 1) := by
  obtain ⟨h, x1, x2, x3, x4⟩ := step_over (ha l b) 1 g 13 (by rw [ha_one]; exact h1) (by simpa using h2)
  exact ⟨h, x1, by omega, x3, x4⟩

theorem ny_next (h : Int) : ny (h + 1) = ny h + yl h := by unfold yl; omega

theorem ny_le (a : Int) (n : Nat) : ny a ≤ ny (a + n) := by
  induction n with
  | zero => simp
  | succ n ih =>
    have s := ny_next (a + n)
    have := yl_bd (a + n)
    rw [show a + ((n + 1 : Nat) : Int) = a + n + 1 by omega, s]
    omega

theorem ny_mono (a c : Int) (h : a ≤ c) : ny a ≤ ny c := by
  have k := ny_le a (c - a).toNat
  rwa [show a + ((c - a).toNat : Int) = c by omega] at k

/-- A year is told by a day. -/
theorem ny_one_of (n h y : Int) (a1 : ny h ≤ n) (a2 : n < ny (h + 1)) : (ny y ≤ n ↔ y ≤ h) := by
  constructor
  · intro k
    by_cases x : y ≤ h
    · exact x
    · have := ny_mono (h + 1) y (by omega); omega
  · intro k
    have := ny_mono y h k
    omega

/-- The first k months' pairs of month and days, without those that have no days. -/
def ups (l : Int) (b : Bool) : Nat → List (Int × Int)
  | 0 => []
  | k + 1 => if hd l b ((k : Int) + 1) = 0 then ups l b k else ups l b k ++ [((k : Int) + 1, hd l b ((k : Int) + 1))]

theorem ups_length (l : Int) (b : Bool) (k : Nat) : (ups l b k).length ≤ k := by
  induction k with
  | zero => simp [ups]
  | succ k ih =>
    unfold ups
    split
    · omega
    · simp; omega

theorem ups_none (l : Int) (b : Bool) (k : Nat) (h : hd l b ((k : Int) + 1) = 0) : ups l b (k + 1) = ups l b k := by simp [ups, h]
theorem ups_one (l : Int) (b : Bool) (k : Nat) (h : ¬ hd l b ((k : Int) + 1) = 0) : ups l b (k + 1) = ups l b k ++ [((k : Int) + 1, hd l b ((k : Int) + 1))] := by simp [ups, h]

/-- What has come, by its last pair. -/
theorem ups_snoc (l : Int) (b : Bool) (k : Nat) (hk : k ≤ 13) (pre : List (Int × Int)) (x : Int × Int) (h : pre ++ [x] = ups l b k) :
    ∃ j : Nat, j < k ∧ pre = ups l b j ∧ x = ((j : Int) + 1, hd l b ((j : Int) + 1)) ∧ hd l b ((j : Int) + 1) ≠ 0 ∧ ha l b ((k : Int) + 1) = ha l b ((j : Int) + 1) + hd l b ((j : Int) + 1) ∧
      ∀ i : Int, (j : Int) + 1 < i → i ≤ k → hd l b i = 0 := by
  induction k with
  | zero => simp [ups] at h
  | succ k ih =>
    have s := ha_step l b ((k : Int) + 1) (by omega) (by omega)
    by_cases c : hd l b ((k : Int) + 1) = 0
    · rw [ups_none l b k c] at h
      obtain ⟨j, x1, x2, x3, x4, x5, x6⟩ := ih (by omega) h
      refine ⟨j, by omega, x2, x3, x4, ?_, fun i i1 i2 => ?_⟩
      · rw [show ((k + 1 : Nat) : Int) + 1 = (k : Int) + 1 + 1 by omega, s, c, x5]
        omega
      · by_cases e : i ≤ k
        · exact x6 i i1 e
        · rw [show i = (k : Int) + 1 by omega]; exact c
    · rw [ups_one l b k c] at h
      obtain ⟨e1, e2⟩ := List.append_inj' h rfl
      refine ⟨k, by omega, e1, by simpa using e2, c, ?_, fun i i1 i2 => by omega⟩
      rw [show ((k + 1 : Nat) : Int) + 1 = (k : Int) + 1 + 1 by omega, s]

theorem hd_example : hd 383 true 6 = 30 := by decide
theorem ha_example : ha 383 true 8 = 206 := by decide

end Go.Proofs.YtmlnlkfdbbnkbaaGreatDoor.Heb

/- How many days a Hebrew month has, by the program: a year reckoned, a month's days. Conditions: the numbers are ints; the years are from 3762 to 9999 or not, as each theorem says. -/
namespace Go.Proofs.YtmlnlkfdbbnkbaaGreatDoor.Hebrew
set_option maxRecDepth 100000
open Go.ChangeShapes Go.WideShapes Go.ChangeAt Go.RowKit
open Go.Proofs.YtmlnlkfdbbnkbaaGreatDoor.Divs Go.Proofs.YtmlnlkfdbbnkbaaGreatDoor.Grow Go.Proofs.YtmlnlkfdbbnkbaaGreatDoor.Mol
open Go.Proofs.YtmlnlkfdbbnkbaaGreatDoor.Year (lh mh pt md mp p1 p2 po dl ny yl)
open Go.Proofs.YtmlnlkfdbbnkbaaGreatDoor.Heb (hd ha ups)

theorem longif_yes (w : World) : Calls Tryz.prog 142 #[.bool true] w fun e w' => e = .returned (.int .i64 30) ∧ w = w' := by
  go_enter Tryz.func142, Tryz.ntmps142
  go_wp2
  go_ret
  exact ⟨rfl, rfl⟩

theorem longif_no (w : World) : Calls Tryz.prog 142 #[.bool false] w fun e w' => e = .returned (.int .i64 29) ∧ w = w' := by
  go_enter Tryz.func142, Tryz.ntmps142
  go_wp2
  go_ret
  exact ⟨rfl, rfl⟩

/-- The block that a year's value makes where it is a parameter. -/
def yv (h f l : Int) (b : Bool) : Array Value := #[.int .i64 h, .int .i64 f, .int .i64 l, .bool b]

theorem ydays_out (h f l : Int) (b : Bool) (m : Int) (w : World) (ho : m < 1 ∨ 13 < m) :
    Calls Tryz.prog 134 #[.agg #[.int .i64 h, .int .i64 f, .int .i64 l, .bool b], .int .i64 m] w fun e w' => e = .returned (.int .i64 0) ∧ w' = w.alloc (.cells (yv h f l b) 140) := by
  have t1 : (m == 1) = false := by simp; omega
  have t2 : (m == 2) = false := by simp; omega
  have t3 : (m == 3) = false := by simp; omega
  have t4 : (m == 4) = false := by simp; omega
  have t5 : (m == 5) = false := by simp; omega
  have t6 : (m == 6) = false := by simp; omega
  have t7 : (m == 7) = false := by simp; omega
  have t8 : (m == 8) = false := by simp; omega
  have t9 : (m == 9) = false := by simp; omega
  have t10 : (m == 10) = false := by simp; omega
  have t11 : (m == 11) = false := by simp; omega
  have t12 : (m == 12) = false := by simp; omega
  have t13 : (m == 13) = false := by simp; omega
  clear ho
  go_enter Tryz.func134, Tryz.ntmps134
  go_wp2
  go_ret
  exact ⟨rfl, rfl⟩

set_option maxHeartbeats 1000000 in
theorem ydays_any (h f l : Int) (b : Bool) (m : Int) (w : World) (l0 : 0 ≤ l) :
    Calls Tryz.prog 134 #[.agg #[.int .i64 h, .int .i64 f, .int .i64 l, .bool b], .int .i64 m] w fun e w' => e = .returned (.int .i64 (hd l b m)) ∧ w' = w.alloc (.cells (yv h f l b) 140) := by
  by_cases ho : m < 1 ∨ 13 < m
  · rw [Heb.hd_out l b m ho]
    exact ydays_out h f l b m w ho
  have hm : l.tmod 10 = l % 10 := Int.tmod_eq_emod_of_nonneg l0
  have Y := Lib.hid longif_yes
  have N := Lib.hid longif_no
  rcases Heb.months_all m (by omega) (by omega) with rfl | rfl | rfl | rfl | rfl | rfl | rfl | rfl | rfl | rfl | rfl | rfl | rfl
  · go_enter Tryz.func134, Tryz.ntmps134
    go_wp2
    go_ret
    exact ⟨ret1 (by simp [hd]), rfl⟩
  · by_cases h5 : l % 10 = 5
    · have t : (l % 10 == 5) = true := beq_iff_eq.2 h5
      have HS := Lib.hid h5
      clear h5
      go_enter Tryz.func134, Tryz.ntmps134
      go_wp2_with fail
      refine (Y.out _).mono ?_
      rintro e w1 ⟨rfl, rfl⟩
      go_wp2_with fail
      go_ret
      exact ⟨ret1 (by simp [hd, HS.out]), rfl⟩
    · have t : (l % 10 == 5) = false := by simpa using h5
      have HS := Lib.hid h5
      clear h5
      go_enter Tryz.func134, Tryz.ntmps134
      go_wp2_with fail
      refine (N.out _).mono ?_
      rintro e w1 ⟨rfl, rfl⟩
      go_wp2_with fail
      go_ret
      exact ⟨ret1 (by simp [hd, HS.out]), rfl⟩
  · by_cases h3 : l % 10 = 3
    · have t : (l % 10 != 3) = false := by simp [h3]
      have HS := Lib.hid h3
      clear h3
      go_enter Tryz.func134, Tryz.ntmps134
      go_wp2_with fail
      refine (N.out _).mono ?_
      rintro e w1 ⟨rfl, rfl⟩
      go_wp2_with fail
      go_ret
      exact ⟨ret1 (by simp [hd, HS.out]), rfl⟩
    · have t : (l % 10 != 3) = true := by simpa using h3
      have HS := Lib.hid h3
      clear h3
      go_enter Tryz.func134, Tryz.ntmps134
      go_wp2_with fail
      refine (Y.out _).mono ?_
      rintro e w1 ⟨rfl, rfl⟩
      go_wp2_with fail
      go_ret
      exact ⟨ret1 (by simp [hd, HS.out]), rfl⟩
  · go_enter Tryz.func134, Tryz.ntmps134
    go_wp2
    go_ret
    exact ⟨ret1 (by simp [hd]), rfl⟩
  · go_enter Tryz.func134, Tryz.ntmps134
    go_wp2
    go_ret
    exact ⟨ret1 (by simp [hd]), rfl⟩
  · cases b with
    | true =>
      go_enter Tryz.func134, Tryz.ntmps134
      go_wp2
      go_ret
      exact ⟨ret1 (by simp [hd]), rfl⟩
    | false =>
      go_enter Tryz.func134, Tryz.ntmps134
      go_wp2
      go_ret
      exact ⟨ret1 (by simp [hd]), rfl⟩
  all_goals
    go_enter Tryz.func134, Tryz.ntmps134
    go_wp2
    go_ret
    exact ⟨ret1 (by simp [hd]), rfl⟩

theorem cell4 {w w1 : World} {c : Array Value} {t : TypeId} (hg : Later (w.alloc (.cells c t)) w1) (i : Nat) {v : Value} (hc : c[i]? = some v) : w1.cell? ⟨w.heap.size, i, none⟩ = some v :=
  gsome hg (by rw [World.cell?_alloc_new]; exact hc)

theorem froz4 {w w1 : World} {c : Array Value} {t : TypeId} (hg : Later (w.alloc (.cells c t)) w1) (i : Nat) : w1.frozen? ⟨w.heap.size, i, none⟩ = false := by
  rw [gfrozen hg _ _ (by simp), frozen?_alloc_cells]
  simp [World.frozen?]

theorem cellN {X W : World} {c : Array Value} {t : TypeId} (hg : Later (X.alloc (.cells c t)) W) {n : Nat} (hn : X.heap.size = n) (i : Nat) {v : Value} (hc : c[i]? = some v) : W.cell? ⟨n, i, none⟩ = some v := hn ▸ cell4 hg i hc
theorem frozN {X W : World} {c : Array Value} {t : TypeId} (hg : Later (X.alloc (.cells c t)) W) {n : Nat} (hn : X.heap.size = n) (i : Nat) : W.frozen? ⟨n, i, none⟩ = false := hn ▸ froz4 hg i

/-- A store into a row that is known. -/
theorem row_set {X : World} {b : Nat} {c : Array Value} {t : TypeId} {fr : Nat × Nat} {k : Nat} {v : Value} (h : X.heap[b]? = some (.cells c t fr)) :
    (X.setCell ⟨b, k, none⟩ v).heap[b]? = some (.cells (c.setIfInBounds k v) t fr) := by
  simp [World.setCell, Array.getElem?_modify, h]

theorem row4 {X : World} {b : Nat} {t : TypeId} {fr : Nat × Nat} {u0 u1 u2 u3 v0 v1 v2 v3 : Value} (h : X.heap[b]? = some (.cells #[u0, u1, u2, u3] t fr)) :
    ((((X.setCell ⟨b, 0, none⟩ v0).setCell ⟨b, 1, none⟩ v1).setCell ⟨b, 2, none⟩ v2).setCell ⟨b, 3, none⟩ v3).heap[b]? = some (.cells #[v0, v1, v2, v3] t fr) := by
  have g := (row_set (k := 3) (v := v3) (row_set (k := 2) (v := v2) (row_set (k := 1) (v := v1) (row_set (k := 0) (v := v0) h))))
  simpa using g

theorem row3 {X : World} {b : Nat} {t : TypeId} {fr : Nat × Nat} {u0 u1 u2 v0 v1 v2 : Value} (h : X.heap[b]? = some (.cells #[u0, u1, u2] t fr)) :
    (((X.setCell ⟨b, 0, none⟩ v0).setCell ⟨b, 1, none⟩ v1).setCell ⟨b, 2, none⟩ v2).heap[b]? = some (.cells #[v0, v1, v2] t fr) := by
  have g := (row_set (k := 2) (v := v2) (row_set (k := 1) (v := v1) (row_set (k := 0) (v := v0) h)))
  simpa using g

theorem heap_late {w w1 : World} {o : Obj} (hg : Later (w.alloc o) w1) : w1.heap[w.heap.size]? = some o := by
  rw [hg.2.2.2 _ (by simp)]
  exact heap_alloc_new w o

/-- Two results: a struct in a block, and a slot. -/
theorem results_row_tmp {P : Program} {fn : Func} {p q : Tmp} {ty : TypeId} (h : fn.results = #[.cell p ty, .tmp q]) (tmps : Array Value) (w : World) (g : Nat) (t : TypeId) (cs : Array Value) (fr : Nat × Nat) (d : TypeDesc) (v : Value)
    (hp : tmps.getD p undef = .pointer (some ⟨g, 0, none⟩)) (hq : tmps.getD q undef = v) (hg : w.heap[g]? = some (.cells cs t fr))
    (hu : P.underlying ty = some d) (hd : (match d with | .struct _ | .array _ _ => true | _ => false) = true) (hi : (P.info? ty).map (·.size) = some cs.size) :
    (results fn tmps).run P w = .ok (.tuple #[.agg cs, v]) w := by
  have hp' : tmps[p]?.getD undef = .pointer (some ⟨g, 0, none⟩) := by simpa using hp
  have hq' : tmps[q]?.getD undef = v := by simpa using hq
  simp [results, h, hp', hq', asAddr, run_loadVar_row w g t ty cs fr d hg hu hd hi]

theorem yreckon_no (h : Int) (w : World) (hb : h < 3762 ∨ 9999 < h) :
    Calls Tryz.prog 93 #[.int .i64 h] w fun e w' => e = .returned (.tuple #[.agg #[.int .i64 0, .int .i64 0, .int .i64 0, .bool false], .bool false]) ∧ Later w w' := by
  have N := Lib.hid (fun W => newyear_no h W hb)
  clear hb
  go_enter Tryz.func93, Tryz.ntmps93
  go_wp2_with fail
  refine (N.out _).mono ?_
  rintro e w1 ⟨rfl, rfl⟩
  go_wp2_with fail
  refine bodyPost_ret (v := .tuple #[.agg #[.int .i64 0, .int .i64 0, .int .i64 0, .bool false], .bool false]) ?_ rfl ⟨rfl, ?_⟩
  · exact results_row_tmp (P := Tryz.prog) (fn := Tryz.f93) Tryz.results93 _ _ w.heap.size 140 _ (0, 0) _ _ rfl rfl (heap_alloc_new w _) Tryz.underlying140 rfl (by kernel_rfl)
  exact (Later.refl w).alloc _ _

theorem yreckon_yes (h : Int) (w : World) (h1 : 3762 ≤ h) (h2 : h ≤ 9999) :
    Calls Tryz.prog 93 #[.int .i64 h] w fun e w' => e = .returned (.tuple #[.agg #[.int .i64 h, .int .i64 (ny h), .int .i64 (yl h), .bool (lh h)], .bool true]) ∧ Later w w' := by
  have N := Lib.hid (fun W => newyear_yes h W h1 h2)
  have L := Lib.hid (fun W => len_yes h W h1 h2)
  have B := Lib.hid (fun W => drew_g (leap_any h W (by omega) (by omega)))
  go_enter Tryz.func93, Tryz.ntmps93
  go_wp2_with fail
  refine (N.out _).mono ?_
  rintro e w1 ⟨rfl, hg1⟩
  go_wp2_with fail
  refine (L.out _).mono ?_
  rintro e w2 ⟨rfl, hg2⟩
  go_wp2_with fail
  refine (B.out _).mono ?_
  rintro e w3 ⟨rfl, hg3⟩
  have hg := gtrans hg1 (gtrans hg2 hg3)
  have c0 := cell4 hg 0 rfl
  have c1 := cell4 hg 1 rfl
  have c2 := cell4 hg 2 rfl
  have c3 := cell4 hg 3 rfl
  have f0 := froz4 hg 0
  have f1 := froz4 hg 1
  have f2 := froz4 hg 2
  have f3 := froz4 hg 3
  go_wp2_with fail
  refine bodyPost_ret (v := .tuple #[.agg #[.int .i64 h, .int .i64 (ny h), .int .i64 (yl h), .bool (lh h)], .bool true]) ?_ rfl ⟨rfl, ?_⟩
  · exact results_row_tmp (P := Tryz.prog) (fn := Tryz.f93) Tryz.results93 _ _ w.heap.size 140 _ (0, 0) _ _ rfl rfl (row4 (heap_late hg)) Tryz.underlying140 rfl (by kernel_rfl)
  exact ((((gtrans ((Later.refl w).alloc _ _) hg).setCell (Nat.le_refl _) _).setCell (Nat.le_refl _) _).setCell (Nat.le_refl _) _).setCell (Nat.le_refl _) _

end Go.Proofs.YtmlnlkfdbbnkbaaGreatDoor.Hebrew

/- The months of a Hebrew year that have days, as the program goes through them: what its iterator hands to a loop, whatever the loop's body does, so long as the body keeps the year's own block. Conditions: as each theorem says. -/
namespace Go.Proofs.YtmlnlkfdbbnkbaaGreatDoor.Hebrew
set_option maxRecDepth 100000
open Go.ChangeShapes Go.WideShapes Go.ChangeAt Go.RowKit Go.Shelf
open Go.Proofs.YtmlnlkfdbbnkbaaGreatDoor.Divs Go.Proofs.YtmlnlkfdbbnkbaaGreatDoor.Grow Go.Proofs.YtmlnlkfdbbnkbaaGreatDoor.Mol
open Go.Proofs.YtmlnlkfdbbnkbaaGreatDoor.Year (lh mh pt md mp p1 p2 po dl ny yl)
open Go.Proofs.YtmlnlkfdbbnkbaaGreatDoor.Heb (hd ha ups)

attribute [local go_sem] Oper.semAt_some

/-- Block B holds what it held. -/
def Kept (B : Nat) (W W' : World) : Prop := ∀ i v, W.cell? ⟨B, i, none⟩ = some v → W'.cell? ⟨B, i, none⟩ = some v

theorem Kept.refl (B : Nat) (W : World) : Kept B W W := fun _ _ h => h
theorem Kept.trans {B : Nat} {W W' W'' : World} (h : Kept B W W') (k : Kept B W' W'') : Kept B W W'' := fun i v e => k i v (h i v e)
theorem Kept.alloc {B : Nat} {W W' : World} (h : Kept B W W') (o : Obj) : Kept B W (W'.alloc o) := fun i v e => gsome ((Later.refl W').put o) (h i v e)
theorem Kept.book {B : Nat} (W : World) (l : Nat) (o o' : Obj) (h : W.heap[l]? = some o) (hc : o.isCells = false) : Kept B W (W.putObj l o') :=
  fun i v e => cell_kept e (grownBy_putObj' W l o') (fun r x => by cases x; exact ⟨o, h, hc⟩)
theorem Kept.setCell {B : Nat} {W W' : World} (h : Kept B W W') {p : Addr} (hp : p.block ≠ B) (v : Value) : Kept B W (W'.setCell p v) :=
  fun i u e => (World.cell?_of_block (w := W') (Below.heap_setCell _ _ _ _ (fun x => hp x.symm))).trans (h i u e)

/-- Block B holds a year. -/
def IsYear (B : Nat) (h f l : Int) (b : Bool) (W : World) : Prop :=
  W.cell? ⟨B, 0, none⟩ = some (.int .i64 h) ∧ W.cell? ⟨B, 1, none⟩ = some (.int .i64 f) ∧ W.cell? ⟨B, 2, none⟩ = some (.int .i64 l) ∧ W.cell? ⟨B, 3, none⟩ = some (.bool b)

theorem IsYear.kept {B : Nat} {h f l : Int} {b : Bool} {W W' : World} (y : IsYear B h f l b W) (k : Kept B W W') : IsYear B h f l b W' :=
  ⟨k _ _ y.1, k _ _ y.2.1, k _ _ y.2.2.1, k _ _ y.2.2.2⟩

/-- What has come ahead of month m. -/
def upz (l : Int) (b : Bool) (m : Int) : List (Int × Int) := ups l b (m - 1).toNat

theorem upz_none (l : Int) (b : Bool) (m : Int) (h1 : 1 ≤ m) (h : hd l b m = 0) : upz l b (m + 1) = upz l b m := by
  unfold upz
  rw [show (m + 1 - 1).toNat = (m - 1).toNat + 1 by omega]
  exact Heb.ups_none l b _ (by rw [show (((m - 1).toNat : Nat) : Int) + 1 = m by omega]; exact h)

theorem upz_one (l : Int) (b : Bool) (m : Int) (h1 : 1 ≤ m) (h : ¬ hd l b m = 0) : upz l b (m + 1) = upz l b m ++ [(m, hd l b m)] := by
  unfold upz
  have e : (((m - 1).toNat : Nat) : Int) + 1 = m := by omega
  have k := Heb.ups_one l b (m - 1).toNat (by rw [e]; exact h)
  rw [e] at k
  rw [show (m + 1 - 1).toNat = (m - 1).toNat + 1 by omega]
  exact k

theorem upz_len (l : Int) (b : Bool) (m : Int) (h1 : 1 ≤ m) (h2 : m ≤ 13) : (upz l b m).length < 13 := by
  have := Heb.ups_length l b (m - 1).toNat
  unfold upz
  omega

theorem months_any (h f l : Int) (b : Bool) (w : World) :
    Calls Tryz.prog 118 #[.agg #[.int .i64 h, .int .i64 f, .int .i64 l, .bool b]] w fun e w' => e = .returned (.func (.func 133) #[] #[.pointer (some ⟨w.heap.size, 0, none⟩)]) ∧ w' = w.alloc (.cells #[.int .i64 h, .int .i64 f, .int .i64 l, .bool b] 140) := by
  go_enter Tryz.func118, Tryz.ntmps118
  go_wp2
  go_ret
  exact ⟨rfl, rfl⟩

set_option maxRecDepth 100000 in
set_option maxHeartbeats 2000000 in
theorem months1_in (n : Nat) (hn : 1 ≤ n) (h f l : Int) (b : Bool) (l0 : 0 ≤ l) (lo B : Nat) (J Jx : List (Int × Int) → World → Prop) (W : World) (hJ : AbidesFrom W.heap.size J)
    (hY : ∀ pre x W, J pre W → pre.length < 13 → YieldAt Fence.wide (n - 1) Tryz.prog lo #[.int .i64 x.1, .int .i64 x.2] W fun e W' =>
      (e = .returned (.bool true) ∧ J (pre ++ [x]) W' ∧ Kept B W W') ∨ (e = .returned (.bool false) ∧ Jx (pre ++ [x]) W'))
    (hc : IsYear B h f l b W) (h0 : J [] W) :
    CallsIn Fence.wide n Tryz.prog 133 #[.func (.yield lo) #[] #[], .pointer (some ⟨B, 0, none⟩)] W fun e W' => (∃ v, e = .returned v) ∧
      ((∃ xs, xs = ups l b 13 ∧ J xs W') ∨ (∃ pre, (∃ k, k ≤ 13 ∧ pre = ups l b k) ∧ Jx pre W')) := by
  have D := Lib.hid (fun m W => ydays_any h f l b m W l0)
  refine callsIn_of_wp Tryz.func133 rfl trivial ?_ rfl
  simp only [Tryz.ntmps133, List.size_toArray, List.length_cons, List.length_nil, Nat.reduceAdd, Nat.reduceSub, Array.replicate_succ, Array.replicate_zero, List.push_toArray, List.append_toArray, List.nil_append, List.cons_append]
  gi_wp2
  gi_loopw [3] (fun i wr => ∃ m : Int, 1 ≤ m ∧ m ≤ 14 ∧ i = .int .i64 m ∧ J (upz l b m) wr ∧ Kept B W wr)
    (fun i _ => 20 - (intOf i).toNat)
  case atStart => exact ⟨1, by omega, by omega, rfl, h0, Kept.refl _ _⟩
  case round =>
    obtain ⟨m, m1, m2, rfl, hJs, hk⟩ := hrel
    by_cases hlt : m ≤ 13
    · have hJa : J (upz l b m) (wr.alloc (.cells (yv h f l b) 140)) := hJ _ _ _ none hJs (World.grownBy_alloc wr _ none) (fun r e => by cases e)
      have hka : Kept B W (wr.alloc (.cells (yv h f l b) 140)) := hk.alloc _
      obtain ⟨y0, y1, y2, y3⟩ := hc.kept hk
      have hb := Heb.hd_bd l b m
      by_cases hz : hd l b m = 0
      · have t : (hd l b m != 0) = false := by simp [hz]
        have U := Lib.hid (upz_none l b m m1 hz)
        clear hz
        gi_wp2_with (refine ⟨trivial, ?_⟩; gi_at_call 134; refine (callsIn_wide.2 (D.out _ _)).mono ?_; rintro e w1 ⟨rfl, rfl⟩)
        refine ⟨fun _ h => (by cases h), ?_⟩
        gi_wp2
        go_roundw
        case rel => exact ⟨m + 1, by omega, by omega, rfl, by rw [U.out]; exact hJa, hka⟩
        case measure => simp [intOf]; omega
      · have t : (hd l b m != 0) = true := by simpa using hz
        have U := Lib.hid (upz_one l b m m1 hz)
        clear hz
        obtain ⟨fn, tmps, assign, body, hy, hR⟩ := hY _ (m, hd l b m) _ hJa (upz_len l b m m1 hlt)
        dsimp only at hy
        gi_wp2_with (refine ⟨trivial, ?_⟩; gi_at_call 134; refine (callsIn_wide.2 (D.out _ _)).mono ?_; rintro e w1 ⟨rfl, rfl⟩)
        refine hR.mono ?_
        rintro e W3 (⟨rfl, hJ3, hk3⟩ | ⟨rfl, hJx3⟩)
        · gi_wp2
          go_roundw
          case rel => exact ⟨m + 1, by omega, by omega, rfl, by rw [U.out]; exact hJ3, hka.trans hk3⟩
          case measure => simp [intOf]; omega
        · gi_wp2
          refine bodyPost_ret (results_none rfl _ _ _) rfl ?_
          exact ⟨⟨_, rfl⟩, .inr ⟨_, ⟨m.toNat, by omega, by rw [← U.out]; unfold upz; rw [show (m + 1 - 1).toNat = m.toNat by omega]⟩, hJx3⟩⟩
    · obtain rfl : m = 14 := by omega
      gi_wp2
      go_end0
      exact ⟨⟨_, rfl⟩, .inl hJs⟩

/-- The iterator's contract: the months that have days, in order; or the first of them, where the body leaves. -/
theorem months_stops (n : Nat) (hn : 1 ≤ n) (h f l : Int) (b : Bool) (l0 : 0 ≤ l) (B : Nat) (w : World) (hB : B < w.heap.size) (hc : IsYear B h f l b w) :
    SeqStopsK Fence.wide n Tryz.prog 133 #[.pointer (some ⟨B, 0, none⟩)] (fun x : Int × Int => #[Value.int .i64 x.1, Value.int .i64 x.2]) (Kept B) (fun xs => xs = ups l b 13)
      (fun pre => ∃ k, k ≤ 13 ∧ pre = ups l b k) 13 w := fun lo J Jx W hW hJ _ hY h0 =>
  months1_in n hn h f l b l0 lo B J Jx W hJ hY (hc.kept fun i _ e => (hW.cell (p := ⟨B, i, none⟩) hB).trans e) h0

end Go.Proofs.YtmlnlkfdbbnkbaaGreatDoor.Hebrew

/- How many days of a Hebrew year are ahead of a month, by the program: its loop over the months that have days. Conditions: the month has days. -/
namespace Go.Proofs.YtmlnlkfdbbnkbaaGreatDoor.Hebrew
set_option maxRecDepth 100000
open Go.ChangeShapes Go.WideShapes Go.ChangeAt Go.RowKit Go.Shelf
open Go.Proofs.YtmlnlkfdbbnkbaaGreatDoor.Divs Go.Proofs.YtmlnlkfdbbnkbaaGreatDoor.Grow Go.Proofs.YtmlnlkfdbbnkbaaGreatDoor.Mol
open Go.Proofs.YtmlnlkfdbbnkbaaGreatDoor.Year (lh mh pt md mp p1 p2 po dl ny yl)
open Go.Proofs.YtmlnlkfdbbnkbaaGreatDoor.Heb (hd ha ups)

attribute [local go_sem] Oper.semAt_some

theorem wpIn_scope {n : Nat} {P : Program} {c : Code} {Q : Exit → Act → World → Prop} {a : Act} {w : World} (h : c.wpIn Fence.wide n P (Exit.noGoto Q) a w) : (Code.scope c).wpIn Fence.wide n P Q a w :=
  wpIn_wide.2 (wp_scope_straight (wpIn_wide.1 h))

/-- What the sum holds between two rounds. -/
def Sums (l : Int) (b : Bool) (m : Int) (pre : List (Int × Int)) (s : Int) : Prop := ∀ k : Nat, k ≤ 13 → pre = ups l b k → s = ha l b ((k : Int) + 1) ∧ ∀ i : Int, 1 ≤ i → i ≤ k → hd l b i ≠ 0 → i < m

theorem sums_start (l : Int) (b : Bool) (m : Int) : Sums l b m [] 0 := by
  intro k hk e
  have hz : ∀ i : Int, 1 ≤ i → i ≤ k → hd l b i = 0 := by
    intro i i1 i2
    by_cases h0 : k = 0
    · subst h0; omega
    · exfalso
      have h1 : ups l b 1 = [((1 : Int), hd l b 1)] := by simp [ups, hd]
      have hl : ∀ j : Nat, 1 ≤ j → ups l b j ≠ [] := by
        intro j hj
        induction j with
        | zero => omega
        | succ j ih =>
          by_cases hj0 : j = 0
          · subst hj0; rw [h1]; simp
          · unfold ups
            split
            · exact ih (by omega)
            · simp
      exact hl k (by omega) e.symm
  refine ⟨?_, fun i i1 i2 i3 => absurd (hz i i1 i2) i3⟩
  by_cases h0 : k = 0
  · subst h0; exact (Heb.ha_one l b).symm
  · have := hz 1 (by omega) (by omega)
    simp [hd] at this

theorem sums_on (l : Int) (b : Bool) (m : Int) (pre : List (Int × Int)) (x : Int × Int) (s : Int) (h : Sums l b m pre s) (hx : x.1 < m) : Sums l b m (pre ++ [x]) (wrap64 (s + x.2)) := by
  intro k hk e
  obtain ⟨j, j1, j2, rfl, j4, j5, j6⟩ := Heb.ups_snoc l b k hk pre x e
  obtain ⟨e1, e2⟩ := h j (by omega) j2
  have b1 := Heb.ha_bd l b ((j : Int) + 1)
  have b2 := Heb.hd_bd l b ((j : Int) + 1)
  refine ⟨?_, fun i i1 i2 i3 => ?_⟩
  · rw [IntWalk.wrap64_in _ (by dsimp only; omega), j5, e1]
  · by_cases c1 : i ≤ j
    · exact e2 i i1 c1 i3
    · by_cases c2 : i = (j : Int) + 1
      · subst c2; exact hx
      · exact absurd (j6 i (by omega) i2) i3

theorem sums_off (l : Int) (b : Bool) (m : Int) (pre : List (Int × Int)) (x : Int × Int) (s : Int) (h : Sums l b m pre s) (hx : ¬ x.1 < m) (m1 : 1 ≤ m) (hm : 0 < hd l b m) (k : Nat) (hk : k ≤ 13) (e : pre ++ [x] = ups l b k) : s = ha l b m := by
  obtain ⟨j, j1, j2, rfl, j4, j5, j6⟩ := Heb.ups_snoc l b k hk pre x e
  obtain ⟨e1, e2⟩ := h j (by omega) j2
  have hx' : m ≤ (j : Int) + 1 := by dsimp only at hx; omega
  by_cases c : m ≤ j
  · have := e2 m m1 c (by omega); omega
  · rw [e1, show (j : Int) + 1 = m by omega]

theorem sums_end (l : Int) (b : Bool) (m : Int) (s : Int) (h : Sums l b m (ups l b 13) s) (m1 : 1 ≤ m) (m2 : m ≤ 13) (hm : 0 < hd l b m) : False := by
  have := (h 13 (by omega) rfl).2 m m1 (by omega) (by omega)
  omega

end Go.Proofs.YtmlnlkfdbbnkbaaGreatDoor.Hebrew
