/-
  What the calendar's small functions answer: leap years, days of months, weekdays, days ahead of a year, the year of a day, the next day of a weekday. Conditions: the numbers are ints, the table of months lies where the program lays it, as each theorem says.
-/
import Derived.Test.YtepaiolhflpmeaaDoorLaid
namespace Go.Proofs.YtepaiolhflpmeaaDoor.Greg
open Go.ChangeShapes Go.WideShapes Go.ChangeAt Go.RowKit
open Go.Proofs.YtepaiolhflpmeaaDoor.Divs Go.Proofs.YtepaiolhflpmeaaDoor.Grow
open Go.Proofs.YtepaiolhflpmeaaDoor.Cal (lp ln tab dm ya ma dn yr mo om od)

theorem tm0 (y b : Int) : (y.tmod b == 0) = (y % b == 0) := by
  by_cases h : b ∣ y
  · rw [Int.tmod_eq_zero_of_dvd h, Int.emod_eq_zero_of_dvd h]
  · have h1 : ¬ y.tmod b = 0 := fun e => h (Int.dvd_of_tmod_eq_zero e)
    have h2 : ¬ y % b = 0 := fun e => h (Int.dvd_of_emod_eq_zero e)
    rw [beq_eq_false_iff_ne.2 h1, beq_eq_false_iff_ne.2 h2]

theorem lp_of (y : Int) : lp y = (((y % 4 == 0) && (y % 100 != 0)) || (y % 400 == 0)) := by
  unfold lp
  rw [Bool.eq_iff_iff]
  simp

theorem leap_any (y : Int) (w : World) : Calls Tryd.prog 36 #[.int .i64 y] w fun e w' => e = .returned (.bool (lp y)) ∧ w = w' := by
  have HL := Lib.hid (lp_of y)
  by_cases hs : 0 ≤ y
  · rcases Bool.eq_false_or_eq_true (y % 4 == 0) with t4 | t4 <;> rcases Bool.eq_false_or_eq_true (y % 100 == 0) with t100 | t100 <;> rcases Bool.eq_false_or_eq_true (y % 400 == 0) with t400 | t400
    all_goals
      have u100 : (y % 100 != 0) = !(y % 100 == 0) := rfl
      rw [t100] at u100
      go_enter Tryd.func36, Tryd.ntmps36
      go_wp2
      go_ret
      exact ⟨retb (by rw [HL.out]; simp [t4, u100, t400]), rfl⟩
  · have e4 := tm0 y 4
    have e100 := tm0 y 100
    have e400 := tm0 y 400
    rcases Bool.eq_false_or_eq_true (y % 4 == 0) with t4 | t4 <;> rcases Bool.eq_false_or_eq_true (y % 100 == 0) with t100 | t100 <;> rcases Bool.eq_false_or_eq_true (y % 400 == 0) with t400 | t400
    all_goals
      rw [t4] at e4
      rw [t400] at e400
      have u100 : (y.tmod 100 != 0) = !(y.tmod 100 == 0) := rfl
      have v100 : (y % 100 != 0) = !(y % 100 == 0) := rfl
      rw [t100] at e100 v100
      rw [e100] at u100
      have T4 := Lib.hid t4
      have T400 := Lib.hid t400
      have V100 := Lib.hid v100
      clear t4 t400 v100 t100
      go_enter Tryd.func36, Tryd.ntmps36
      go_wp2
      go_ret
      exact ⟨retb (by rw [HL.out, T4.out, T400.out, V100.out]; rfl), rfl⟩

theorem days_no (y m : Int) (w : World) (h : y < 1 ∨ 9999 < y ∨ m < 1 ∨ 12 < m) : Calls Tryd.prog 21 #[.int .i64 y, .int .i64 m] w fun e w' => e = .returned (.int .i64 (dm y m)) ∧ w = w' := by
  have HV := Lib.hid (Cal.dm_no y m h)
  by_cases h1 : y < 1
  · clear h
    go_enter Tryd.func21, Tryd.ntmps21
    go_wp2
    go_ret
    exact ⟨ret1 HV.out.symm, rfl⟩
  by_cases h2 : 9999 < y
  · clear h
    go_enter Tryd.func21, Tryd.ntmps21
    go_wp2
    go_ret
    exact ⟨ret1 HV.out.symm, rfl⟩
  by_cases h3 : m < 1
  · clear h
    go_enter Tryd.func21, Tryd.ntmps21
    go_wp2
    go_ret
    exact ⟨ret1 HV.out.symm, rfl⟩
  have h4 : 12 < m := by omega
  clear h
  go_enter Tryd.func21, Tryd.ntmps21
  go_wp2
  go_ret
  exact ⟨ret1 HV.out.symm, rfl⟩

theorem dm_feb (y : Int) (h1 : 1 ≤ y) (h2 : y ≤ 9999) : dm y 2 = (if lp y = true then 29 else 28) := by
  unfold dm tab
  rw [if_neg (by omega)]
  cases lp y <;> simp

theorem dm_not (y m : Int) (h1 : 1 ≤ y) (h2 : y ≤ 9999) (h3 : 1 ≤ m) (h4 : m ≤ 12) (h5 : ¬ m = 2) : dm y m = tab m := by
  unfold dm
  rw [if_neg (by omega), if_neg (fun h => h5 h.1)]

theorem days_yes (y m : Int) (w : World) (hL : Laid w) (h1 : 1 ≤ y) (h2 : y ≤ 9999) (h3 : 1 ≤ m) (h4 : m ≤ 12) : Calls Tryd.prog 21 #[.int .i64 y, .int .i64 m] w fun e w' => e = .returned (.int .i64 (dm y m)) ∧ w = w' := by
  by_cases h5 : m = 2
  · subst h5
    have HF := Lib.hid (dm_feb y h1 h2)
    have hc : w.cell? ⟨0, 1, none⟩ = some (.int .i64 28) := hL 1 (by omega)
    clear hL
    cases hl : lp y with
    | true =>
      have HL := Lib.hid hl
      have hk := fun W => leap_any y W
      rw [hl] at hk
      have HK := Lib.hid hk
      clear hl hk
      go_enter Tryd.func21, Tryd.ntmps21
      go_wp2_with (go_at_call 36; refine (HK.out _).mono ?_; rintro e w' ⟨rfl, rfl⟩)
      go_ret
      exact ⟨ret1 (by rw [HF.out, HL.out]; rfl), rfl⟩
    | false =>
      have HL := Lib.hid hl
      have hk := fun W => leap_any y W
      rw [hl] at hk
      have HK := Lib.hid hk
      clear hl hk
      go_enter Tryd.func21, Tryd.ntmps21
      go_wp2_with (go_at_call 36; refine (HK.out _).mono ?_; rintro e w' ⟨rfl, rfl⟩)
      go_ret
      exact ⟨ret1 (by rw [HF.out, HL.out]; rfl), rfl⟩
  · have HV := Lib.hid (dm_not y m h1 h2 h3 h4 h5)
    have hc : w.cell? ⟨0, m.toNat - 1, none⟩ = some (.int .i64 (tab m)) := by
      have := hL (m.toNat - 1) (by omega)
      rw [show (((m.toNat - 1 : Nat) : Int) + 1) = m from by omega] at this
      exact this
    clear hL
    have t5 : (m == 2) = false := beq_eq_false_iff_ne.2 h5
    go_enter Tryd.func21, Tryd.ntmps21
    go_wp2
    go_ret
    exact ⟨ret1 HV.out.symm, rfl⟩

theorem days_any (y m : Int) (w : World) (hL : Laid w) : Calls Tryd.prog 21 #[.int .i64 y, .int .i64 m] w fun e w' => e = .returned (.int .i64 (dm y m)) ∧ w = w' := by
  by_cases h : y < 1 ∨ 9999 < y ∨ m < 1 ∨ 12 < m
  · exact days_no y m w h
  · exact days_yes y m w hL (by omega) (by omega) (by omega) (by omega)

theorem ya_any (y : Int) (w : World) (h1 : 1 ≤ y) (h2 : y ≤ 10000) : Calls Tryd.prog 34 #[.int .i64 y] w fun e w' => e = .returned (.int .i64 (ya y)) ∧ w = w' := by
  have HV : Hid (ya y = (y - 1) * 365 + (y - 1) / 4 - (y - 1) / 100 + (y - 1) / 400) := by exact (rfl : ya y = _)
  go_enter Tryd.func34, Tryd.ntmps34
  go_wp2
  go_ret
  exact ⟨ret1 HV.out.symm, rfl⟩

def cl3 (q : Int) : Int := if 3 < q then 3 else q

theorem cl3_bd (q : Int) (h : 0 ≤ q) : 0 ≤ cl3 q ∧ cl3 q ≤ 3 ∧ cl3 q ≤ q := by unfold cl3; split <;> omega

theorem clamp3 (q : Int) (w : World) (h : 0 ≤ q) : Calls Tryd.prog 47 #[.int .i64 q, .int .i64 0, .int .i64 3] w fun e w' => e = .returned (.int .i64 (cl3 q)) ∧ ∃ n, w' = w.drewN n := by
  have := clamp_any q 0 3 w
  rw [show clampI q 0 3 = cl3 q from by unfold clampI cl3; rw [if_neg (by omega)]] at this
  exact this

theorem yr_of (n : Int) : yr n = (n - 1) / 146097 * 400 + cl3 ((n - 1) % 146097 / 36524) * 100 + ((n - 1) % 146097 - cl3 ((n - 1) % 146097 / 36524) * 36524) / 1461 * 4
    + cl3 (((n - 1) % 146097 - cl3 ((n - 1) % 146097 / 36524) * 36524) % 1461 / 365) + 1 := rfl

theorem yr_any (n : Int) (w : World) (h1 : 1 ≤ n) (h2 : n ≤ 3652059) : Calls Tryd.prog 32 #[.int .i64 n] w fun e w' => e = .returned (.int .i64 (yr n)) ∧ ∃ n, w' = w.drewN n := by
  have HV := Lib.hid (yr_of n)
  have s1 : 0 ≤ (n - 1) % 146097 / 36524 := by omega
  have c1 := cl3_bd ((n - 1) % 146097 / 36524) s1
  have s2 : 0 ≤ (n - 1) % 146097 - cl3 ((n - 1) % 146097 / 36524) * 36524 := by omega
  have s3 : 0 ≤ ((n - 1) % 146097 - cl3 ((n - 1) % 146097 / 36524) * 36524) % 1461 / 365 := by omega
  have c2 := cl3_bd (((n - 1) % 146097 - cl3 ((n - 1) % 146097 / 36524) * 36524) % 1461 / 365) s3
  go_enter Tryd.func32, Tryd.ntmps32
  go_wp2_with fail
  refine (clamp3 _ _ s1).mono ?_
  rintro e w' ⟨rfl, n1, rfl⟩
  go_wp2_with fail
  refine (clamp3 _ _ s3).mono ?_
  rintro e w' ⟨rfl, n2, rfl⟩
  go_wp2_with fail
  go_ret
  exact ⟨ret1 HV.out.symm, _, rfl⟩

/-- The first day from n on of a weekday. -/
def fo (n v : Int) : Int := n + gapI n 7 v

theorem fo_bd (n v : Int) (h0 : 0 ≤ v) (h1 : v < 7) : n ≤ fo n v ∧ fo n v ≤ n + 6 ∧ fo n v % 7 = v := by
  unfold fo gapI
  split <;> omega

theorem fo_any (n v : Int) (w : World) (h1 : -4000000 ≤ n) (h2 : n ≤ 4000000) (v0 : 0 ≤ v) (v1 : v < 7) : Calls Tryd.prog 51 #[.int .i64 n, .int .i64 v] w fun e w' => e = .returned (.int .i64 (fo n v)) ∧ ∃ n, w' = w.drewN n := by
  have hb := fo_bd n v v0 v1
  have HN := Lib.hid (fun W => next_yes n 7 v W (by omega) (by omega) (by omega) (by omega) v0 v1 (by unfold fo at hb; omega))
  have HV : Hid (n + gapI n 7 v = fo n v) := (rfl : n + gapI n 7 v = fo n v)
  clear hb
  go_enter Tryd.func51, Tryd.ntmps51
  go_wp2_with fail
  refine (HN.out _).mono ?_
  rintro e w' ⟨rfl, n1, rfl⟩
  go_wp2_with fail
  go_ret
  exact ⟨ret1 HV.out, _, rfl⟩

end Go.Proofs.YtepaiolhflpmeaaDoor.Greg
