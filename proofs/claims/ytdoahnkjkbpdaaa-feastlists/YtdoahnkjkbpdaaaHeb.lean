/-
  Plain facts on the days of Hebrew months, in whole numbers: a month's days by the year's length and whether it is leap, the days ahead of a month, which year and month a day lies in, and the row of the months that have days. No condition but those that each theorem states.
-/
import Derived.Test.YtdoahnkjkbpdaaaYear
namespace Go.Proofs.Ytdoahnkjkbpdaaa.Heb
open Go.Proofs.Ytdoahnkjkbpdaaa.Year

/-- The days of month m, of a year of l days, leap or not. -/
def hd (l : Int) (b : Bool) (m : Int) : Int :=
  if m = 2 then (if l % 10 = 5 then 30 else 29) else if m = 3 then (if l % 10 = 3 then 29 else 30) else if m = 6 then (if b = true then 30 else 0)
  else if m = 1 ∨ m = 5 ∨ m = 8 ∨ m = 10 ∨ m = 12 then 30 else if m = 4 ∨ m = 7 ∨ m = 9 ∨ m = 11 ∨ m = 13 then 29 else 0

/-- The days ahead of month m. -/
def ha (l : Int) (b : Bool) (m : Int) : Int :=
  if m ≤ 1 then 0 else if m = 2 then 30 else if m = 3 then 30 + hd l b 2 else if m = 4 then 30 + hd l b 2 + hd l b 3 else if m = 5 then 59 + hd l b 2 + hd l b 3
  else if m = 6 then 89 + hd l b 2 + hd l b 3 else if m = 7 then 89 + hd l b 2 + hd l b 3 + hd l b 6 else if m = 8 then 118 + hd l b 2 + hd l b 3 + hd l b 6
  else if m = 9 then 148 + hd l b 2 + hd l b 3 + hd l b 6 else if m = 10 then 177 + hd l b 2 + hd l b 3 + hd l b 6 else if m = 11 then 207 + hd l b 2 + hd l b 3 + hd l b 6
  else if m = 12 then 236 + hd l b 2 + hd l b 3 + hd l b 6 else if m = 13 then 266 + hd l b 2 + hd l b 3 + hd l b 6 else 295 + hd l b 2 + hd l b 3 + hd l b 6

theorem months_all (m : Int) (h1 : 1 ≤ m) (h2 : m ≤ 13) : m = 1 ∨ m = 2 ∨ m = 3 ∨ m = 4 ∨ m = 5 ∨ m = 6 ∨ m = 7 ∨ m = 8 ∨ m = 9 ∨ m = 10 ∨ m = 11 ∨ m = 12 ∨ m = 13 := by omega

theorem hd_range (l : Int) (b : Bool) (m : Int) : hd l b m = 0 ∨ hd l b m = 29 ∨ hd l b m = 30 := by
  unfold hd
  repeat' split
  all_goals simp

theorem hd_bd (l : Int) (b : Bool) (m : Int) : 0 ≤ hd l b m ∧ hd l b m ≤ 30 := by
  have := hd_range l b m
  omega

theorem hd_out (l : Int) (b : Bool) (m : Int) (h : m < 1 ∨ 13 < m) : hd l b m = 0 := by
  unfold hd
  repeat' split
  all_goals omega

theorem hd_six (l : Int) : hd l false 6 = 0 ∧ hd l true 6 = 30 := by simp [hd]

theorem hd_in (l : Int) (b : Bool) (m : Int) (h1 : 1 ≤ m) (h2 : m ≤ 13) (h6 : m ≠ 6 ∨ b = true) : 29 ≤ hd l b m := by
  rcases h6 with h6 | h6
  · unfold hd
    repeat' split
    all_goals omega
  · subst h6
    unfold hd
    repeat' split
    all_goals first | omega | simp_all

theorem hd_zero (l : Int) (b : Bool) (m : Int) (h1 : 1 ≤ m) (h2 : m ≤ 13) (h0 : hd l b m = 0) : m = 6 ∧ b = false := by
  have k := hd_in l b m h1 h2
  by_cases h6 : m ≠ 6 ∨ b = true
  · have := k h6; omega
  · refine ⟨by omega, ?_⟩
    cases b <;> simp_all

theorem hd_month (l : Int) (b : Bool) (m : Int) (h : 0 < hd l b m) : 1 ≤ m ∧ m ≤ 13 := by
  by_cases k : m < 1 ∨ 13 < m
  · have := hd_out l b m k; omega
  · omega

theorem ha_one (l : Int) (b : Bool) : ha l b 1 = 0 := by simp [ha]

theorem ha_step (l : Int) (b : Bool) (m : Int) (h1 : 1 ≤ m) (h2 : m ≤ 13) : ha l b (m + 1) = ha l b m + hd l b m := by
  rcases months_all m h1 h2 with rfl | rfl | rfl | rfl | rfl | rfl | rfl | rfl | rfl | rfl | rfl | rfl | rfl <;>
    simp [ha, hd] <;> omega

theorem ha_bd (l : Int) (b : Bool) (m : Int) : 0 ≤ ha l b m ∧ ha l b m ≤ 385 := by
  have := hd_bd l b 2
  have := hd_bd l b 3
  have := hd_bd l b 6
  unfold ha
  repeat' split
  all_goals omega

theorem ha_le (l : Int) (b : Bool) (m : Int) (h1 : 1 ≤ m) (n : Nat) (h2 : m + n ≤ 14) : ha l b m ≤ ha l b (m + n) := by
  induction n with
  | zero => simp
  | succ n ih =>
    have k := ih (by omega)
    have s := ha_step l b (m + n) (by omega) (by omega)
    have := hd_bd l b (m + n)
    rw [show m + ((n + 1 : Nat) : Int) = m + n + 1 by omega, s]
    omega

theorem ha_mono (l : Int) (b : Bool) (m m' : Int) (h1 : 1 ≤ m) (h : m ≤ m') (h2 : m' ≤ 14) : ha l b m ≤ ha l b m' := by
  have k := ha_le l b m h1 (m' - m).toNat (by omega)
  rwa [show m + ((m' - m).toNat : Int) = m' by omega] at k

/-- A month is told by a day. -/
theorem ha_one_of (l : Int) (b : Bool) (g m m' : Int) (a1 : 1 ≤ m) (a2 : m ≤ 13) (a3 : ha l b m ≤ g) (a4 : g < ha l b (m + 1)) (c1 : 1 ≤ m') (c2 : m' ≤ 13) (c3 : ha l b m' ≤ g) (c4 : g < ha l b (m' + 1)) : m' = m := by
  by_cases x : m' < m
  · have := ha_mono l b (m' + 1) m (by omega) (by omega) (by omega); omega
  · by_cases y : m < m'
    · have := ha_mono l b (m + 1) m' (by omega) (by omega) (by omega); omega
    · omega

theorem yl_digit (h : Int) : (lh h = false ∧ (yl h = 353 ∨ yl h = 354 ∨ yl h = 355)) ∨ (lh h = true ∧ (yl h = 383 ∨ yl h = 384 ∨ yl h = 385)) := by
  cases hl : lh h with
  | false => have := len_common h hl; left; exact ⟨rfl, by omega⟩
  | true => have := len_leap h hl; right; exact ⟨rfl, by omega⟩

theorem yl_bd (h : Int) : 353 ≤ yl h ∧ yl h ≤ 385 := by have := yl_digit h; omega

/-- A year's months have as many days as the year. -/
theorem ha_all (h : Int) : ha (yl h) (lh h) 14 = yl h := by
  rcases yl_digit h with ⟨hl, e | e | e⟩ | ⟨hl, e | e | e⟩ <;> rw [hl, e] <;> decide

/-- From 15 Nisan to the next new year there are 163 days. -/
theorem ha_spring (h : Int) : yl h - ha (yl h) (lh h) 8 - 14 = 163 := by
  rcases yl_digit h with ⟨hl, e | e | e⟩ | ⟨hl, e | e | e⟩ <;> rw [hl, e] <;> decide

/-- Of two places where a row of numbers stands at and beyond n there is one where it steps over n. -/
theorem step_over (f : Int → Int) (a n : Int) (k : Nat) (h1 : f a ≤ n) (h2 : n < f (a + k)) : ∃ h, a ≤ h ∧ h < a + k ∧ f h ≤ n ∧ n < f (h + 1) := by
  induction k with
  | zero => simp at h2; omega
  | succ k ih =>
    by_cases c : n < f (a + k)
    · obtain ⟨h, x1, x2, x3, x4⟩ := ih c
      exact ⟨h, x1, by omega, x3, x4⟩
    · refine ⟨a + k, by omega, by omega, by omega, ?_⟩
      rwa [show a + (k : Int) + 1 = a + ((k + 1 : Nat) : Int) by omega]

theorem year_of (n : Int) (h1 : ny 3762 ≤ n) (h2 : n < ny 10000) : ∃ h, 3762 ≤ h ∧ h ≤ 9999 ∧ ny h ≤ n ∧ n < ny (h + 1) := by
  obtain ⟨h, x1, x2, x3, x4⟩ := step_over ny 3762 n 6238 h1 (by simpa using h2)
  exact ⟨h, x1, by omega, x3, x4⟩

theorem month_of (l : Int) (b : Bool) (g : Int) (h1 : 0 ≤ g) (h2 : g < ha l b 14) : ∃ m, 1 ≤ m ∧ m ≤ 13 ∧ ha l b m ≤ g ∧ g < ha l b (m + 1) := by
  obtain ⟨h, x1, x2, x3, x4⟩ := step_over (ha l b) 1 g 13 (by rw [ha_one]; exact h1) (by simpa using h2)
  exact ⟨h, x1, by omega, x3, x4⟩

theorem ny_next (h : Int) : ny (h + 1) = ny h + yl h := by unfold yl; omega

theorem ny_le (a : Int) (n : Nat) : ny a ≤ ny (a + n) := by
  induction n with
  | zero => simp
  | succ n ih =>
    have s := ny_next (a + n)
    have := yl_bd (a + n)
    rw [show a + ((n + 1 : Nat) : Int) = a + n + 1 by omega, s]
    omega

theorem ny_mono (a c : Int) (h : a ≤ c) : ny a ≤ ny c := by
  have k := ny_le a (c - a).toNat
  rwa [show a + ((c - a).toNat : Int) = c by omega] at k

/-- A year is told by a day. -/
theorem ny_one_of (n h y : Int) (a1 : ny h ≤ n) (a2 : n < ny (h + 1)) : (ny y ≤ n ↔ y ≤ h) := by
  constructor
  · intro k
    by_cases x : y ≤ h
    · exact x
    · have := ny_mono (h + 1) y (by omega); omega
  · intro k
    have := ny_mono y h k
    omega

/-- The first k months' pairs of month and days, without those that have no days. -/
def ups (l : Int) (b : Bool) : Nat → List (Int × Int)
  | 0 => []
  | k + 1 => if hd l b ((k : Int) + 1) = 0 then ups l b k else ups l b k ++ [((k : Int) + 1, hd l b ((k : Int) + 1))]

theorem ups_length (l : Int) (b : Bool) (k : Nat) : (ups l b k).length ≤ k := by
  induction k with
  | zero => simp [ups]
  | succ k ih =>
    unfold ups
    split
    · omega
    · simp; omega

theorem ups_none (l : Int) (b : Bool) (k : Nat) (h : hd l b ((k : Int) + 1) = 0) : ups l b (k + 1) = ups l b k := by simp [ups, h]
theorem ups_one (l : Int) (b : Bool) (k : Nat) (h : ¬ hd l b ((k : Int) + 1) = 0) : ups l b (k + 1) = ups l b k ++ [((k : Int) + 1, hd l b ((k : Int) + 1))] := by simp [ups, h]

/-- What has come, by its last pair. -/
theorem ups_snoc (l : Int) (b : Bool) (k : Nat) (hk : k ≤ 13) (pre : List (Int × Int)) (x : Int × Int) (h : pre ++ [x] = ups l b k) :
    ∃ j : Nat, j < k ∧ pre = ups l b j ∧ x = ((j : Int) + 1, hd l b ((j : Int) + 1)) ∧ hd l b ((j : Int) + 1) ≠ 0 ∧ ha l b ((k : Int) + 1) = ha l b ((j : Int) + 1) + hd l b ((j : Int) + 1) ∧
      ∀ i : Int, (j : Int) + 1 < i → i ≤ k → hd l b i = 0 := by
  induction k with
  | zero => simp [ups] at h
  | succ k ih =>
    have s := ha_step l b ((k : Int) + 1) (by omega) (by omega)
    by_cases c : hd l b ((k : Int) + 1) = 0
    · rw [ups_none l b k c] at h
      obtain ⟨j, x1, x2, x3, x4, x5, x6⟩ := ih (by omega) h
      refine ⟨j, by omega, x2, x3, x4, ?_, fun i i1 i2 => ?_⟩
      · rw [show ((k + 1 : Nat) : Int) + 1 = (k : Int) + 1 + 1 by omega, s, c, x5]
        omega
      · by_cases e : i ≤ k
        · exact x6 i i1 e
        · rw [show i = (k : Int) + 1 by omega]; exact c
    · rw [ups_one l b k c] at h
      obtain ⟨e1, e2⟩ := List.append_inj' h rfl
      refine ⟨k, by omega, e1, by simpa using e2, c, ?_, fun i i1 i2 => by omega⟩
      rw [show ((k + 1 : Nat) : Int) + 1 = (k : Int) + 1 + 1 by omega, s]

theorem hd_example : hd 383 true 6 = 30 := by decide
theorem ha_example : ha 383 true 8 = 206 := by decide

end Go.Proofs.Ytdoahnkjkbpdaaa.Heb
