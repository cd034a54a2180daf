/-
  Plain facts on the civil calendar, in whole numbers: leap years, months, days ahead of a year and of a month, and how a day's number is taken apart. No condition but those that each theorem states.
-/
import Derived.RowKit
namespace Go.Proofs.YtepaiolhflpmeaaDoor.Cal

/-- Is y a leap year? (Of any whole number, also below 0.) -/
def lp (y : Int) : Bool := decide ((y % 4 = 0 ∧ ¬ y % 100 = 0) ∨ y % 400 = 0)

/-- Days of a year. -/
def ln (y : Int) : Int := if lp y = true then 366 else 365

/-- Days of a month of a common year, 0 where there is no such month. -/
def tab (m : Int) : Int :=
  if m = 2 then 28 else if m = 4 ∨ m = 6 ∨ m = 9 ∨ m = 11 then 30 else 31

def dm (y m : Int) : Int :=
  if y < 1 ∨ 9999 < y ∨ m < 1 ∨ 12 < m then 0 else if m = 2 ∧ lp y = true then 29 else tab m

/-- Days of all years ahead of y. -/
def ya (y : Int) : Int := (y - 1) * 365 + (y - 1) / 4 - (y - 1) / 100 + (y - 1) / 400

/-- Days of a year's months ahead of m. -/
def ma (y m : Int) : Int :=
  (if m ≤ 1 then 0 else if m = 2 then 31 else if m = 3 then 59 else if m = 4 then 90 else if m = 5 then 120 else if m = 6 then 151
    else if m = 7 then 181 else if m = 8 then 212 else if m = 9 then 243 else if m = 10 then 273 else if m = 11 then 304 else if m = 12 then 334 else 365)
  + (if 3 ≤ m ∧ lp y = true then 1 else 0)

/-- A date's number. -/
def dn (y m d : Int) : Int := ya y + ma y m + d

theorem lp_iff (y : Int) : lp y = true ↔ ((y % 4 = 0 ∧ ¬ y % 100 = 0) ∨ y % 400 = 0) := by simp [lp]
theorem lp_not (y : Int) : lp y = false ↔ ¬ ((y % 4 = 0 ∧ ¬ y % 100 = 0) ∨ y % 400 = 0) := by simp [lp]

theorem ln_cases (y : Int) : (lp y = true ∧ ln y = 366) ∨ (lp y = false ∧ ln y = 365) := by
  unfold ln; cases h : lp y <;> simp

theorem ya_succ (y : Int) : ya (y + 1) = ya y + ln y := by
  rcases ln_cases y with ⟨h, e⟩ | ⟨h, e⟩
  · rw [lp_iff] at h; rw [e]; unfold ya; omega
  · rw [lp_not] at h; rw [e]; unfold ya; omega

theorem ya_bd (y : Int) (h1 : 1 ≤ y) (h2 : y ≤ 10000) : 0 ≤ ya y ∧ ya y ≤ 3652059 := by unfold ya; omega
theorem ya_one : ya 1 = 0 := by decide
theorem ya_end : ya 10000 = 3652059 := by decide

theorem ya_mono (a b : Int) (h : a ≤ b) : ya a ≤ ya b := by unfold ya; omega
theorem ya_lt (a b : Int) (h : a < b) : ya a + 365 ≤ ya b := by unfold ya; omega

theorem ma_succ (y m : Int) (hy1 : 1 ≤ y) (hy2 : y ≤ 9999) (h1 : 1 ≤ m) (h2 : m ≤ 12) : ma y (m + 1) = ma y m + dm y m := by
  obtain rfl | rfl | rfl | rfl | rfl | rfl | rfl | rfl | rfl | rfl | rfl | rfl : m = 1 ∨ m = 2 ∨ m = 3 ∨ m = 4 ∨ m = 5 ∨ m = 6 ∨ m = 7 ∨ m = 8 ∨ m = 9 ∨ m = 10 ∨ m = 11 ∨ m = 12 := by omega
  all_goals
    have e : ¬ (y < 1 ∨ 9999 < y) := by omega
    cases h : lp y <;> simp [ma, dm, tab, h] <;> omega

theorem dm_bd (y m : Int) (hy1 : 1 ≤ y) (hy2 : y ≤ 9999) (h1 : 1 ≤ m) (h2 : m ≤ 12) : 28 ≤ dm y m ∧ dm y m ≤ 31 := by
  unfold dm tab
  rw [if_neg (by omega)]
  split <;> (try split) <;> (try split) <;> omega

theorem dm_le (y m : Int) : 0 ≤ dm y m ∧ dm y m ≤ 31 := by
  unfold dm tab
  split
  · omega
  · split <;> (try split) <;> (try split) <;> omega

theorem dm_no (y m : Int) (h : y < 1 ∨ 9999 < y ∨ m < 1 ∨ 12 < m) : dm y m = 0 := by unfold dm; rw [if_pos h]

theorem dm_some (y m : Int) (h : ¬ dm y m = 0) : 1 ≤ y ∧ y ≤ 9999 ∧ 1 ≤ m ∧ m ≤ 12 := by
  by_cases hh : y < 1 ∨ 9999 < y ∨ m < 1 ∨ 12 < m
  · exact absurd (dm_no y m hh) h
  · omega

theorem ma_one (y : Int) : ma y 1 = 0 := by simp [ma]
theorem ma_end (y : Int) : ma y 13 = ln y := by unfold ma ln; cases lp y <;> simp

theorem ma_step (y m : Int) : ma y m ≤ ma y (m + 1) := by
  by_cases h0 : m ≤ 0
  · unfold ma; rw [if_pos (show m ≤ 1 by omega), if_pos (show m + 1 ≤ 1 by omega), if_neg (by omega), if_neg (by omega)]; omega
  by_cases h13 : 13 ≤ m
  · have h1 : ∀ k : Int, 13 ≤ k → ma y k = 365 + (if lp y = true then 1 else 0) := by
      intro k hk
      unfold ma
      rw [if_neg (by omega), if_neg (by omega), if_neg (by omega), if_neg (by omega), if_neg (by omega), if_neg (by omega), if_neg (by omega), if_neg (by omega), if_neg (by omega), if_neg (by omega), if_neg (by omega), if_neg (by omega)]
      have : 3 ≤ k := by omega
      simp [this]
    rw [h1 m h13, h1 (m + 1) (by omega)]; omega
  obtain rfl | rfl | rfl | rfl | rfl | rfl | rfl | rfl | rfl | rfl | rfl | rfl : m = 1 ∨ m = 2 ∨ m = 3 ∨ m = 4 ∨ m = 5 ∨ m = 6 ∨ m = 7 ∨ m = 8 ∨ m = 9 ∨ m = 10 ∨ m = 11 ∨ m = 12 := by omega
  all_goals cases h : lp y <;> simp [ma, h]

theorem ma_mono_nat (y a : Int) : ∀ k : Nat, ma y a ≤ ma y (a + k)
  | 0 => by simp
  | k + 1 => by
    have h := ma_mono_nat y a k
    have g := ma_step y (a + k)
    have e : a + ((k + 1 : Nat) : Int) = a + k + 1 := by omega
    rw [e]; omega

theorem ma_mono (y a b : Int) (h : a ≤ b) : ma y a ≤ ma y b := by
  have := ma_mono_nat y a (b - a).toNat
  have e : a + ((b - a).toNat : Int) = b := by omega
  rwa [e] at this

theorem ma_bd (y m : Int) (h2 : m ≤ 13) : 0 ≤ ma y m ∧ ma y m ≤ ln y := by
  have a := ma_mono y m 13 h2
  rw [ma_end] at a
  refine ⟨?_, a⟩
  by_cases h : m ≤ 1
  · unfold ma; rw [if_pos h, if_neg (by omega)]; omega
  · have := ma_mono y 1 m (by omega)
    rw [ma_one] at this
    exact this

/-- A day of a month that may be, in its year and among all. -/
theorem dn_bd (y m d : Int) (hy1 : 1 ≤ y) (hy2 : y ≤ 9999) (h1 : 1 ≤ m) (h2 : m ≤ 12) (d1 : 1 ≤ d) (d2 : d ≤ dm y m) :
    ya y < dn y m d ∧ dn y m d ≤ ya (y + 1) ∧ 1 ≤ dn y m d ∧ dn y m d ≤ 3652059 := by
  have a := ma_succ y m hy1 hy2 h1 h2
  have b := ma_bd y (m + 1) (by omega)
  have c := ma_bd y m (by omega)
  have e := ya_succ y
  have f := ya_bd y (by omega) (by omega)
  have g := ya_bd (y + 1) (by omega) (by omega)
  unfold dn
  omega

/-- The year of a day, as the program reckons it. -/
def yr (n : Int) : Int :=
  let r := n - 1
  let a := r / 146097
  let s := r % 146097
  let b := if 3 < s / 36524 then 3 else s / 36524
  let t := s - b * 36524
  let c := t / 1461
  let u := t % 1461
  let d := if 3 < u / 365 then 3 else u / 365
  a * 400 + b * 100 + c * 4 + d + 1

theorem ya_of (a b c d : Int) (b0 : 0 ≤ b) (b1 : b ≤ 3) (c0 : 0 ≤ c) (c1 : c ≤ 24) (d0 : 0 ≤ d) (d1 : d ≤ 3) :
    ya (a * 400 + b * 100 + c * 4 + d + 1) = a * 146097 + b * 36524 + c * 1461 + d * 365 := by
  unfold ya; omega

theorem yr_spec (n : Int) (h1 : 1 ≤ n) (h2 : n ≤ 3652059) : 1 ≤ yr n ∧ yr n ≤ 9999 ∧ ya (yr n) < n ∧ n ≤ ya (yr n + 1) := by
  have key : 0 ≤ yr n - 1 ∧ ya (yr n) < n ∧ n ≤ ya (yr n + 1) := by
    rw [ya_succ]
    unfold yr
    dsimp only
    generalize ha : (n - 1) / 146097 = a
    generalize hs : (n - 1) % 146097 = s
    have hs0 : 0 ≤ s ∧ s < 146097 := by omega
    have hn : n = a * 146097 + s + 1 := by omega
    have ha0 : 0 ≤ a := by omega
    clear ha hs
    generalize hb : (if 3 < s / 36524 then (3 : Int) else s / 36524) = b
    have hb0 : 0 ≤ b ∧ b ≤ 3 ∧ b * 36524 ≤ s ∧ (s < (b + 1) * 36524 ∨ (b = 3 ∧ s = 146096)) := by
      split at hb <;> omega
    clear hb
    generalize ht : s - b * 36524 = t
    have ht0 : 0 ≤ t ∧ t ≤ 36524 ∧ (t = 36524 → b = 3) := by omega
    generalize hc : t / 1461 = c
    generalize hu : t % 1461 = u
    have hc0 : 0 ≤ c ∧ c ≤ 24 ∧ 0 ≤ u ∧ u ≤ 1460 ∧ t = c * 1461 + u := by omega
    generalize hd : (if 3 < u / 365 then (3 : Int) else u / 365) = d
    have hd0 : 0 ≤ d ∧ d ≤ 3 ∧ d * 365 ≤ u ∧ (u < (d + 1) * 365 ∨ (d = 3 ∧ u = 1460)) := by
      split at hd <;> omega
    clear hd hc hu
    rw [ya_of a b c d (by omega) (by omega) (by omega) (by omega) (by omega) (by omega)]
    refine ⟨by omega, by omega, ?_⟩
    rcases ln_cases (a * 400 + b * 100 + c * 4 + d + 1) with ⟨h, e⟩ | ⟨h, e⟩
    · rw [e]; omega
    · rw [e]
      rw [lp_not] at h
      have : ¬ (d = 3 ∧ u = 1460) := by
        rintro ⟨rfl, rfl⟩
        by_cases hc24 : c = 24
        · have hb3 : b = 3 := by omega
          subst hc24 hb3
          omega
        · omega
      omega
  obtain ⟨k1, k2, k3⟩ := key
  refine ⟨by omega, ?_, k2, k3⟩
  by_cases h : yr n ≤ 9999
  · exact h
  · have := ya_mono 10000 (yr n) (by omega)
    rw [ya_end] at this
    omega

/-- The year of a day is the only one that holds it. -/
theorem yr_only (y n : Int) (hy1 : 1 ≤ y) (hy2 : y ≤ 9999) (h1 : ya y < n) (h2 : n ≤ ya (y + 1)) : yr n = y := by
  have a := ya_bd y (by omega) (by omega)
  have b := ya_bd (y + 1) (by omega) (by omega)
  obtain ⟨k1, k2, k3, k4⟩ := yr_spec n (by omega) (by omega)
  by_cases h : yr n < y
  · have := ya_mono (yr n + 1) y (by omega); omega
  · by_cases h' : y < yr n
    · have := ya_mono (y + 1) (yr n) (by omega); omega
    · omega

/-- The month of a year's k-th day: the first one that reaches as far. -/
def mo (y k : Int) : Int :=
  if k ≤ ma y 2 then 1 else if k ≤ ma y 3 then 2 else if k ≤ ma y 4 then 3 else if k ≤ ma y 5 then 4 else if k ≤ ma y 6 then 5 else if k ≤ ma y 7 then 6
    else if k ≤ ma y 8 then 7 else if k ≤ ma y 9 then 8 else if k ≤ ma y 10 then 9 else if k ≤ ma y 11 then 10 else if k ≤ ma y 12 then 11 else 12

theorem mo_spec (y k : Int) (h1 : 1 ≤ k) (h2 : k ≤ ln y) : 1 ≤ mo y k ∧ mo y k ≤ 12 ∧ ma y (mo y k) < k ∧ k ≤ ma y (mo y k + 1) := by
  have e1 := ma_one y
  have e13 := ma_end y
  unfold mo
  split
  · refine ⟨by omega, by omega, by omega, by assumption⟩
  all_goals try (split; (refine ⟨by omega, by omega, by omega, by assumption⟩))
  all_goals try (split; (refine ⟨by omega, by omega, by omega, by assumption⟩))
  all_goals try (split; (refine ⟨by omega, by omega, by omega, by assumption⟩))
  all_goals try (split; (refine ⟨by omega, by omega, by omega, by assumption⟩))
  all_goals try (split; (refine ⟨by omega, by omega, by omega, by assumption⟩))
  all_goals try (split; (refine ⟨by omega, by omega, by omega, by assumption⟩))
  all_goals try (split; (refine ⟨by omega, by omega, by omega, by assumption⟩))
  all_goals try (split; (refine ⟨by omega, by omega, by omega, by assumption⟩))
  all_goals try (split; (refine ⟨by omega, by omega, by omega, by assumption⟩))
  all_goals try (split; (refine ⟨by omega, by omega, by omega, by assumption⟩))
  refine ⟨by omega, by omega, by omega, ?_⟩
  show k ≤ ma y 13
  omega

theorem mo_only (y k m : Int) (h1 : 1 ≤ m) (h2 : m ≤ 12) (k1 : ma y m < k) (k2 : k ≤ ma y (m + 1)) : mo y k = m := by
  have b0 := ma_bd y m (by omega)
  have b1 := ma_bd y (m + 1) (by omega)
  obtain ⟨c1, c2, c3, c4⟩ := mo_spec y k (by omega) (by omega)
  by_cases h : mo y k < m
  · have := ma_mono y (mo y k + 1) m (by omega); omega
  · by_cases h' : m < mo y k
    · have := ma_mono y (m + 1) (mo y k) (by omega); omega
    · omega

/-- What Of's date of a number is. -/
theorem of_spec (n : Int) (h1 : 1 ≤ n) (h2 : n ≤ 3652059) :
    1 ≤ yr n ∧ yr n ≤ 9999 ∧ ya (yr n) < n ∧ n ≤ ya (yr n + 1) ∧ 1 ≤ n - ya (yr n) ∧ n - ya (yr n) ≤ ln (yr n)
    ∧ 1 ≤ mo (yr n) (n - ya (yr n)) ∧ mo (yr n) (n - ya (yr n)) ≤ 12
    ∧ 1 ≤ n - ya (yr n) - ma (yr n) (mo (yr n) (n - ya (yr n))) ∧ n - ya (yr n) - ma (yr n) (mo (yr n) (n - ya (yr n))) ≤ dm (yr n) (mo (yr n) (n - ya (yr n))) := by
  obtain ⟨a, b, c, d⟩ := yr_spec n h1 h2
  have e := ya_succ (yr n)
  obtain ⟨f, g, h, i⟩ := mo_spec (yr n) (n - ya (yr n)) (by omega) (by omega)
  have j := ma_succ (yr n) (mo (yr n) (n - ya (yr n))) a b f g
  refine ⟨a, b, c, d, by omega, by omega, f, g, by omega, by omega⟩

/-- Of's date: month and day by names of their own. -/
def om (n : Int) : Int := mo (yr n) (n - ya (yr n))
def od (n : Int) : Int := n - ya (yr n) - ma (yr n) (om n)

theorem of_back (y m d : Int) (hy1 : 1 ≤ y) (hy2 : y ≤ 9999) (h1 : 1 ≤ m) (h2 : m ≤ 12) (d1 : 1 ≤ d) (d2 : d ≤ dm y m) :
    yr (dn y m d) = y ∧ om (dn y m d) = m ∧ od (dn y m d) = d := by
  obtain ⟨a, b, _, _⟩ := dn_bd y m d hy1 hy2 h1 h2 d1 d2
  have e := yr_only y (dn y m d) hy1 hy2 a b
  have s := ma_succ y m hy1 hy2 h1 h2
  have f : dn y m d - ya y = ma y m + d := by unfold dn; omega
  have g := mo_only y (ma y m + d) m h1 h2 (by omega) (by omega)
  refine ⟨e, ?_, ?_⟩
  · unfold om; rw [e, f, g]
  · unfold od om; rw [e, f, g]; omega

theorem dn_of (n : Int) : dn (yr n) (om n) (od n) = n := by unfold dn od; omega

theorem of_in (n : Int) (h1 : 1 ≤ n) (h2 : n ≤ 3652059) : 1 ≤ yr n ∧ yr n ≤ 9999 ∧ 1 ≤ om n ∧ om n ≤ 12 ∧ 1 ≤ od n ∧ od n ≤ dm (yr n) (om n) := by
  obtain ⟨a, b, c, d, e, f, g, h, i, j⟩ := of_spec n h1 h2
  exact ⟨a, b, g, h, i, j⟩

end Go.Proofs.YtepaiolhflpmeaaDoor.Cal
