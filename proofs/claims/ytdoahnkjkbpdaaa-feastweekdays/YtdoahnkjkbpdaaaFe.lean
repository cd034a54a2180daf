/-
  Plain facts on feasts and days of rest, in whole numbers: a date's feast, a day's feast by its place in the year, days of rest, how many of them touch, the row of a year's feasts. No condition but those that each theorem names.
-/
import Derived.Test.YtdoahnkjkbpdaaaHeb
namespace Go.Proofs.Ytdoahnkjkbpdaaa.Fe
open Go.Proofs.Ytdoahnkjkbpdaaa.Year
open Go.Proofs.Ytdoahnkjkbpdaaa.Heb

/-- A date's feast. -/
def fk (ab : Bool) (m d : Int) : Int :=
  if m = 1 then (if d = 1 ∨ d = 2 then 1 else if d = 10 then 2 else if d = 15 ∨ ab = true ∧ d = 16 then 3 else if d = 22 ∨ ab = true ∧ d = 23 then 4 else 0)
  else if m = 8 then (if d = 15 ∨ ab = true ∧ d = 16 then 5 else if d = 21 ∨ ab = true ∧ d = 22 then 6 else 0)
  else if m = 10 then (if d = 6 ∨ ab = true ∧ d = 7 then 7 else 0) else 0

/-- Day n is day d of month m of the year h. -/
def Dt (n h m d : Int) : Prop := 3762 ≤ h ∧ h ≤ 9999 ∧ 1 ≤ m ∧ m ≤ 13 ∧ 1 ≤ d ∧ d ≤ hd (yl h) (lh h) m ∧ n = ny h + ha (yl h) (lh h) m + d - 1

/-- A feast by the place in a year of l days. -/
def fp (ab : Bool) (l i : Int) : Int :=
  if i = 0 ∨ i = 1 then 1 else if i = 9 then 2 else if i = 14 ∨ ab = true ∧ i = 15 then 3 else if i = 21 ∨ ab = true ∧ i = 22 then 4
  else if i = l - 163 ∨ ab = true ∧ i = l - 162 then 5 else if i = l - 157 ∨ ab = true ∧ i = l - 156 then 6 else if i = l - 113 ∨ ab = true ∧ i = l - 112 then 7 else 0

theorem dt_in (n h m d : Int) (x : Dt n h m d) : ny h ≤ n ∧ n < ny (h + 1) ∧ ha (yl h) (lh h) m ≤ n - ny h ∧ n - ny h < ha (yl h) (lh h) (m + 1) := by
  obtain ⟨h1, h2, m1, m2, d1, d2, e⟩ := x
  have s := ha_step (yl h) (lh h) m m1 m2
  have a := ha_all h
  have c := ha_mono (yl h) (lh h) (m + 1) 14 (by omega) (by omega) (by omega)
  have b := ha_bd (yl h) (lh h) m
  have k := ny_next h
  omega

theorem dt_of (n h m : Int) (h1 : 3762 ≤ h) (h2 : h ≤ 9999) (m1 : 1 ≤ m) (m2 : m ≤ 13) (g1 : ha (yl h) (lh h) m ≤ n - ny h) (g2 : n - ny h < ha (yl h) (lh h) (m + 1)) : Dt n h m (n - ny h - ha (yl h) (lh h) m + 1) := by
  have s := ha_step (yl h) (lh h) m m1 m2
  exact ⟨h1, h2, m1, m2, by omega, by omega, by omega⟩

/-- Every day from the first year's first on to the last year's last has a date. -/
theorem dt_ex (n : Int) (h1 : ny 3762 ≤ n) (h2 : n < ny 10000) : ∃ h m, 3762 ≤ h ∧ h ≤ 9999 ∧ ny h ≤ n ∧ n < ny (h + 1) ∧ 1 ≤ m ∧ m ≤ 13 ∧ ha (yl h) (lh h) m ≤ n - ny h ∧ n - ny h < ha (yl h) (lh h) (m + 1) := by
  obtain ⟨h, x1, x2, x3, x4⟩ := year_of n h1 h2
  have k := ny_next h
  obtain ⟨m, y1, y2, y3, y4⟩ := month_of (yl h) (lh h) (n - ny h) (by omega) (by rw [ha_all]; omega)
  exact ⟨h, m, x1, x2, x3, x4, y1, y2, y3, y4⟩

/-- A day has one year. -/
theorem year_one (n h h' : Int) (a1 : ny h ≤ n) (a2 : n < ny (h + 1)) (b1 : ny h' ≤ n) (b2 : n < ny (h' + 1)) : h' = h := by
  have x := (ny_one_of n h h' a1 a2).1 b1
  have y := (ny_one_of n h' h b1 b2).1 a1
  omega

open Classical in
/-- The year of a day. -/
noncomputable def yo (n : Int) : Int := if x : ∃ h, ny h ≤ n ∧ n < ny (h + 1) then Classical.choose x else 0

theorem yo_eq (n h : Int) (a1 : ny h ≤ n) (a2 : n < ny (h + 1)) : yo n = h := by
  have x : ∃ h, ny h ≤ n ∧ n < ny (h + 1) := ⟨h, a1, a2⟩
  unfold yo
  rw [dif_pos x]
  obtain ⟨b1, b2⟩ := Classical.choose_spec x
  exact year_one n h _ a1 a2 b1 b2

/-- A day's feast. -/
noncomputable def kd (ab : Bool) (n : Int) : Int := if n < ny 3762 ∨ ny 10000 ≤ n then 0 else fp ab (yl (yo n)) (n - ny (yo n))

theorem kd_out (ab : Bool) (n : Int) (h : n < ny 3762 ∨ ny 10000 ≤ n) : kd ab n = 0 := by unfold kd; rw [if_pos h]

theorem kd_in (ab : Bool) (n h : Int) (h1 : 3762 ≤ h) (h2 : h ≤ 9999) (a1 : ny h ≤ n) (a2 : n < ny (h + 1)) : kd ab n = fp ab (yl h) (n - ny h) := by
  have c1 := ny_mono 3762 h h1
  have c2 := ny_mono (h + 1) 10000 (by omega)
  unfold kd
  rw [if_neg (by omega), yo_eq n h a1 a2]

theorem kd_at (ab : Bool) (h i : Int) (h1 : 3762 ≤ h) (h2 : h ≤ 9999) (i1 : 0 ≤ i) (i2 : i < yl h) : kd ab (ny h + i) = fp ab (yl h) i := by
  have k := ny_next h
  rw [kd_in ab _ h h1 h2 (by omega) (by omega), show ny h + i - ny h = i by omega]

theorem ha_far (h : Int) : ha (yl h) (lh h) 8 = yl h - 177 ∧ ha (yl h) (lh h) 9 = yl h - 147 ∧ ha (yl h) (lh h) 10 = yl h - 118 ∧ ha (yl h) (lh h) 11 = yl h - 88 := by
  have s := ha_spring h
  have s8 : ha (yl h) (lh h) 9 = ha (yl h) (lh h) 8 + hd (yl h) (lh h) 8 := ha_step (yl h) (lh h) 8 (by omega) (by omega)
  have s9 : ha (yl h) (lh h) 10 = ha (yl h) (lh h) 9 + hd (yl h) (lh h) 9 := ha_step (yl h) (lh h) 9 (by omega) (by omega)
  have s10 : ha (yl h) (lh h) 11 = ha (yl h) (lh h) 10 + hd (yl h) (lh h) 10 := ha_step (yl h) (lh h) 10 (by omega) (by omega)
  have e8 : hd (yl h) (lh h) 8 = 30 := by simp [hd]
  have e9 : hd (yl h) (lh h) 9 = 29 := by simp [hd]
  have e10 : hd (yl h) (lh h) 10 = 30 := by simp [hd]
  omega

theorem fp_zero (ab : Bool) (l i : Int) (h0 : i ≠ 0) (h1 : i ≠ 1) (h2 : i ≠ 9) (h3 : i ≠ 14) (h4 : ab = true → i ≠ 15) (h5 : i ≠ 21) (h6 : ab = true → i ≠ 22) (h7 : i ≠ l - 163) (h8 : ab = true → i ≠ l - 162) (h9 : i ≠ l - 157) (h10 : ab = true → i ≠ l - 156) (h11 : i ≠ l - 113) (h12 : ab = true → i ≠ l - 112) : fp ab l i = 0 := by
  unfold fp
  cases ab <;> simp at * <;> (repeat' split) <;> omega

set_option maxHeartbeats 4000000 in
theorem fk_one (ab : Bool) (l d : Int) (d1 : 1 ≤ d) (d2 : d ≤ 30) (hl : 353 ≤ l) : fk ab 1 d = fp ab l (d - 1) := by
  by_cases c : d = 1 ∨ d = 2 ∨ d = 10 ∨ d = 15 ∨ d = 16 ∨ d = 22 ∨ d = 23
  · unfold fp
    rw [if_neg (c := d - 1 = l - 163 ∨ _) (by omega), if_neg (c := d - 1 = l - 157 ∨ _) (by omega), if_neg (c := d - 1 = l - 113 ∨ _) (by omega)]
    rcases c with rfl | rfl | rfl | rfl | rfl | rfl | rfl <;> cases ab <;> simp [fk]
  · rw [fp_zero ab l (d - 1) (by omega) (by omega) (by omega) (by omega) (by omega) (by omega) (by omega) (by omega) (by omega) (by omega) (by omega) (by omega) (by omega)]
    unfold fk
    rw [if_pos rfl, if_neg (by omega), if_neg (by omega), if_neg (by omega), if_neg (by omega)]

set_option maxHeartbeats 4000000 in
theorem fk_eight (ab : Bool) (l d : Int) (d1 : 1 ≤ d) (d2 : d ≤ 30) (hl : 353 ≤ l) : fk ab 8 d = fp ab l (l - 177 + d - 1) := by
  by_cases c : d = 15 ∨ d = 16 ∨ d = 21 ∨ d = 22
  · unfold fp
    rw [if_neg (by omega), if_neg (by omega), if_neg (by omega), if_neg (by omega)]
    rcases c with rfl | rfl | rfl | rfl <;> cases ab <;> simp [fk] <;> (repeat' split) <;> omega
  · rw [fp_zero ab l _ (by omega) (by omega) (by omega) (by omega) (by omega) (by omega) (by omega) (by omega) (by omega) (by omega) (by omega) (by omega) (by omega)]
    unfold fk
    rw [if_neg (by omega), if_pos rfl, if_neg (by omega), if_neg (by omega)]

set_option maxHeartbeats 4000000 in
theorem fk_ten (ab : Bool) (l d : Int) (d1 : 1 ≤ d) (d2 : d ≤ 30) (hl : 353 ≤ l) : fk ab 10 d = fp ab l (l - 118 + d - 1) := by
  by_cases c : d = 6 ∨ d = 7
  · unfold fp
    rw [if_neg (by omega), if_neg (by omega), if_neg (by omega), if_neg (by omega)]
    rcases c with rfl | rfl <;> cases ab <;> simp [fk] <;> (repeat' split) <;> omega
  · rw [fp_zero ab l _ (by omega) (by omega) (by omega) (by omega) (by omega) (by omega) (by omega) (by omega) (by omega) (by omega) (by omega) (by omega) (by omega)]
    unfold fk
    rw [if_neg (by omega), if_neg (by omega), if_pos rfl, if_neg (by omega)]

theorem fk_else (ab : Bool) (m d : Int) (h1 : m ≠ 1) (h8 : m ≠ 8) (h10 : m ≠ 10) : fk ab m d = 0 := by
  unfold fk
  rw [if_neg h1, if_neg h8, if_neg h10]

/-- The feast of a date is the feast of its place. -/
theorem fk_fp (ab : Bool) (h m d : Int) (m1 : 1 ≤ m) (m2 : m ≤ 13) (d1 : 1 ≤ d) (d2 : d ≤ hd (yl h) (lh h) m) : fk ab m d = fp ab (yl h) (ha (yl h) (lh h) m + d - 1) := by
  obtain ⟨f8, f9, f10, f11⟩ := ha_far h
  have s := ha_step (yl h) (lh h) m m1 m2
  have yb := (yl_bd h).1
  have hb := (hd_bd (yl h) (lh h) m).2
  have e1 := ha_one (yl h) (lh h)
  have e2 : ha (yl h) (lh h) 2 = 30 := by simp [ha]
  by_cases c1 : m = 1
  · subst c1
    rw [e1, show (0 : Int) + d - 1 = d - 1 by omega]
    exact fk_one ab _ d d1 (by omega) yb
  · by_cases c3 : m = 8
    · subst c3
      rw [f8]
      exact fk_eight ab _ d d1 (by omega) yb
    · by_cases c5 : m = 10
      · subst c5
        rw [f10]
        exact fk_ten ab _ d d1 (by omega) yb
      · rw [fk_else ab m d c1 c3 c5]
        have z : 30 ≤ ha (yl h) (lh h) m + d - 1 ∧ (ha (yl h) (lh h) m + d - 1 < yl h - 177 ∨ (yl h - 147 ≤ ha (yl h) (lh h) m + d - 1 ∧ ha (yl h) (lh h) m + d - 1 < yl h - 118) ∨ yl h - 88 ≤ ha (yl h) (lh h) m + d - 1) := by
          have a1 := ha_mono (yl h) (lh h) 2 m (by omega) (by omega) (by omega)
          refine ⟨by omega, ?_⟩
          by_cases c2 : m < 8
          · have a2 := ha_mono (yl h) (lh h) (m + 1) 8 (by omega) (by omega) (by omega)
            left; omega
          · by_cases c4 : m = 9
            · subst c4
              have e9 : hd (yl h) (lh h) 9 = 29 := by simp [hd]
              right; left; omega
            · have a2 := ha_mono (yl h) (lh h) 11 m (by omega) (by omega) (by omega)
              right; right; omega
        obtain ⟨g, hg⟩ : ∃ g, ha (yl h) (lh h) m + d - 1 = g := ⟨_, rfl⟩
        rw [hg] at z ⊢
        clear hg s hb e1 e2 f8 f9 f10 f11 d1 d2 m1 m2 c1 c3 c5
        exact (fp_zero ab _ g (by omega) (by omega) (by omega) (by omega) (by omega) (by omega) (by omega) (by omega) (by omega) (by omega) (by omega) (by omega) (by omega)).symm

theorem kd_dt (ab : Bool) (n h m d : Int) (x : Dt n h m d) : kd ab n = fk ab m d := by
  obtain ⟨a1, a2, a3, a4⟩ := dt_in n h m d x
  obtain ⟨h1, h2, m1, m2, d1, d2, e⟩ := x
  rw [kd_in ab n h h1 h2 a1 a2, fk_fp ab h m d m1 m2 d1 d2, show n - ny h = ha (yl h) (lh h) m + d - 1 by omega]

/-- A day of rest. -/
noncomputable def rst (ab : Bool) (n : Int) : Bool := decide (ny 3762 ≤ n ∧ n < ny 10000) && (decide (n % 7 = 6) || decide (kd ab n ≠ 0))

theorem rst_iff (ab : Bool) (n : Int) : rst ab n = true ↔ ny 3762 ≤ n ∧ n < ny 10000 ∧ (n % 7 = 6 ∨ kd ab n ≠ 0) := by
  unfold rst
  simp [and_assoc]

theorem rst_low (ab : Bool) (n : Int) (h : n < ny 3762) : rst ab n = false := by
  cases e : rst ab n
  · rfl
  · have := (rst_iff ab n).1 e; omega

theorem rst_high (ab : Bool) (n : Int) (h : ny 10000 ≤ n) : rst ab n = false := by
  cases e : rst ab n
  · rfl
  · have := (rst_iff ab n).1 e; omega

/-- Where a feast's day lies. -/
theorem kd_place (ab : Bool) (n : Int) (h1 : ny 3762 ≤ n) (h2 : n < ny 10000) (h : kd ab n ≠ 0) : ∃ y l : Int, 353 ≤ l ∧ y ≤ n ∧ n < y + l ∧ (∃ g, 3762 ≤ g ∧ g ≤ 9999 ∧ y = ny g ∧ l = yl g) ∧
    (n = y ∨ n = y + 1 ∨ n = y + 9 ∨ n = y + 14 ∨ n = y + 15 ∨ n = y + 21 ∨ n = y + 22 ∨ n = y + l - 163 ∨ n = y + l - 162 ∨ n = y + l - 157 ∨ n = y + l - 156 ∨ n = y + l - 113 ∨ n = y + l - 112) := by
  obtain ⟨g, x1, x2, x3, x4⟩ := year_of n h1 h2
  have k := ny_next g
  have b := yl_bd g
  refine ⟨ny g, yl g, b.1, x3, by omega, ⟨g, x1, x2, rfl, rfl⟩, ?_⟩
  rw [kd_in ab n g x1 x2 x3 x4] at h
  unfold fp at h
  revert h
  cases ab <;> simp <;> (repeat' split) <;> omega

/-- Of three days of feasts in a row there is none. -/
theorem no_three (ab : Bool) (a b c : Int) (h1 : a < b) (h2 : b < c) (h3 : c ≤ a + 3) (ia : ny 3762 ≤ a) (ic : c < ny 10000) (ka : kd ab a ≠ 0) (kb : kd ab b ≠ 0) (kc : kd ab c ≠ 0) : False := by
  obtain ⟨y, l, l1, y1, y2, ⟨g, g1, g2, rfl, rfl⟩, p⟩ := kd_place ab a ia (by omega) ka
  obtain ⟨y', l', l1', y1', y2', ⟨g', g1', g2', rfl, rfl⟩, p'⟩ := kd_place ab b (by omega) (by omega) kb
  obtain ⟨y'', l'', l1'', y1'', y2'', ⟨g'', g1'', g2'', rfl, rfl⟩, p''⟩ := kd_place ab c (by omega) ic kc
  have n1 := ny_next g
  have n2 := ny_next g'
  have n3 := ny_next g''
  have m1 : ny g' ≤ a ∨ a < ny g' := by omega
  have e1 : g' = g := by
    by_cases x : ny g' ≤ a
    · exact year_one a g g' y1 (by omega) x (by omega)
    · exfalso
      by_cases z : g' ≤ g
      · have := ny_mono g' g z; omega
      · have := ny_mono (g + 1) g' (by omega); omega
  have e2 : g'' = g := by
    by_cases x : ny g'' ≤ a
    · exact year_one a g g'' y1 (by omega) x (by omega)
    · exfalso
      by_cases z : g'' ≤ g
      · have := ny_mono g'' g z; omega
      · have := ny_mono (g + 1) g'' (by omega); omega
  subst e1
  subst e2
  omega

/-- NO MORE THAN THREE DAYS OF REST TOUCH. -/
theorem no_four (ab : Bool) (n : Int) (h0 : rst ab n = true) (h1 : rst ab (n + 1) = true) (h2 : rst ab (n + 2) = true) (h3 : rst ab (n + 3) = true) : False := by
  rw [rst_iff] at h0 h1 h2 h3
  obtain ⟨a0, b0, c0⟩ := h0
  obtain ⟨a1, b1, c1⟩ := h1
  obtain ⟨a2, b2, c2⟩ := h2
  obtain ⟨a3, b3, c3⟩ := h3
  by_cases k0 : kd ab n ≠ 0
  · by_cases k1 : kd ab (n + 1) ≠ 0
    · by_cases k2 : kd ab (n + 2) ≠ 0
      · exact no_three ab _ _ _ (by omega) (by omega) (by omega) a0 b2 k0 k1 k2
      · by_cases k3 : kd ab (n + 3) ≠ 0
        · exact no_three ab _ _ _ (by omega) (by omega) (by omega) a0 b3 k0 k1 k3
        · omega
    · by_cases k2 : kd ab (n + 2) ≠ 0
      · by_cases k3 : kd ab (n + 3) ≠ 0
        · exact no_three ab _ _ _ (by omega) (by omega) (by omega) a0 b3 k0 k2 k3
        · omega
      · omega
  · by_cases k1 : kd ab (n + 1) ≠ 0
    · by_cases k2 : kd ab (n + 2) ≠ 0
      · by_cases k3 : kd ab (n + 3) ≠ 0
        · exact no_three ab _ _ _ (by omega) (by omega) (by omega) a1 b3 k1 k2 k3
        · omega
      · omega
    · omega

/-- The row of the feasts among the first k days from y on. -/
noncomputable def ls (ab : Bool) (y : Int) : Nat → List (Int × Int)
  | 0 => []
  | k + 1 => if kd ab (y + k) = 0 then ls ab y k else ls ab y k ++ [(kd ab (y + k), y + k)]

theorem ls_miss (ab : Bool) (y : Int) (k : Nat) (h : kd ab (y + k) = 0) : ls ab y (k + 1) = ls ab y k := by simp [ls, h]
theorem ls_hit (ab : Bool) (y : Int) (k : Nat) (h : kd ab (y + k) ≠ 0) : ls ab y (k + 1) = ls ab y k ++ [(kd ab (y + k), y + k)] := by simp [ls, h]

theorem ls_skip (ab : Bool) (y : Int) (a n : Nat) (h : ∀ i : Nat, a ≤ i → i < a + n → kd ab (y + i) = 0) : ls ab y (a + n) = ls ab y a := by
  induction n with
  | zero => rfl
  | succ n ih =>
    rw [← ih (fun i i1 i2 => h i i1 (by omega))]
    exact ls_miss ab y (a + n) (h _ (by omega) (by omega))

theorem ls_to (ab : Bool) (y : Int) (a b : Nat) (hab : a ≤ b) (h : ∀ i : Nat, a ≤ i → i < b → kd ab (y + i) = 0) : ls ab y b = ls ab y a := by
  obtain ⟨n, rfl⟩ : ∃ n, b = a + n := ⟨b - a, by omega⟩
  exact ls_skip ab y a n h

theorem ls_length (ab : Bool) (y : Int) (k : Nat) : (ls ab y k).length ≤ k := by
  induction k with
  | zero => simp [ls]
  | succ k ih =>
    unfold ls
    split
    · omega
    · simp; omega

/-- A year's feasts, each with its day; p: Passover's first. -/
def fl (ab : Bool) (y p : Int) : List (Int × Int) :=
  match ab with
  | false => [(1, y), (1, y + 1), (2, y + 9), (3, y + 14), (4, y + 21), (5, p), (6, p + 6), (7, p + 50)]
  | true => [(1, y), (1, y + 1), (2, y + 9), (3, y + 14), (3, y + 15), (4, y + 21), (4, y + 22), (5, p), (5, p + 1), (6, p + 6), (6, p + 7), (7, p + 50), (7, p + 51)]

set_option maxHeartbeats 2000000 in
theorem ls_all (ab : Bool) (h : Int) (k : Nat) (h1 : 3762 ≤ h) (h2 : h ≤ 9999) (k1 : 280 ≤ (k : Int)) (k2 : (k : Int) ≤ yl h) : ls ab (ny h) k = fl ab (ny h) (ny h + yl h - 163) := by
  have yb := yl_bd h
  obtain ⟨p, hp⟩ : ∃ p : Nat, (p : Int) = yl h - 163 := ⟨(yl h - 163).toNat, by omega⟩
  have K : ∀ i : Nat, (i : Int) < yl h → kd ab (ny h + i) = fp ab (yl h) i := fun i hi => kd_at ab h i h1 h2 (by omega) hi
  have skip : ∀ a b : Nat, a ≤ b → (b : Int) ≤ yl h → (∀ i : Nat, a ≤ i → i < b → fp ab (yl h) i = 0) → ls ab (ny h) b = ls ab (ny h) a := fun a b hab hb hz =>
    ls_to ab (ny h) a b hab (fun i i1 i2 => by rw [K i (by omega)]; exact hz i i1 i2)
  have hit : ∀ (a : Nat) (v : Int), (a : Int) < yl h → fp ab (yl h) a = v → v ≠ 0 → ls ab (ny h) (a + 1) = ls ab (ny h) a ++ [(v, ny h + a)] := fun a v ha hv h0 => by
    have e : kd ab (ny h + a) = v := by rw [K a ha]; exact hv
    rw [ls_hit ab (ny h) a (by rw [e]; exact h0), e]
  have q2 : ls ab (ny h) 2 = [(1, ny h), (1, ny h + 1)] := by
    rw [hit 1 1 (by omega) (by simp [fp]) (by omega), hit 0 1 (by omega) (by simp [fp]) (by omega)]
    simp [ls]
  have q9 := skip 2 9 (by omega) (by omega) (fun i _ _ => fp_zero ab _ _ (by omega) (by omega) (by omega) (by omega) (by omega) (by omega) (by omega) (by omega) (by omega) (by omega) (by omega) (by omega) (by omega))
  have q10 := hit 9 2 (by omega) (by simp [fp]) (by omega)
  have q14 := skip 10 14 (by omega) (by omega) (fun i _ _ => fp_zero ab _ _ (by omega) (by omega) (by omega) (by omega) (by omega) (by omega) (by omega) (by omega) (by omega) (by omega) (by omega) (by omega) (by omega))
  have q15 := hit 14 3 (by omega) (by simp [fp]) (by omega)
  have p1 : fp ab (yl h) p = 5 := by unfold fp; rw [if_neg (by omega), if_neg (by omega), if_neg (by omega), if_neg (by omega), if_pos (by omega)]
  have p7 : fp ab (yl h) ((p + 6 : Nat) : Int) = 6 := by unfold fp; rw [if_neg (by omega), if_neg (by omega), if_neg (by omega), if_neg (by omega), if_neg (by omega), if_pos (by omega)]
  have p51 : fp ab (yl h) ((p + 50 : Nat) : Int) = 7 := by unfold fp; rw [if_neg (by omega), if_neg (by omega), if_neg (by omega), if_neg (by omega), if_neg (by omega), if_neg (by omega), if_pos (by omega)]
  have r1 := hit p 5 (by omega) p1 (by omega)
  have r7 := hit (p + 6) 6 (by omega) p7 (by omega)
  have r51 := hit (p + 50) 7 (by omega) p51 (by omega)
  have e0 : ny h + yl h - 163 = ny h + p := by omega
  rw [e0]
  cases ab with
  | false =>
    have z : ∀ a b : Nat, a ≤ b → (b : Int) ≤ yl h → (∀ i : Nat, a ≤ i → i < b → (i : Int) ≠ 0 ∧ (i : Int) ≠ 1 ∧ (i : Int) ≠ 9 ∧ (i : Int) ≠ 14 ∧ (i : Int) ≠ 21 ∧ (i : Int) ≠ yl h - 163 ∧ (i : Int) ≠ yl h - 157 ∧ (i : Int) ≠ yl h - 113) → ls false (ny h) b = ls false (ny h) a :=
      fun a b hab hb hz => skip a b hab hb (fun i i1 i2 => by obtain ⟨x0, x1, x2, x3, x4, x5, x6, x7⟩ := hz i i1 i2; exact fp_zero false _ _ x0 x1 x2 x3 (by simp) x4 (by simp) x5 (by simp) x6 (by simp) x7 (by simp))
    have q21 := z 15 21 (by omega) (by omega) (fun i _ _ => by omega)
    have q22 := hit 21 4 (by omega) (by simp [fp]) (by omega)
    have qp := z 22 p (by omega) (by omega) (fun i _ _ => by omega)
    have qp6 := z (p + 1) (p + 6) (by omega) (by omega) (fun i _ _ => by omega)
    have qp50 := z (p + 6 + 1) (p + 50) (by omega) (by omega) (fun i _ _ => by omega)
    have qk := z (p + 50 + 1) k (by omega) (by omega) (fun i _ _ => by omega)
    rw [qk, r51, qp50, r7, qp6, r1, qp, q22, q21, q15, q14, q10, q9, q2]
    simp [fl]
    omega
  | true =>
    have z : ∀ a b : Nat, a ≤ b → (b : Int) ≤ yl h → (∀ i : Nat, a ≤ i → i < b → (i : Int) ≠ 0 ∧ (i : Int) ≠ 1 ∧ (i : Int) ≠ 9 ∧ (i : Int) ≠ 14 ∧ (i : Int) ≠ 15 ∧ (i : Int) ≠ 21 ∧ (i : Int) ≠ 22 ∧ (i : Int) ≠ yl h - 163 ∧ (i : Int) ≠ yl h - 162 ∧ (i : Int) ≠ yl h - 157 ∧ (i : Int) ≠ yl h - 156 ∧ (i : Int) ≠ yl h - 113 ∧ (i : Int) ≠ yl h - 112) → ls true (ny h) b = ls true (ny h) a :=
      fun a b hab hb hz => skip a b hab hb (fun i i1 i2 => by obtain ⟨x0, x1, x2, x3, x4, x5, x6, x7, x8, x9, x10, x11, x12⟩ := hz i i1 i2; exact fp_zero true _ _ x0 x1 x2 x3 (fun _ => x4) x5 (fun _ => x6) x7 (fun _ => x8) x9 (fun _ => x10) x11 (fun _ => x12))
    have q16 := hit 15 3 (by omega) (by simp [fp]) (by omega)
    have q21 := z 16 21 (by omega) (by omega) (fun i _ _ => by omega)
    have q22 := hit 21 4 (by omega) (by simp [fp]) (by omega)
    have q23 := hit 22 4 (by omega) (by simp [fp]) (by omega)
    have p2 : fp true (yl h) ((p + 1 : Nat) : Int) = 5 := by unfold fp; rw [if_neg (by omega), if_neg (by omega), if_neg (by omega), if_neg (by omega), if_pos (by right; exact ⟨rfl, by omega⟩)]
    have p8 : fp true (yl h) ((p + 7 : Nat) : Int) = 6 := by unfold fp; rw [if_neg (by omega), if_neg (by omega), if_neg (by omega), if_neg (by omega), if_neg (by omega), if_pos (by right; exact ⟨rfl, by omega⟩)]
    have p52 : fp true (yl h) ((p + 51 : Nat) : Int) = 7 := by unfold fp; rw [if_neg (by omega), if_neg (by omega), if_neg (by omega), if_neg (by omega), if_neg (by omega), if_neg (by omega), if_pos (by right; exact ⟨rfl, by omega⟩)]
    have r2 := hit (p + 1) 5 (by omega) p2 (by omega)
    have r8 := hit (p + 7) 6 (by omega) p8 (by omega)
    have r52 := hit (p + 51) 7 (by omega) p52 (by omega)
    have qp := z 23 p (by omega) (by omega) (fun i _ _ => by omega)
    have qp6 := z (p + 1 + 1) (p + 6) (by omega) (by omega) (fun i _ _ => by omega)
    have qp50 := z (p + 7 + 1) (p + 50) (by omega) (by omega) (fun i _ _ => by omega)
    have qk := z (p + 51 + 1) k (by omega) (by omega) (fun i _ _ => by omega)
    rw [qk, r52, r51, qp50, r8, r7, qp6, r2, r1, qp, q23, q22, q21, q16, q15, q14, q10, q9, q2]
    simp [fl]
    omega

end Go.Proofs.Ytdoahnkjkbpdaaa.Fe
