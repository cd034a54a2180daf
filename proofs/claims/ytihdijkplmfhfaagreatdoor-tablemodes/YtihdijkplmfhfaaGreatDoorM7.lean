/-
  Texts of mine, merged: each part says what it holds. Conditions: as each theorem states.
-/
import Derived.RegionTactic
import Derived.Laws.StructEq
import Derived.Laws.EntriesVeiled
import Derived.Test.YtihdijkplmfhfaaGreatDoorM6

/- Plain facts on feasts and days of rest, in whole numbers: a date's feast, a day's feast by its place in the year, days of rest, how many of them touch, the row of a year's feasts. No condition but those that each theorem names. -/
namespace Go.Proofs.YtihdijkplmfhfaaGreatDoor.Fe
set_option maxRecDepth 100000
open Go.Proofs.YtihdijkplmfhfaaGreatDoor.Year
open Go.Proofs.YtihdijkplmfhfaaGreatDoor.Heb

/-- A date's feast. -/
def fk (ab : Bool) (m d : Int) : Int :=
  if m = 1 then (if d = 1 ∨ d = 2 then 1 else if d = 10 then 2 else if d = 15 ∨ ab = true ∧ d = 16 then 3 else if d = 22 ∨ ab = true ∧ d = 23 then 4 else 0)
  else if m = 8 then (if d = 15 ∨ ab = true ∧ d = 16 then 5 else if d = 21 ∨ ab = true ∧ d = 22 then 6 else 0)
  else if m = 10 then (if d = 6 ∨ ab = true ∧ d = 7 then 7 else 0) else 0

/-- Day n is day d of month m of the year h. -/
def Dt (n h m d : Int) : Prop := 3762 ≤ h ∧ h ≤ 9999 ∧ 1 ≤ m ∧ m ≤ 13 ∧ 1 ≤ d ∧ d ≤ hd (yl h) (lh h) m ∧ n = ny h + ha (yl h) (lh h) m + d - 1

/-- A feast by the place in a year of l days. -/
def fp (ab : Bool) (l i : Int) : Int :=
  if i = 0 ∨ i = 1 then 1 else if i = 9 then 2 else if i = 14 ∨ ab = true ∧ i = 15 then 3 else if i = 21 ∨ ab = true ∧ i = 22 then 4
  else if i = l - 163 ∨ ab = true ∧ i = l - 162 then 5 else if i = l - 157 ∨ ab = true ∧ i = l - 156 then 6 else if i = l - 113 ∨ ab = true ∧ i = l - 112 then 7 else 0

theorem dt_in (n h m d : Int) (x : Dt n h m d) : ny h ≤ n ∧ n < ny (h + 1) ∧ ha (yl h) (lh h) m ≤ n - ny h ∧ n - ny h < ha (yl h) (lh h) (m + 1) := by
  obtain ⟨h1, h2, m1, m2, d1, d2, e⟩ := x
  have s := ha_step (yl h) (lh h) m m1 m2
  have a := ha_all h
  have c := ha_mono (yl h) (lh h) (m + 1) 14 (by omega) (by omega) (by omega)
  have b := ha_bd (yl h) (lh h) m
  have k := ny_next h
  omega

theorem dt_of (n h m : Int) (h1 : 3762 ≤ h) (h2 : h ≤ 9999) (m1 : 1 ≤ m) (m2 : m ≤ 13) (g1 : ha (yl h) (lh h) m ≤ n - ny h) (g2 : n - ny h < ha (yl h) (lh h) (m + 1)) : Dt n h m (n - ny h - ha (yl h) (lh h) m + 1) := by
  have s := ha_step (yl h) (lh h) m m1 m2
  exact ⟨h1, h2, m1, m2, by omega, by omega, by omega⟩

/-- Every day from the first year's first on to the last year's last has a date. -/
theorem dt_ex (n : Int) (h1 : ny 3762 ≤ n) (h2 : n < ny 10000) : ∃ h m, 3762 ≤ h ∧ h ≤ 9999 ∧ ny h ≤ n ∧ n < ny (h + 1) ∧ 1 ≤ m ∧ m ≤ 13 ∧ ha (yl h) (lh h) m ≤ n - ny h ∧ n - ny h < ha (yl h) (lh h) (m + 1) := by
  obtain ⟨h, x1, x2, x3, x4⟩ := year_of n h1 h2
  have k := ny_next h
  obtain ⟨m, y1, y2, y3, y4⟩ := month_of (yl h) (lh h) (n - ny h) (by omega) (by rw [ha_all]; omega)
  exact ⟨h, m, x1, x2, x3, x4, y1, y2, y3, y4⟩

/-- A day has one year. -/
theorem year_one (n h h' : Int) (a1 : ny h ≤ n) (a2 : n < ny (h + 1)) (b1 : ny h' ≤ n) (b2 : n < ny (h' + 1)) : h' = h := by
  have x := (ny_one_of n h h' a1 a2).1 b1
  have y := (ny_one_of n h' h b1 b2).1 a1
  omega

open Classical in
/-- The year of a day. -/
noncomputable def yo (n : Int) : Int := if x : ∃ h, ny h ≤ n ∧ n < ny (h + 1) then Classical.choose x else 0

theorem yo_eq (n h : Int) (a1 : ny h ≤ n) (a2 : n < ny (h + 1)) : yo n = h := by
  have x : ∃ h, ny h ≤ n ∧ n < ny (h + 1) := ⟨h, a1, a2⟩
  unfold yo
  rw [dif_pos x]
  obtain ⟨b1, b2⟩ := Classical.choose_spec x
  exact year_one n h _ a1 a2 b1 b2

/-- A day's feast. -/
noncomputable def kd (ab : Bool) (n : Int) : Int := if n < ny 3762 ∨ ny 10000 ≤ n then 0 else fp ab (yl (yo n)) (n - ny (yo n))

theorem kd_out (ab : Bool) (n : Int) (h : n < ny 3762 ∨ ny 10000 ≤ n) : kd ab n = 0 := by unfold kd; rw [if_pos h]

theorem kd_in (ab : Bool) (n h : Int) (h1 : 3762 ≤ h) (h2 : h ≤ 9999) (a1 : ny h ≤ n) (a2 : n < ny (h + 1)) : kd ab n = fp ab (yl h) (n - ny h) := by
  have c1 := ny_mono 3762 h h1
  have c2 := ny_mono (h + 1) 10000 (by omega)
  unfold kd
  rw [if_neg (by omega), yo_eq n h a1 a2]

theorem kd_at (ab : Bool) (h i : Int) (h1 : 3762 ≤ h) (h2 : h ≤ 9999) (i1 : 0 ≤ i) (i2 : i < yl h) : kd ab (ny h + i) = fp ab (yl h) i := by
  have k := ny_next h
  rw [kd_in ab _ h h1 h2 (by omega) (by omega), show ny h + i - ny h = i by omega]

theorem ha_far (h : Int) : ha (yl h) (lh h) 8 = yl h - 177 ∧ ha (yl h) (lh h) 9 = yl h - 147 ∧ ha (yl h) (lh h) 10 = yl h - 118 ∧ ha (yl h) (lh h) 11 = yl h - 88 := by
  have s := ha_spring h
  have s8 : ha (yl h) (lh h) 9 = ha (yl h) (lh h) 8 + hd (yl h) (lh h) 8 := ha_step (yl h) (lh h) 8 (by omega) (by omega)
  have s9 : ha (yl h) (lh h) 10 = ha (yl h) (lh h) 9 + hd (yl h) (lh h) 9 := ha_step (yl h) (lh h) 9 (by omega) (by omega)
  have s10 : ha (yl h) (lh h) 11 = ha (yl h) (lh h) 10 + hd (yl h) (lh h) 10 := ha_step (yl h) (lh h) 10 (by omega) (by omega)
  have e8 : hd (yl h) (lh h) 8 = 30 := by simp [hd]
  have e9 : hd (yl h) (lh h) 9 = 29 := by simp [hd]
  have e10 : hd (yl h) (lh h) 10 = 30 := by simp [hd]
  omega

theorem fp_zero (ab : Bool) (l i : Int) (h0 : i ≠ 0) (h1 : i ≠ 1) (h2 : i ≠ 9) (h3 : i ≠ 14) (h4 : ab = true → i ≠ 15) (h5 : i ≠ 21) (h6 : ab = true → i ≠ 22) (h7 : i ≠ l - 163) (h8 : ab = true → i ≠ l - 162) (h9 : i ≠ l - 157) (h10 : ab = true → i ≠ l - 156) (h11 : i ≠ l - 113) (h12 : ab = true → i ≠ l - 112) : fp ab l i = 0 := by
  unfold fp
  cases ab <;> simp at * <;> (repeat' split) <;> omega

set_option maxHeartbeats 4000000 in
theorem fk_one (ab : Bool) (l d : Int) (d1 : 1 ≤ d) (d2 : d ≤ 30) (hl : 353 ≤ l) : fk ab 1 d = fp ab l (d - 1) := by
  by_cases c : d = 1 ∨ d = 2 ∨ d = 10 ∨ d = 15 ∨ d = 16 ∨ d = 22 ∨ d = 23
  · unfold fp
    rw [if_neg (c := d - 1 = l - 163 ∨ _) (by omega), if_neg (c := d - 1 = l - 157 ∨ _) (by omega), if_neg (c := d - 1 = l - 113 ∨ _) (by omega)]
    rcases c with rfl | rfl | rfl | rfl | rfl | rfl | rfl <;> cases ab <;> simp [fk]
  · rw [fp_zero ab l (d - 1) (by omega) (by omega) (by omega) (by omega) (by omega) (by omega) (by omega) (by omega) (by omega) (by omega) (by omega) (by omega) (by omega)]
    unfold fk
    rw [if_pos rfl, if_neg (by omega), if_neg (by omega), if_neg (by omega), if_neg (by omega)]

set_option maxHeartbeats 4000000 in
theorem fk_eight (ab : Bool) (l d : Int) (d1 : 1 ≤ d) (d2 : d ≤ 30) (hl : 353 ≤ l) : fk ab 8 d = fp ab l (l - 177 + d - 1) := by
  by_cases c : d = 15 ∨ d = 16 ∨ d = 21 ∨ d = 22
  · unfold fp
    rw [if_neg (by omega), if_neg (by omega), if_neg (by omega), if_neg (by omega)]
    rcases c with rfl | rfl | rfl | rfl <;> cases ab <;> simp [fk] <;> (repeat' split) <;> omega
  · rw [fp_zero ab l _ (by omega) (by omega) (by omega) (by omega) (by omega) (by omega) (by omega) (by omega) (by omega) (by omega) (by omega) (by omega) (by omega)]
    unfold fk
    rw [if_neg (by omega), if_pos rfl, if_neg (by omega), if_neg (by omega)]

set_option maxHeartbeats 4000000 in
theorem fk_ten (ab : Bool) (l d : Int) (d1 : 1 ≤ d) (d2 : d ≤ 30) (hl : 353 ≤ l) : fk ab 10 d = fp ab l (l - 118 + d - 1) := by
  by_cases c : d = 6 ∨ d = 7
  · unfold fp
    rw [if_neg (by omega), if_neg (by omega), if_neg (by omega), if_neg (by omega)]
    rcases c with rfl | rfl <;> cases ab <;> simp [fk] <;> (repeat' split) <;> omega
  · rw [fp_zero ab l _ (by omega) (by omega) (by omega) (by omega) (by omega) (by omega) (by omega) (by omega) (by omega) (by omega) (by omega) (by omega) (by omega)]
    unfold fk
    rw [if_neg (by omega), if_neg (by omega), if_pos rfl, if_neg (by omega)]

theorem fk_else (ab : Bool) (m d : Int) (h1 : m ≠ 1) (h8 : m ≠ 8) (h10 : m ≠ 10) : fk ab m d = 0 := by
  unfold fk
  rw [if_neg h1, if_neg h8, if_neg h10]

/-- The feast of a date is the feast of its place. -/
theorem fk_fp (ab : Bool) (h m d : Int) (m1 : 1 ≤ m) (m2 : m ≤ 13) (d1 : 1 ≤ d) (d2 : d ≤ hd (yl h) (lh h) m) : fk ab m d = fp ab (yl h) (ha (yl h) (lh h) m + d - 1) := by
  obtain ⟨f8, f9, f10, f11⟩ := ha_far h
  have s := ha_step (yl h) (lh h) m m1 m2
  have yb := (yl_bd h).1
  have hb := (hd_bd (yl h) (lh h) m).2
  have e1 := ha_one (yl h) (lh h)
  have e2 : ha (yl h) (lh h) 2 = 30 := by simp [ha]
  by_cases c1 : m = 1
  · subst c1
    rw [e1, show (0 : Int) + d - 1 = d - 1 by omega]
    exact fk_one ab _ d d1 (by omega) yb
  · by_cases c3 : m = 8
    · subst c3
      rw [f8]
      exact fk_eight ab _ d d1 (by omega) yb
    · by_cases c5 : m = 10
      · subst c5
        rw [f10]
        exact fk_ten ab _ d d1 (by omega) yb
      · rw [fk_else ab m d c1 c3 c5]
        have z : 30 ≤ ha (yl h) (lh h) m + d - 1 ∧ (ha (yl h) (lh h) m + d - 1 < yl h - 177 ∨ (yl h - 147 ≤ ha (yl h) (lh h) m + d - 1 ∧ ha (yl h) (lh h) m + d - 1 < yl h - 118) ∨ yl h - 88 ≤ ha (yl h) (lh h) m + d - 1) := by
          have a1 := ha_mono (yl h) (lh h) 2 m (by omega) (by omega) (by omega)
          refine ⟨by omega, ?_⟩
          by_cases c2 : m < 8
          · have a2 := ha_mono (yl h) (lh h) (m + 1) 8 (by omega) (by omega) (by omega)
            left; omega
          · by_cases c4 : m = 9
            · subst c4
              have e9 : hd (yl h) (lh h) 9 = 29 := by simp [hd]
              right; left; omega
            · have a2 := ha_mono (yl h) (lh h) 11 m (by omega) (by omega) (by omega)
              right; right; omega
        obtain ⟨g, hg⟩ : ∃ g, ha (yl h) (lh h) m + d - 1 = g := ⟨_, rfl⟩
        rw [hg] at z ⊢
        clear hg s hb e1 e2 f8 f9 f10 f11 d1 d2 m1 m2 c1 c3 c5
        exact (fp_zero ab _ g (by omega) (by omega) (by omega) (by omega) (by omega) (by omega) (by omega) (by omega) (by omega) (by omega) (by omega) (by omega) (by omega)).symm

theorem kd_dt (ab : Bool) (n h m d : Int) (x : Dt n h m d) : kd ab n = fk ab m d := by
  obtain ⟨a1, a2, a3, a4⟩ := dt_in n h m d x
  obtain ⟨h1, h2, m1, m2, d1, d2, e⟩ := x
  rw [kd_in ab n h h1 h2 a1 a2, fk_fp ab h m d m1 m2 d1 d2, show n - ny h = ha (yl h) (lh h) m + d - 1 by omega]

/-- A day of rest. -/
noncomputable def rst (ab : Bool) (n : Int) : Bool := decide (ny 3762 ≤ n ∧ n < ny 10000) && (decide (n % 7 = 6) || decide (kd ab n ≠ 0))

theorem rst_iff (ab : Bool) (n : Int) : rst ab n = true ↔ ny 3762 ≤ n ∧ n < ny 10000 ∧ (n % 7 = 6 ∨ kd ab n ≠ 0) := by
  unfold rst
  simp [and_assoc]

theorem rst_low (ab : Bool) (n : Int) (h : n < ny 3762) : rst ab n = false := by
  cases e : rst ab n
  · rfl
  · have := (rst_iff ab n).1 e; omega

theorem rst_high (ab : Bool) (n : Int) (h : ny 10000 ≤ n) : rst ab n = false := by
  cases e : rst ab n
  · rfl
  · have := (rst_iff ab n).1 e; omega

/-- Where a feast's day lies. -/
theorem kd_place (ab : Bool) (n : Int) (h1 : ny 3762 ≤ n) (h2 : n < ny 10000) (h : kd ab n ≠ 0) : ∃ y l : Int, 353 ≤ l ∧ y ≤ n ∧ n < y + l ∧ (∃ g, 3762 ≤ g ∧ g ≤ 9999 ∧ y = ny g ∧ l = yl g) ∧
    (n = y ∨ n = y + 1 ∨ n = y + 9 ∨ n = y + 14 ∨ n = y + 15 ∨ n = y + 21 ∨ n = y + 22 ∨ n = y + l - 163 ∨ n = y + l - 162 ∨ n = y + l - 157 ∨ n = y + l - 156 ∨ n = y + l - 113 ∨ n = y + l - 112) := by
  obtain ⟨g, x1, x2, x3, x4⟩ := year_of n h1 h2
  have k := ny_next g
  have b := yl_bd g
  refine ⟨ny g, yl g, b.1, x3, by omega, ⟨g, x1, x2, rfl, rfl⟩, ?_⟩
  rw [kd_in ab n g x1 x2 x3 x4] at h
  unfold fp at h
  revert h
  cases ab <;> simp <;> (repeat' split) <;> omega

/-- Of three days of feasts in a row there is none. -/
theorem no_three (ab : Bool) (a b c : Int) (h1 : a < b) (h2 : b < c) (h3 : c ≤ a + 3) (ia : ny 3762 ≤ a) (ic : c < ny 10000) (ka : kd ab a ≠ 0) (kb : kd ab b ≠ 0) (kc : kd ab c ≠ 0) : False := by
  obtain ⟨y, l, l1, y1, y2, ⟨g, g1, g2, rfl, rfl⟩, p⟩ := kd_place ab a ia (by omega) ka
  obtain ⟨y', l', l1', y1', y2', ⟨g', g1', g2', rfl, rfl⟩, p'⟩ := kd_place ab b (by omega) (by omega) kb
  obtain ⟨y'', l'', l1'', y1'', y2'', ⟨g'', g1'', g2'', rfl, rfl⟩, p''⟩ := kd_place ab c (by omega) ic kc
  have n1 := ny_next g
  have n2 := ny_next g'
  have n3 := ny_next g''
  have m1 : ny g' ≤ a ∨ a < ny g' := by omega
  have e1 : g' = g := by
    by_cases x : ny g' ≤ a
    · exact year_one a g g' y1 (by omega) x (by omega)
    · exfalso
      by_cases z : g' ≤ g
      · have := ny_mono g' g z; omega
      · have := ny_mono (g + 1) g' (by omega); omega
  have e2 : g'' = g := by
    by_cases x : ny g'' ≤ a
    · exact year_one a g g'' y1 (by omega) x (by omega)
    · exfalso
      by_cases z : g'' ≤ g
      · have := ny_mono g'' g z; omega
      · have := ny_mono (g + 1) g'' (by omega); omega
  subst e1
  subst e2
  omega

/-- NO MORE THAN THREE DAYS OF REST TOUCH. -/
theorem no_four (ab : Bool) (n : Int) (h0 : rst ab n = true) (h1 : rst ab (n + 1) = true) (h2 : rst ab (n + 2) = true) (h3 : rst ab (n + 3) = true) : False := by
  rw [rst_iff] at h0 h1 h2 h3
  obtain ⟨a0, b0, c0⟩ := h0
  obtain ⟨a1, b1, c1⟩ := h1
  obtain ⟨a2, b2, c2⟩ := h2
  obtain ⟨a3, b3, c3⟩ := h3
  by_cases k0 : kd ab n ≠ 0
  · by_cases k1 : kd ab (n + 1) ≠ 0
    · by_cases k2 : kd ab (n + 2) ≠ 0
      · exact no_three ab _ _ _ (by omega) (by omega) (by omega) a0 b2 k0 k1 k2
      · by_cases k3 : kd ab (n + 3) ≠ 0
        · exact no_three ab _ _ _ (by omega) (by omega) (by omega) a0 b3 k0 k1 k3
        · omega
    · by_cases k2 : kd ab (n + 2) ≠ 0
      · by_cases k3 : kd ab (n + 3) ≠ 0
        · exact no_three ab _ _ _ (by omega) (by omega) (by omega) a0 b3 k0 k2 k3
        · omega
      · omega
  · by_cases k1 : kd ab (n + 1) ≠ 0
    · by_cases k2 : kd ab (n + 2) ≠ 0
      · by_cases k3 : kd ab (n + 3) ≠ 0
        · exact no_three ab _ _ _ (by omega) (by omega) (by omega) a1 b3 k1 k2 k3
        · omega
      · omega
    · omega

/-- The row of the feasts among the first k days from y on. -/
noncomputable def ls (ab : Bool) (y : Int) : Nat → List (Int × Int)
  | 0 => []
  | k + 1 => if kd ab (y + k) = 0 then ls ab y k else ls ab y k ++ [(kd ab (y + k), y + k)]

theorem ls_miss (ab : Bool) (y : Int) (k : Nat) (h : kd ab (y + k) = 0) : ls ab y (k + 1) = ls ab y k := by simp [ls, h]
theorem ls_hit (ab : Bool) (y : Int) (k : Nat) (h : kd ab (y + k) ≠ 0) : ls ab y (k + 1) = ls ab y k ++ [(kd ab (y + k), y + k)] := by simp [ls, h]

theorem ls_skip (ab : Bool) (y : Int) (a n : Nat) (h : ∀ i : Nat, a ≤ i → i < a + n → kd ab (y + i) = 0) : ls ab y (a + n) = ls ab y a := by
  induction n with
  | zero => rfl
  | succ n ih =>
    rw [← ih (fun i i1 i2 => h i i1 (by omega))]
    exact ls_miss ab y (a + n) (h _ (by omega) (by omega))

theorem ls_to (ab : Bool) (y : Int) (a b : Nat) (hab : a ≤ b) (h : ∀ i : Nat, a ≤ i → i < b → kd ab (y + i) = 0) : ls ab y b = ls ab y a := by
  obtain ⟨n, rfl⟩ : ∃ n, b = a + n := ⟨b - a, by omega⟩
  exact ls_skip ab y a n h

theorem ls_length (ab : Bool) (y : Int) (k : Nat) : (ls ab y k).length ≤ k := by
  induction k with
  | zero => simp [ls]
  | succ k ih =>
    unfold ls
    split
    · omega
    · simp; omega

/-- A year's feasts, each with its day; p: Passover's first. -/
def fl (ab : Bool) (y p : Int) : List (Int × Int) :=
  match ab with
  | false => [(1, y), (1, y + 1), (2, y + 9), (3, y + 14), (4, y + 21), (5, p), (6, p + 6), (7, p + 50)]
  | true => [(1, y), (1, y + 1), (2, y + 9), (3, y + 14), (3, y + 15), (4, y + 21), (4, y + 22), (5, p), (5, p + 1), (6, p + 6), (6, p + 7), (7, p + 50), (7, p + 51)]

set_option maxHeartbeats 2000000 in
theorem ls_all (ab : Bool) (h : Int) (k : Nat) (h1 : 3762 ≤ h) (h2 : h ≤ 9999) (k1 : 280 ≤ (k : Int)) (k2 : (k : Int) ≤ yl h) : ls ab (ny h) k = fl ab (ny h) (ny h + yl h - 163) := by
  have yb := yl_bd h
  obtain ⟨p, hp⟩ : ∃ p : Nat, (p : Int) = yl h - 163 := ⟨(yl h - 163).toNat, by omega⟩
  have K : ∀ i : Nat, (i : Int) < yl h → kd ab (ny h + i) = fp ab (yl h) i := fun i hi => kd_at ab h i h1 h2 (by omega) hi
  have skip : ∀ a b : Nat, a ≤ b → (b : Int) ≤ yl h → (∀ i : Nat, a ≤ i → i < b → fp ab (yl h) i = 0) → ls ab (ny h) b = ls ab (ny h) a := fun a b hab hb hz =>
    ls_to ab (ny h) a b hab (fun i i1 i2 => by rw [K i (by omega)]; exact hz i i1 i2)
  have hit : ∀ (a : Nat) (v : Int), (a : Int) < yl h → fp ab (yl h) a = v → v ≠ 0 → ls ab (ny h) (a + 1) = ls ab (ny h) a ++ [(v, ny h + a)] := fun a v ha hv h0 => by
    have e : kd ab (ny h + a) = v := by rw [K a ha]; exact hv
    rw [ls_hit ab (ny h) a (by rw [e]; exact h0), e]
  have q2 : ls ab (ny h) 2 = [(1, ny h), (1, ny h + 1)] := by
    rw [hit 1 1 (by omega) (by simp [fp]) (by omega), hit 0 1 (by omega) (by simp [fp]) (by omega)]
    simp [ls]
  have q9 := skip 2 9 (by omega) (by omega) (fun i _ _ => fp_zero ab _ _ (by omega) (by omega) (by omega) (by omega) (by omega) (by omega) (by omega) (by omega) (by omega) (by omega) (by omega) (by omega) (by omega))
  have q10 := hit 9 2 (by omega) (by simp [fp]) (by omega)
  have q14 := skip 10 14 (by omega) (by omega) (fun i _ _ => fp_zero ab _ _ (by omega) (by omega) (by omega) (by omega) (by omega) (by omega) (by omega) (by omega) (by omega) (by omega) (by omega) (by omega) (by omega))
  have q15 := hit 14 3 (by omega) (by simp [fp]) (by omega)
  have p1 : fp ab (yl h) p = 5 := by unfold fp; rw [if_neg (by omega), if_neg (by omega), if_neg (by omega), if_neg (by omega), if_pos (by omega)]
  have p7 : fp ab (yl h) ((p + 6 : Nat) : Int) = 6 := by unfold fp; rw [if_neg (by omega), if_neg (by omega), if_neg (by omega), if_neg (by omega), if_neg (by omega), if_pos (by omega)]
  have p51 : fp ab (yl h) ((p + 50 : Nat) : Int) = 7 := by unfold fp; rw [if_neg (by omega), if_neg (by omega), if_neg (by omega), if_neg (by omega), if_neg (by omega), if_neg (by omega), if_pos (by omega)]
  have r1 := hit p 5 (by omega) p1 (by omega)
  have r7 := hit (p + 6) 6 (by omega) p7 (by omega)
  have r51 := hit (p + 50) 7 (by omega) p51 (by omega)
  have e0 : ny h + yl h - 163 = ny h + p := by omega
  rw [e0]
  cases ab with
  | false =>
    have z : ∀ a b : Nat, a ≤ b → (b : Int) ≤ yl h → (∀ i : Nat, a ≤ i → i < b → (i : Int) ≠ 0 ∧ (i : Int) ≠ 1 ∧ (i : Int) ≠ 9 ∧ (i : Int) ≠ 14 ∧ (i : Int) ≠ 21 ∧ (i : Int) ≠ yl h - 163 ∧ (i : Int) ≠ yl h - 157 ∧ (i : Int) ≠ yl h - 113) → ls false (ny h) b = ls false (ny h) a :=
      fun a b hab hb hz => skip a b hab hb (fun i i1 i2 => by obtain ⟨x0, x1, x2, x3, x4, x5, x6, x7⟩ := hz i i1 i2; exact fp_zero false _ _ x0 x1 x2 x3 (by simp) x4 (by simp) x5 (by simp) x6 (by simp) x7 (by simp))
    have q21 := z 15 21 (by omega) (by omega) (fun i _ _ => by omega)
    have q22 := hit 21 4 (by omega) (by simp [fp]) (by omega)
    have qp := z 22 p (by omega) (by omega) (fun i _ _ => by omega)
    have qp6 := z (p + 1) (p + 6) (by omega) (by omega) (fun i _ _ => by omega)
    have qp50 := z (p + 6 + 1) (p + 50) (by omega) (by omega) (fun i _ _ => by omega)
    have qk := z (p + 50 + 1) k (by omega) (by omega) (fun i _ _ => by omega)
    rw [qk, r51, qp50, r7, qp6, r1, qp, q22, q21, q15, q14, q10, q9, q2]
    simp [fl]
    omega
  | true =>
    have z : ∀ a b : Nat, a ≤ b → (b : Int) ≤ yl h → (∀ i : Nat, a ≤ i → i < b → (i : Int) ≠ 0 ∧ (i : Int) ≠ 1 ∧ (i : Int) ≠ 9 ∧ (i : Int) ≠ 14 ∧ (i : Int) ≠ 15 ∧ (i : Int) ≠ 21 ∧ (i : Int) ≠ 22 ∧ (i : Int) ≠ yl h - 163 ∧ (i : Int) ≠ yl h - 162 ∧ (i : Int) ≠ yl h - 157 ∧ (i : Int) ≠ yl h - 156 ∧ (i : Int) ≠ yl h - 113 ∧ (i : Int) ≠ yl h - 112) → ls true (ny h) b = ls true (ny h) a :=
      fun a b hab hb hz => skip a b hab hb (fun i i1 i2 => by obtain ⟨x0, x1, x2, x3, x4, x5, x6, x7, x8, x9, x10, x11, x12⟩ := hz i i1 i2; exact fp_zero true _ _ x0 x1 x2 x3 (fun _ => x4) x5 (fun _ => x6) x7 (fun _ => x8) x9 (fun _ => x10) x11 (fun _ => x12))
    have q16 := hit 15 3 (by omega) (by simp [fp]) (by omega)
    have q21 := z 16 21 (by omega) (by omega) (fun i _ _ => by omega)
    have q22 := hit 21 4 (by omega) (by simp [fp]) (by omega)
    have q23 := hit 22 4 (by omega) (by simp [fp]) (by omega)
    have p2 : fp true (yl h) ((p + 1 : Nat) : Int) = 5 := by unfold fp; rw [if_neg (by omega), if_neg (by omega), if_neg (by omega), if_neg (by omega), if_pos (by right; exact ⟨rfl, by omega⟩)]
    have p8 : fp true (yl h) ((p + 7 : Nat) : Int) = 6 := by unfold fp; rw [if_neg (by omega), if_neg (by omega), if_neg (by omega), if_neg (by omega), if_neg (by omega), if_pos (by right; exact ⟨rfl, by omega⟩)]
    have p52 : fp true (yl h) ((p + 51 : Nat) : Int) = 7 := by unfold fp; rw [if_neg (by omega), if_neg (by omega), if_neg (by omega), if_neg (by omega), if_neg (by omega), if_neg (by omega), if_pos (by right; exact ⟨rfl, by omega⟩)]
    have r2 := hit (p + 1) 5 (by omega) p2 (by omega)
    have r8 := hit (p + 7) 6 (by omega) p8 (by omega)
    have r52 := hit (p + 51) 7 (by omega) p52 (by omega)
    have qp := z 23 p (by omega) (by omega) (fun i _ _ => by omega)
    have qp6 := z (p + 1 + 1) (p + 6) (by omega) (by omega) (fun i _ _ => by omega)
    have qp50 := z (p + 7 + 1) (p + 50) (by omega) (by omega) (fun i _ _ => by omega)
    have qk := z (p + 51 + 1) k (by omega) (by omega) (fun i _ _ => by omega)
    rw [qk, r52, r51, qp50, r8, r7, qp6, r2, r1, qp, q23, q22, q21, q16, q15, q14, q10, q9, q2]
    simp [fl]
    omega

end Go.Proofs.YtihdijkplmfhfaaGreatDoor.Fe

/- The program's map of the feasts' days: how a look-up at a date answers, behind stores in whatever order. Conditions: as each theorem says. -/
namespace Go.Proofs.YtihdijkplmfhfaaGreatDoor.Feast
set_option maxRecDepth 100000
open Go.ChangeShapes Go.WideShapes Go.ChangeAt Go.RowKit
open Go.Proofs.YtihdijkplmfhfaaGreatDoor.Divs Go.Proofs.YtihdijkplmfhfaaGreatDoor.Grow Go.Proofs.YtihdijkplmfhfaaGreatDoor.Mol Go.Proofs.YtihdijkplmfhfaaGreatDoor.Hebrew
open Go.Proofs.YtihdijkplmfhfaaGreatDoor.Year (lh mh pt md mp p1 p2 po dl ny yl)
open Go.Proofs.YtihdijkplmfhfaaGreatDoor.Heb (hd ha ups)
open Go.Proofs.YtihdijkplmfhfaaGreatDoor.Fe

/-- A key of the map. -/
def kv (m d : Int) : Value := .agg #[.int .i64 m, .int .i64 d]

/-- The entries are these, in this order. -/
def Tab (es : List MapEntry) (L : List (Int × Int × Int)) : Prop := es.map (fun e => (e.key, e.val)) = L.map (fun x => (kv x.1 x.2.1, Value.int .i64 x.2.2))

/-- What such a row of entries answers. -/
def look : List (Int × Int × Int) → Int → Int → Int
  | [], _, _ => 0
  | x :: r, m, d => if m = x.1 ∧ d = x.2.1 then x.2.2 else look r m d

theorem look_snoc (L : List (Int × Int × Int)) (m0 d0 k : Int) (h : look L m0 d0 = 0) (hL : ∀ x ∈ L, x.2.2 ≠ 0) (m d : Int) : look (L ++ [(m0, d0, k)]) m d = if m = m0 ∧ d = d0 then k else look L m d := by
  induction L with
  | nil => simp [look]
  | cons x r ih =>
    simp only [look] at h
    simp only [List.cons_append, look]
    by_cases c : m0 = x.1 ∧ d0 = x.2.1
    · rw [if_pos c] at h
      exact absurd h (hL x (by simp))
    · rw [if_neg c] at h
      rw [ih h (fun y hy => hL y (by simp [hy]))]
      by_cases e : m = x.1 ∧ d = x.2.1
      · rw [if_pos e, if_neg (by rintro ⟨rfl, rfl⟩; exact c e), if_pos e]
      · rw [if_neg e, if_neg e]

theorem equal_any (m d m' d' : Int) (w : World) : (Op.equal 225 (kv m d) (kv m' d')).run Tryz.prog w = .ok (decide (m = m' ∧ d = d')) w := by
  have u3 := Tryz.underlying3
  have a3 := Tryz.isAgg3
  have z3 := Tryz.sizeOf3
  have hS : Tryz.prog.underlying 225 = some (.struct (Tryz.prog.fieldsOf 225)) := by kernel_rfl
  have hp : Tryz.prog.stoodInHeld 225 = false := by kernel_rfl
  unfold Op.equal kv
  rw [show Op.maxDepth = 9999 + 1 from rfl, run_equalIn_agg w 9999 225 _ _ hS hp]
  simp only [Program.fieldsOf, Tryz.underlying225]
  go_simp
  by_cases h1 : m = m' <;> by_cases h2 : d = d' <;> simp [h1, h2]

theorem check_any (m d : Int) (b : Bool) (w : World) : (Instr.checkKey b 10000 225 (kv m d)).run Tryz.prog w = .ok () w := by
  have u3 := Tryz.underlying3
  have a3 := Tryz.isAgg3
  have z3 := Tryz.sizeOf3
  have c3 : ∀ (v : Int) (w : World), (Instr.checkKey b 9999 3 (.int .i64 v)).run Tryz.prog w = .ok () w := fun v w => by
    rw [show (9999 : Nat) = 9998 + 1 from rfl, Instr.checkKey]
    simp only [Sem.run_bind, run_underlying Tryz.underlying3, Result.andThen_ok, Sem.run_pure]
  unfold kv
  rw [show (10000 : Nat) = 9999 + 1 from rfl, Instr.checkKey]
  simp only [Sem.run_bind, run_underlying Tryz.underlying225, Result.andThen_ok]
  go_simp

theorem asking_any (m d : Int) (w : World) (es : List MapEntry) (L : List (Int × Int × Int)) (i : Nat) (h : Tab es L) (hL : ∀ x ∈ L, x.2.2 ≠ 0) :
    ∃ r, (Instr.findAsking 225 (kv m d) es i).run Tryz.prog w = .ok r w ∧ ((look L m d = 0 ∧ r = none) ∨ (look L m d ≠ 0 ∧ ∃ j, r = some (j, .int .i64 (look L m d)))) := by
  induction L generalizing es i with
  | nil =>
    obtain rfl : es = [] := by simpa [Tab] using h
    exact ⟨none, by simp [Instr.findAsking], .inl ⟨rfl, rfl⟩⟩
  | cons x r ih =>
    cases es with
    | nil => simp [Tab] at h
    | cons e es =>
      simp only [Tab, List.map_cons, List.cons.injEq, Prod.mk.injEq] at h
      obtain ⟨⟨hk, hv⟩, hr⟩ := h
      have q := equal_any m d x.1 x.2.1 w
      simp only [look]
      by_cases c : m = x.1 ∧ d = x.2.1
      · rw [if_pos c]
        rw [decide_eq_true c] at q
        exact ⟨some (i, .int .i64 x.2.2), by simp [Instr.findAsking, hk, q, hv], .inr ⟨hL x (by simp), i, rfl⟩⟩
      · rw [if_neg c]
        rw [decide_eq_false c] at q
        obtain ⟨o, ho, hh⟩ := ih es (i + 1) hr (fun y hy => hL y (by simp [hy]))
        exact ⟨o, by simp [Instr.findAsking, hk, q, ho], hh⟩

theorem find_any (m d : Int) (w : World) (es : List MapEntry) (L : List (Int × Int × Int)) (h : Tab es L) (hL : ∀ x ∈ L, x.2.2 ≠ 0) :
    ∃ r, (Instr.findKey 225 (kv m d) es).run Tryz.prog w = .ok r w ∧ ((look L m d = 0 ∧ r = none) ∨ (look L m d ≠ 0 ∧ ∃ j, r = some (j, .int .i64 (look L m d)))) := by
  obtain ⟨r, h1, h2⟩ := asking_any m d w es L 0 h hL
  unfold Instr.findKey
  simp only [Sem.run_bind, run_underlying Tryz.underlying225, Result.andThen_ok]
  cases es with
  | nil =>
    refine ⟨r, ?_, h2⟩
    simp [Instr.findAsking] at h1
    simp [Instr.findNow, h1]
  | cons e es =>
    refine ⟨r, ?_, h2⟩
    rw [← h1]
    rfl

/-- Block b is a map that answers by f. -/
def FMap (w : World) (b : Nat) (f : Int → Int → Int) : Prop :=
  ∃ (es : Array MapEntry) (clock : Nat) (L : List (Int × Int × Int)), w.heap[b]? = some (.map es clock) ∧ Tab es.toList L ∧ (∀ x ∈ L, x.2.2 ≠ 0) ∧ ∀ m d, look L m d = f m d

theorem FMap.lt {w : World} {b : Nat} {f : Int → Int → Int} (h : FMap w b f) : b < w.heap.size := by
  obtain ⟨es, clock, L, hb, _⟩ := h
  exact (Array.getElem?_eq_some_iff.1 hb).1

theorem FMap.same {w w' : World} {b : Nat} {f : Int → Int → Int} (h : FMap w b f) (e : w'.heap[b]? = w.heap[b]?) : FMap w' b f := by
  obtain ⟨es, clock, L, hb, h2⟩ := h
  exact ⟨es, clock, L, e.trans hb, h2⟩

theorem FMap.later {w w' : World} {b : Nat} {f : Int → Int → Int} (h : FMap w b f) (g : Later w w') : FMap w' b f := h.same (g.2.2.2 b h.lt)

theorem FMap.new (w : World) : FMap (w.alloc (.map #[] 0)) w.heap.size (fun _ _ => 0) :=
  ⟨#[], 0, [], World.alloc_heap_new w _, by simp [Tab], by simp, fun _ _ => rfl⟩

/-- A look-up. -/
theorem FMap.lookup {w : World} {b : Nat} {f : Int → Int → Int} (h : FMap w b f) (m d : Int) :
    (Instr.lookup 222 (.map (some b)) (.agg #[.int .i64 m, .int .i64 d]) false).run Tryz.prog w = .ok (.int .i64 (f m d)) w := by
  obtain ⟨es, clock, L, hb, hT, hL, hf⟩ := h
  obtain ⟨r, h1, h2⟩ := find_any m d w es.toList L hT hL
  have hc := check_any m d es.isEmpty w
  have hz := Tryz.zeroValue3 w
  rw [← hf m d]
  unfold Instr.lookup
  unfold kv at h1 hc
  rcases h2 with ⟨e, rfl⟩ | ⟨e, j, rfl⟩
  · rw [e]
    simp [run_underlying Tryz.underlying222, MapKept.run_getObj_map hb, hc, h1, hz]
  · simp [run_underlying Tryz.underlying222, MapKept.run_getObj_map hb, hc, h1]

/-- A store at a date that is not there. -/
theorem FMap.update {w : World} {b : Nat} {f : Int → Int → Int} (h : FMap w b f) (m d k : Int) (h0 : f m d = 0) (k0 : k ≠ 0) :
    ∃ w', (Instr.mapUpdate 222 (.map (some b)) (.agg #[.int .i64 m, .int .i64 d]) (.int .i64 k)).run Tryz.prog w = .ok () w' ∧ FMap w' b (fun m' d' => if m' = m ∧ d' = d then k else f m' d') ∧ w.grownBy w' (some b) := by
  obtain ⟨es, clock, L, hb, hT, hL, hf⟩ := h
  obtain ⟨r, h1, h2⟩ := find_any m d w es.toList L hT hL
  have hc := check_any m d false w
  have hz : look L m d = 0 := by rw [hf]; exact h0
  obtain ⟨_, rfl⟩ | ⟨e, _⟩ := h2
  · have hb' := (Array.getElem?_eq_some_iff.1 hb).1
    refine ⟨w.putObj b (.map (es.push { key := kv m d, val := .int .i64 k, born := clock }) (clock + 1)), ?_, ⟨_, _, L ++ [(m, d, k)], World.putObj_heap_same hb', ?_, ?_, fun m' d' => ?_⟩, grownBy_putObj' w b _⟩
    · unfold Instr.mapUpdate
      unfold kv at h1 hc
      simp [run_underlying Tryz.underlying222, MapKept.run_getObj_map hb, MapKept.run_setObj_map _ hb, hc, h1, kv, World.putObj]
    · unfold Tab at hT ⊢
      simp [hT]
    · intro x hx
      rcases List.mem_append.1 hx with hx | hx
      · exact hL x hx
      · obtain rfl : x = (m, d, k) := by simpa using hx
        exact k0
    · rw [look_snoc L m d k hz hL, hf]
  · exact absurd hz e

end Go.Proofs.YtihdijkplmfhfaaGreatDoor.Feast

/- The program's map of the feasts' days, as it is made: its literal, whose stores come in whatever order, and what is stored behind it abroad. No condition. -/
namespace Go.Proofs.YtihdijkplmfhfaaGreatDoor.Feast
set_option maxRecDepth 100000
open Go.ChangeShapes Go.WideShapes Go.ChangeAt Go.RowKit
open Go.Proofs.YtihdijkplmfhfaaGreatDoor.Divs Go.Proofs.YtihdijkplmfhfaaGreatDoor.Grow Go.Proofs.YtihdijkplmfhfaaGreatDoor.Mol Go.Proofs.YtihdijkplmfhfaaGreatDoor.Hebrew
open Go.Proofs.YtihdijkplmfhfaaGreatDoor.Fe

/-- Whatever order is picked, an invariant over what has come up serves. -/
theorem wpAny_inv {P : Program} {md : Region.Mode} {ops : Array Oper} {Q : Exit → Act → World → Prop} (I : Nat → Array Bool → Act → World → Prop)
    (h0 : ∀ fuel listed a w, I fuel listed a w → Region.ready md ops listed = [] → Q .normal a w) (hz : ∀ listed a w, I 0 listed a w → Region.ready md ops listed = [])
    (hs : ∀ fuel listed a w i, I (fuel + 1) listed a w → i ∈ Region.ready md ops listed → wpOp P ops Q i (fun a' w' => I fuel (listed.setIfInBounds i true) a' w') a w) :
    ∀ fuel listed a w, I fuel listed a w → wpAny P md ops Q fuel listed a w := by
  intro fuel
  induction fuel with
  | zero => exact fun listed a w h => ⟨hz listed a w h, h0 _ _ _ _ h (hz listed a w h)⟩
  | succ fuel ih => exact fun listed a w h => ⟨fun e => h0 _ _ _ _ h e, fun i hi => wpOp_mono (fun a' w' h' => ih _ _ _ h') (hs _ _ _ _ i h hi)⟩

/-- What the map answers once these of its entries are stored. -/
def f8 (b1 b2 b3 b4 b5 b6 b7 b8 : Bool) (m d : Int) : Int := if b1 = true ∧ m = 1 ∧ d = 1 then 1 else if b2 = true ∧ m = 1 ∧ d = 2 then 1 else if b3 = true ∧ m = 1 ∧ d = 10 then 2 else if b4 = true ∧ m = 1 ∧ d = 15 then 3 else if b5 = true ∧ m = 1 ∧ d = 22 then 4 else if b6 = true ∧ m = 8 ∧ d = 15 then 5 else if b7 = true ∧ m = 8 ∧ d = 21 then 6 else if b8 = true ∧ m = 10 ∧ d = 6 then 7 else 0

def off (b : Bool) : Nat := if b then 0 else 1

def cb (b1 b2 b3 b4 b5 b6 b7 b8 : Bool) (i : Nat) : Bool := (i == 2 && !b1) || (i == 4 && !b2) || (i == 6 && !b3) || (i == 8 && !b4) || (i == 10 && !b5) || (i == 12 && !b6) || (i == 14 && !b7) || (i == 16 && !b8) || (i == 17 && b1 && b2 && b3 && b4 && b5 && b6 && b7 && b8)

theorem f8_all : f8 true true true true true true true true = fk false := by
  funext m d
  unfold f8 fk
  simp
  repeat' split
  all_goals omega

theorem f8_1 (b2 b3 b4 b5 b6 b7 b8 : Bool) : (fun m d => if m = 1 ∧ d = 1 then 1 else f8 false b2 b3 b4 b5 b6 b7 b8 m d) = f8 true b2 b3 b4 b5 b6 b7 b8 := by
  funext m d
  by_cases h : m = 1 ∧ d = 1
  · obtain ⟨rfl, rfl⟩ := h
    simp [f8]
  · simp [f8, h]

theorem f8z_1 (b2 b3 b4 b5 b6 b7 b8 : Bool) : f8 false b2 b3 b4 b5 b6 b7 b8 1 1 = 0 := by simp [f8]

theorem f8_2 (b1 b3 b4 b5 b6 b7 b8 : Bool) : (fun m d => if m = 1 ∧ d = 2 then 1 else f8 b1 false b3 b4 b5 b6 b7 b8 m d) = f8 b1 true b3 b4 b5 b6 b7 b8 := by
  funext m d
  by_cases h : m = 1 ∧ d = 2
  · obtain ⟨rfl, rfl⟩ := h
    simp [f8]
  · simp [f8, h]

theorem f8z_2 (b1 b3 b4 b5 b6 b7 b8 : Bool) : f8 b1 false b3 b4 b5 b6 b7 b8 1 2 = 0 := by simp [f8]

theorem f8_3 (b1 b2 b4 b5 b6 b7 b8 : Bool) : (fun m d => if m = 1 ∧ d = 10 then 2 else f8 b1 b2 false b4 b5 b6 b7 b8 m d) = f8 b1 b2 true b4 b5 b6 b7 b8 := by
  funext m d
  by_cases h : m = 1 ∧ d = 10
  · obtain ⟨rfl, rfl⟩ := h
    simp [f8]
  · simp [f8, h]

theorem f8z_3 (b1 b2 b4 b5 b6 b7 b8 : Bool) : f8 b1 b2 false b4 b5 b6 b7 b8 1 10 = 0 := by simp [f8]

theorem f8_4 (b1 b2 b3 b5 b6 b7 b8 : Bool) : (fun m d => if m = 1 ∧ d = 15 then 3 else f8 b1 b2 b3 false b5 b6 b7 b8 m d) = f8 b1 b2 b3 true b5 b6 b7 b8 := by
  funext m d
  by_cases h : m = 1 ∧ d = 15
  · obtain ⟨rfl, rfl⟩ := h
    simp [f8]
  · simp [f8, h]

theorem f8z_4 (b1 b2 b3 b5 b6 b7 b8 : Bool) : f8 b1 b2 b3 false b5 b6 b7 b8 1 15 = 0 := by simp [f8]

theorem f8_5 (b1 b2 b3 b4 b6 b7 b8 : Bool) : (fun m d => if m = 1 ∧ d = 22 then 4 else f8 b1 b2 b3 b4 false b6 b7 b8 m d) = f8 b1 b2 b3 b4 true b6 b7 b8 := by
  funext m d
  by_cases h : m = 1 ∧ d = 22
  · obtain ⟨rfl, rfl⟩ := h
    simp [f8]
  · simp [f8, h]

theorem f8z_5 (b1 b2 b3 b4 b6 b7 b8 : Bool) : f8 b1 b2 b3 b4 false b6 b7 b8 1 22 = 0 := by simp [f8]

theorem f8_6 (b1 b2 b3 b4 b5 b7 b8 : Bool) : (fun m d => if m = 8 ∧ d = 15 then 5 else f8 b1 b2 b3 b4 b5 false b7 b8 m d) = f8 b1 b2 b3 b4 b5 true b7 b8 := by
  funext m d
  by_cases h : m = 8 ∧ d = 15
  · obtain ⟨rfl, rfl⟩ := h
    simp [f8]
  · simp [f8, h]

theorem f8z_6 (b1 b2 b3 b4 b5 b7 b8 : Bool) : f8 b1 b2 b3 b4 b5 false b7 b8 8 15 = 0 := by simp [f8]

theorem f8_7 (b1 b2 b3 b4 b5 b6 b8 : Bool) : (fun m d => if m = 8 ∧ d = 21 then 6 else f8 b1 b2 b3 b4 b5 b6 false b8 m d) = f8 b1 b2 b3 b4 b5 b6 true b8 := by
  funext m d
  by_cases h : m = 8 ∧ d = 21
  · obtain ⟨rfl, rfl⟩ := h
    simp [f8]
  · simp [f8, h]

theorem f8z_7 (b1 b2 b3 b4 b5 b6 b8 : Bool) : f8 b1 b2 b3 b4 b5 b6 false b8 8 21 = 0 := by simp [f8]

theorem f8_8 (b1 b2 b3 b4 b5 b6 b7 : Bool) : (fun m d => if m = 10 ∧ d = 6 then 7 else f8 b1 b2 b3 b4 b5 b6 b7 false m d) = f8 b1 b2 b3 b4 b5 b6 b7 true := by
  funext m d
  by_cases h : m = 10 ∧ d = 6
  · obtain ⟨rfl, rfl⟩ := h
    simp [f8]
  · simp [f8, h]

theorem f8z_8 (b1 b2 b3 b4 b5 b6 b7 : Bool) : f8 b1 b2 b3 b4 b5 b6 b7 false 10 6 = 0 := by simp [f8]

theorem fk_true : fk true = (fun m d => if m = 10 ∧ d = 7 then 7 else if m = 8 ∧ d = 22 then 6 else if m = 8 ∧ d = 16 then 5 else if m = 1 ∧ d = 23 then 4 else if m = 1 ∧ d = 16 then 3 else fk false m d) := by
  funext m d
  by_cases h1 : m = 1
  · subst h1
    simp [fk]
    repeat' split
    all_goals omega
  · by_cases h8 : m = 8
    · subst h8
      simp [fk]
      repeat' split
      all_goals omega
    · by_cases h10 : m = 10
      · subst h10
        simp [fk]
        repeat' split
        all_goals omega
      · simp [fk, h1, h8, h10]

set_option maxRecDepth 100000 in
set_option maxHeartbeats 8000000 in
theorem feasts_any (ab : Bool) (w : World) : Calls Tryz.prog 209 #[.bool ab] w fun e w' => e = .returned (.map (some w.heap.size)) ∧ FMap w' w.heap.size (fk ab) ∧ Later w w' := by
  go_enter Tryz.func209, Tryz.ntmps209
  go_wp2
  refine wp_region_any (by kernel_rfl) ?_
  refine wpAny_take (i := 1) (v := kv 1 1) rfl (by kernel_rfl) (by kernel_rfl) (by kernel_rfl) (fun _ _ _ h => h) (Or.inl ⟨by rfl, by intro w; go_simp; rfl⟩) ?_
  refine wpAny_take (i := 3) (v := kv 1 2) rfl (by kernel_rfl) (by kernel_rfl) (by kernel_rfl) (fun _ _ _ h => h) (Or.inl ⟨by rfl, by intro w; go_simp; rfl⟩) ?_
  refine wpAny_take (i := 5) (v := kv 1 10) rfl (by kernel_rfl) (by kernel_rfl) (by kernel_rfl) (fun _ _ _ h => h) (Or.inl ⟨by rfl, by intro w; go_simp; rfl⟩) ?_
  refine wpAny_take (i := 7) (v := kv 1 15) rfl (by kernel_rfl) (by kernel_rfl) (by kernel_rfl) (fun _ _ _ h => h) (Or.inl ⟨by rfl, by intro w; go_simp; rfl⟩) ?_
  refine wpAny_take (i := 9) (v := kv 1 22) rfl (by kernel_rfl) (by kernel_rfl) (by kernel_rfl) (fun _ _ _ h => h) (Or.inl ⟨by rfl, by intro w; go_simp; rfl⟩) ?_
  refine wpAny_take (i := 11) (v := kv 8 15) rfl (by kernel_rfl) (by kernel_rfl) (by kernel_rfl) (fun _ _ _ h => h) (Or.inl ⟨by rfl, by intro w; go_simp; rfl⟩) ?_
  refine wpAny_take (i := 13) (v := kv 8 21) rfl (by kernel_rfl) (by kernel_rfl) (by kernel_rfl) (fun _ _ _ h => h) (Or.inl ⟨by rfl, by intro w; go_simp; rfl⟩) ?_
  refine wpAny_take (i := 15) (v := kv 10 6) rfl (by kernel_rfl) (by kernel_rfl) (by kernel_rfl) (fun _ _ _ h => h) (Or.inl ⟨by rfl, by intro w; go_simp; rfl⟩) ?_
  refine wpAny_ready (rs := [0]) (by kernel_rfl) (by simp) (AllReady.cons rfl (fun K hK => ?_) AllReady.nil)
  go_simp
  refine hK _ _ ?_
  clear hK K
  refine wpAny_inv (fun fuel listed a' w' =>
    (∃ b1 b2 b3 b4 b5 b6 b7 b8 : Bool, fuel = off b1 + off b2 + off b3 + off b4 + off b5 + off b6 + off b7 + off b8 + 2 ∧ listed = #[true, true, b1, true, b2, true, b3, true, b4, true, b5, true, b6, true, b7, true, b8, false, false] ∧ a' = { tmps := #[.bool ab, undef, .map none, undef, .map (some w.heap.size), kv 1 1, kv 1 2, kv 1 10, kv 1 15, kv 1 22, kv 8 15, kv 8 21, kv 10 6, undef, undef, undef, undef, undef, undef, undef, undef, undef, undef, undef, undef, undef], defers := [] } ∧ FMap w' w.heap.size (f8 b1 b2 b3 b4 b5 b6 b7 b8) ∧ Later w w') ∨
    (fuel = 1 ∧ listed = #[true, true, true, true, true, true, true, true, true, true, true, true, true, true, true, true, true, true, false] ∧ a' = { tmps := #[.bool ab, undef, .map none, undef, .map (some w.heap.size), kv 1 1, kv 1 2, kv 1 10, kv 1 15, kv 1 22, kv 8 15, kv 8 21, kv 10 6, .map (some w.heap.size), undef, undef, undef, undef, undef, undef, undef, undef, undef, undef, undef, undef], defers := [] } ∧ FMap w' w.heap.size (fk false) ∧ Later w w') ∨
    (fuel = 0 ∧ listed = #[true, true, true, true, true, true, true, true, true, true, true, true, true, true, true, true, true, true, true] ∧ a' = { tmps := #[.bool ab, undef, .map none, .map (some w.heap.size), .map (some w.heap.size), kv 1 1, kv 1 2, kv 1 10, kv 1 15, kv 1 22, kv 8 15, kv 8 21, kv 10 6, .map (some w.heap.size), undef, undef, undef, undef, undef, undef, undef, undef, undef, undef, undef, undef], defers := [] } ∧ FMap w' w.heap.size (fk false) ∧ Later w w')) ?h0 ?hz ?hs _ _ _ _ ?st
  case st => exact .inl ⟨false, false, false, false, false, false, false, false, rfl, rfl, rfl, (FMap.new w.drew).same rfl, (Later.refl w).put _⟩
  case hz =>
    rintro listed a' w' (⟨b1, b2, b3, b4, b5, b6, b7, b8, hf, _⟩ | ⟨hf, _⟩ | ⟨_, rfl, _⟩)
    · omega
    · omega
    · kernel_rfl
  case hs =>
    rintro fuel listed a' w' i (⟨b1, b2, b3, b4, b5, b6, b7, b8, hf, rfl, rfl, hF, hL⟩ | ⟨hf, rfl, rfl, hF, hL⟩ | ⟨hf, _⟩) hi
    · have hc : (i = 2 ∧ b1 = false) ∨ (i = 4 ∧ b2 = false) ∨ (i = 6 ∧ b3 = false) ∨ (i = 8 ∧ b4 = false) ∨ (i = 10 ∧ b5 = false) ∨ (i = 12 ∧ b6 = false) ∨ (i = 14 ∧ b7 = false) ∨ (i = 16 ∧ b8 = false) ∨ (i = 17 ∧ b1 = true ∧ b2 = true ∧ b3 = true ∧ b4 = true ∧ b5 = true ∧ b6 = true ∧ b7 = true ∧ b8 = true) := by
        have hd : cb b1 b2 b3 b4 b5 b6 b7 b8 i = true := by
          clear hf hF hL
          revert hi
          revert i
          revert b1 b2 b3 b4 b5 b6 b7 b8
          decide +kernel
        clear hi hf hF hL
        simp only [cb, Bool.or_eq_true, Bool.and_eq_true, beq_iff_eq, Bool.not_eq_true', and_assoc, or_assoc] at hd
        exact hd
      clear hi
      rcases hc with ⟨rfl, rfl⟩ | ⟨rfl, rfl⟩ | ⟨rfl, rfl⟩ | ⟨rfl, rfl⟩ | ⟨rfl, rfl⟩ | ⟨rfl, rfl⟩ | ⟨rfl, rfl⟩ | ⟨rfl, rfl⟩ | ⟨rfl, rfl, rfl, rfl, rfl, rfl, rfl, rfl, rfl⟩
      · obtain ⟨W1, r1, F1, g1⟩ := hF.update 1 1 1 (f8z_1 b2 b3 b4 b5 b6 b7 b8) (by omega)
        rw [f8_1 b2 b3 b4 b5 b6 b7 b8] at F1
        have r2 : (Instr.mapUpdate 222 (.map (some w.heap.size)) (kv 1 1) (.int .i64 1)).run Tryz.prog w' = .ok () W1 := r1
        have L1 : Later w W1 := Later.of_below (hL.below.grown g1 hL.size (fun k e => by cases e; exact Nat.le_refl _))
        clear r1 hF hL g1
        refine wpOp_step rfl (fun K hK => ?_)
        go_simp
        exact hK _ _ (.inl ⟨true, b2, b3, b4, b5, b6, b7, b8, by simp only [off] at hf ⊢; simp at hf ⊢; omega, rfl, rfl, F1, L1⟩)
      · obtain ⟨W1, r1, F1, g1⟩ := hF.update 1 2 1 (f8z_2 b1 b3 b4 b5 b6 b7 b8) (by omega)
        rw [f8_2 b1 b3 b4 b5 b6 b7 b8] at F1
        have r2 : (Instr.mapUpdate 222 (.map (some w.heap.size)) (kv 1 2) (.int .i64 1)).run Tryz.prog w' = .ok () W1 := r1
        have L1 : Later w W1 := Later.of_below (hL.below.grown g1 hL.size (fun k e => by cases e; exact Nat.le_refl _))
        clear r1 hF hL g1
        refine wpOp_step rfl (fun K hK => ?_)
        go_simp
        exact hK _ _ (.inl ⟨b1, true, b3, b4, b5, b6, b7, b8, by simp only [off] at hf ⊢; simp at hf ⊢; omega, rfl, rfl, F1, L1⟩)
      · obtain ⟨W1, r1, F1, g1⟩ := hF.update 1 10 2 (f8z_3 b1 b2 b4 b5 b6 b7 b8) (by omega)
        rw [f8_3 b1 b2 b4 b5 b6 b7 b8] at F1
        have r2 : (Instr.mapUpdate 222 (.map (some w.heap.size)) (kv 1 10) (.int .i64 2)).run Tryz.prog w' = .ok () W1 := r1
        have L1 : Later w W1 := Later.of_below (hL.below.grown g1 hL.size (fun k e => by cases e; exact Nat.le_refl _))
        clear r1 hF hL g1
        refine wpOp_step rfl (fun K hK => ?_)
        go_simp
        exact hK _ _ (.inl ⟨b1, b2, true, b4, b5, b6, b7, b8, by simp only [off] at hf ⊢; simp at hf ⊢; omega, rfl, rfl, F1, L1⟩)
      · obtain ⟨W1, r1, F1, g1⟩ := hF.update 1 15 3 (f8z_4 b1 b2 b3 b5 b6 b7 b8) (by omega)
        rw [f8_4 b1 b2 b3 b5 b6 b7 b8] at F1
        have r2 : (Instr.mapUpdate 222 (.map (some w.heap.size)) (kv 1 15) (.int .i64 3)).run Tryz.prog w' = .ok () W1 := r1
        have L1 : Later w W1 := Later.of_below (hL.below.grown g1 hL.size (fun k e => by cases e; exact Nat.le_refl _))
        clear r1 hF hL g1
        refine wpOp_step rfl (fun K hK => ?_)
        go_simp
        exact hK _ _ (.inl ⟨b1, b2, b3, true, b5, b6, b7, b8, by simp only [off] at hf ⊢; simp at hf ⊢; omega, rfl, rfl, F1, L1⟩)
      · obtain ⟨W1, r1, F1, g1⟩ := hF.update 1 22 4 (f8z_5 b1 b2 b3 b4 b6 b7 b8) (by omega)
        rw [f8_5 b1 b2 b3 b4 b6 b7 b8] at F1
        have r2 : (Instr.mapUpdate 222 (.map (some w.heap.size)) (kv 1 22) (.int .i64 4)).run Tryz.prog w' = .ok () W1 := r1
        have L1 : Later w W1 := Later.of_below (hL.below.grown g1 hL.size (fun k e => by cases e; exact Nat.le_refl _))
        clear r1 hF hL g1
        refine wpOp_step rfl (fun K hK => ?_)
        go_simp
        exact hK _ _ (.inl ⟨b1, b2, b3, b4, true, b6, b7, b8, by simp only [off] at hf ⊢; simp at hf ⊢; omega, rfl, rfl, F1, L1⟩)
      · obtain ⟨W1, r1, F1, g1⟩ := hF.update 8 15 5 (f8z_6 b1 b2 b3 b4 b5 b7 b8) (by omega)
        rw [f8_6 b1 b2 b3 b4 b5 b7 b8] at F1
        have r2 : (Instr.mapUpdate 222 (.map (some w.heap.size)) (kv 8 15) (.int .i64 5)).run Tryz.prog w' = .ok () W1 := r1
        have L1 : Later w W1 := Later.of_below (hL.below.grown g1 hL.size (fun k e => by cases e; exact Nat.le_refl _))
        clear r1 hF hL g1
        refine wpOp_step rfl (fun K hK => ?_)
        go_simp
        exact hK _ _ (.inl ⟨b1, b2, b3, b4, b5, true, b7, b8, by simp only [off] at hf ⊢; simp at hf ⊢; omega, rfl, rfl, F1, L1⟩)
      · obtain ⟨W1, r1, F1, g1⟩ := hF.update 8 21 6 (f8z_7 b1 b2 b3 b4 b5 b6 b8) (by omega)
        rw [f8_7 b1 b2 b3 b4 b5 b6 b8] at F1
        have r2 : (Instr.mapUpdate 222 (.map (some w.heap.size)) (kv 8 21) (.int .i64 6)).run Tryz.prog w' = .ok () W1 := r1
        have L1 : Later w W1 := Later.of_below (hL.below.grown g1 hL.size (fun k e => by cases e; exact Nat.le_refl _))
        clear r1 hF hL g1
        refine wpOp_step rfl (fun K hK => ?_)
        go_simp
        exact hK _ _ (.inl ⟨b1, b2, b3, b4, b5, b6, true, b8, by simp only [off] at hf ⊢; simp at hf ⊢; omega, rfl, rfl, F1, L1⟩)
      · obtain ⟨W1, r1, F1, g1⟩ := hF.update 10 6 7 (f8z_8 b1 b2 b3 b4 b5 b6 b7) (by omega)
        rw [f8_8 b1 b2 b3 b4 b5 b6 b7] at F1
        have r2 : (Instr.mapUpdate 222 (.map (some w.heap.size)) (kv 10 6) (.int .i64 7)).run Tryz.prog w' = .ok () W1 := r1
        have L1 : Later w W1 := Later.of_below (hL.below.grown g1 hL.size (fun k e => by cases e; exact Nat.le_refl _))
        clear r1 hF hL g1
        refine wpOp_step rfl (fun K hK => ?_)
        go_simp
        exact hK _ _ (.inl ⟨b1, b2, b3, b4, b5, b6, b7, true, by simp only [off] at hf ⊢; simp at hf ⊢; omega, rfl, rfl, F1, L1⟩)
      · rw [f8_all] at hF
        refine wpOp_step rfl (fun K hK => ?_)
        go_simp
        exact hK _ _ (.inr (.inl ⟨by simp only [off] at hf; simp at hf; omega, rfl, rfl, hF, hL⟩))
    · obtain rfl : fuel = 0 := by omega
      have hc : i = 18 := by
        clear hf hF hL
        revert hi
        revert i
        decide +kernel
      subst hc
      refine wpOp_step rfl (fun K hK => ?_)
      go_simp
      exact hK _ _ (.inr (.inr ⟨rfl, rfl, rfl, hF, hL⟩))
    · omega
  case h0 =>
    rintro fuel listed a' w' (⟨b1, b2, b3, b4, b5, b6, b7, b8, hf, rfl, rfl, hF, hL⟩ | ⟨hf, rfl, rfl, hF, hL⟩ | ⟨hf, rfl, rfl, hF, hL⟩) hi
    · exfalso
      clear hf hF hL
      revert hi
      revert b1 b2 b3 b4 b5 b6 b7 b8
      decide +kernel
    · exfalso
      clear hf hF hL
      revert hi
      decide +kernel
    · clear hi hf
      cases ab with
      | false =>
        go_wp2
        go_ret
        exact ⟨rfl, hF, hL⟩
      | true =>
        obtain ⟨W1, r1, F1, g1⟩ := hF.update 1 16 3 (by simp [fk]) (by omega)
        obtain ⟨W2, r2, F2, g2⟩ := F1.update 1 23 4 (by simp [fk]) (by omega)
        obtain ⟨W3, r3, F3, g3⟩ := F2.update 8 16 5 (by simp [fk]) (by omega)
        obtain ⟨W4, r4, F4, g4⟩ := F3.update 8 22 6 (by simp [fk]) (by omega)
        obtain ⟨W5, r5, F5, g5⟩ := F4.update 10 7 7 (by simp [fk]) (by omega)
        have L1 : Later w W1 := Later.of_below (hL.below.grown g1 hL.size (fun k e => by cases e; exact Nat.le_refl _))
        have L2 : Later w W2 := Later.of_below (L1.below.grown g2 L1.size (fun k e => by cases e; exact Nat.le_refl _))
        have L3 : Later w W3 := Later.of_below (L2.below.grown g3 L2.size (fun k e => by cases e; exact Nat.le_refl _))
        have L4 : Later w W4 := Later.of_below (L3.below.grown g4 L3.size (fun k e => by cases e; exact Nat.le_refl _))
        have L5 : Later w W5 := Later.of_below (L4.below.grown g5 L4.size (fun k e => by cases e; exact Nat.le_refl _))
        have F6 : FMap W5 w.heap.size (fk true) := by
          rw [show fk true = _ from fk_true]
          exact F5
        clear F1 F2 F3 F4 F5 g1 g2 g3 g4 g5 hF hL L1 L2 L3 L4
        go_wp2
        go_ret
        exact ⟨rfl, F6, L5⟩

end Go.Proofs.YtihdijkplmfhfaaGreatDoor.Feast

/- A day's feast and whether it is one of rest, by the program: its questions, made as function values over a map, and who asks them. Conditions: the numbers are ints, as each theorem says. -/
namespace Go.Proofs.YtihdijkplmfhfaaGreatDoor.Feast
set_option maxRecDepth 100000
open Go.ChangeShapes Go.WideShapes Go.ChangeAt Go.RowKit
open Go.Proofs.YtihdijkplmfhfaaGreatDoor.Divs Go.Proofs.YtihdijkplmfhfaaGreatDoor.Grow Go.Proofs.YtihdijkplmfhfaaGreatDoor.Mol Go.Proofs.YtihdijkplmfhfaaGreatDoor.Hebrew
open Go.Proofs.YtihdijkplmfhfaaGreatDoor.Year (lh mh pt md mp p1 p2 po dl ny yl)
open Go.Proofs.YtihdijkplmfhfaaGreatDoor.Heb (hd ha ups)
open Go.Proofs.YtihdijkplmfhfaaGreatDoor.Fe

/-- Box b holds the map of the feasts' days. -/
def KB (w : World) (b : Nat) (ab : Bool) : Prop := ∃ c, w.cell? ⟨b, 0, none⟩ = some (.map (some c)) ∧ FMap w c (fk ab)

theorem KB.later {w w' : World} {b : Nat} {ab : Bool} (h : KB w b ab) (g : Later w w') : KB w' b ab := by
  obtain ⟨c, h1, h2⟩ := h
  exact ⟨c, gsome g h1, h2.later g⟩

theorem KB.lt {w : World} {b : Nat} {ab : Bool} (h : KB w b ab) : b < w.heap.size := by
  obtain ⟨c, h1, h2⟩ := h
  exact World.block_lt_of_cell? _ _ h1

/-- The question of a day's feast. -/
def kq (b : Nat) : Value := .func (.func 210) #[] #[.pointer (some ⟨b, 0, none⟩)]

theorem kinds_any (ab : Bool) (w : World) : Calls Tryz.prog 203 #[.bool ab] w fun e w' => ∃ b, e = .returned (.func (.func 210) #[] #[.pointer (some ⟨b, 0, none⟩)]) ∧ w.heap.size ≤ b ∧ KB w' b ab ∧ Later w w' := by
  have F := Lib.hid (fun W => feasts_any ab W)
  go_enter Tryz.func203, Tryz.ntmps203
  go_wp2_with fail
  refine (F.out _).mono ?_
  rintro e w1 ⟨rfl, hF, hg1⟩
  have HF := Lib.hid hF
  have HG := Lib.hid hg1
  clear hF hg1
  go_wp2_with fail
  go_ret
  refine ⟨w1.heap.size, rfl, HG.out.size, ⟨w.heap.size, ?_, HF.out.later ((Later.refl w1).put _)⟩, HG.out.put _⟩
  exact cell4 (Later.refl _) 0 rfl

theorem kinds1_any (y m d : Int) (b : Nat) (ab : Bool) (w : World) (h : KB w b ab) :
    Calls Tryz.prog 210 #[.agg #[.int .i64 y, .int .i64 m, .int .i64 d], .pointer (some ⟨b, 0, none⟩)] w fun e w' => e = .returned (.int .i64 (fk ab m d)) ∧ Later w w' := by
  obtain ⟨c, h1, h2⟩ := h
  have L1 := (Later.refl w).alloc #[.int .i64 y, .int .i64 m, .int .i64 d] 148
  have r := (h2.later L1).lookup m d
  have c1 := gsome L1 h1
  have HL := Lib.hid L1
  clear L1 h1 h2
  go_enter Tryz.func210, Tryz.ntmps210
  go_wp2_with fail
  go_ret
  exact ⟨rfl, HL.out⟩

theorem weekday_any (n : Int) (w : World) (h0 : -9223372036854775808 ≤ n) (h1 : n ≤ 9223372036854775807) : Calls Tryz.prog 198 #[.int .i64 n] w fun e w' => e = .returned (.int .i64 (n % 7)) ∧ ∃ k, w' = w.drewN k := by
  have M := Lib.hid (fun W => mod_yes n 7 W h0 h1 (by omega) (by omega))
  go_enter Tryz.func198, Tryz.ntmps198
  go_wp2_with fail
  refine (M.out _).mono ?_
  rintro e w1 ⟨rfl, k, rfl⟩
  go_wp2_with fail
  go_ret
  exact ⟨rfl, _, rfl⟩

/-- Box r holds the question of a day's feast. -/
def RB (w : World) (r : Nat) (ab : Bool) : Prop := ∃ b, w.cell? ⟨r, 0, none⟩ = some (.func (.func 210) #[] #[.pointer (some ⟨b, 0, none⟩)]) ∧ KB w b ab

theorem RB.later {w w' : World} {b : Nat} {ab : Bool} (h : RB w b ab) (g : Later w w') : RB w' b ab := by
  obtain ⟨c, h1, h2⟩ := h
  exact ⟨c, gsome g h1, h2.later g⟩

theorem RB.lt {w : World} {b : Nat} {ab : Bool} (h : RB w b ab) : b < w.heap.size := by
  obtain ⟨c, h1, h2⟩ := h
  exact World.block_lt_of_cell? _ _ h1

theorem rests_any (ab : Bool) (w : World) : Calls Tryz.prog 234 #[.bool ab] w fun e w' => ∃ r, e = .returned (.func (.func 237) #[] #[.pointer (some ⟨r, 0, none⟩)]) ∧ w.heap.size ≤ r ∧ RB w' r ab ∧ Later w w' := by
  have F := Lib.hid (fun W => kinds_any ab W)
  go_enter Tryz.func234, Tryz.ntmps234
  go_wp2_with fail
  refine (F.out _).mono ?_
  rintro e w1 ⟨b, rfl, hb, hF, hg1⟩
  have HF := Lib.hid hF
  have HG := Lib.hid hg1
  clear hF hg1
  go_wp2_with fail
  go_ret
  refine ⟨w1.heap.size, rfl, HG.out.size, ⟨b, ?_, HF.out.later ((Later.refl w1).put _)⟩, HG.out.put _⟩
  exact cell4 (Later.refl _) 0 rfl

theorem of_none (n : Int) (w : World) (h : n < ny 3762 ∨ ny 10000 ≤ n) : Calls Tryz.prog 202 #[.int .i64 n] w fun e w' => e = .returned (.tuple #[.agg #[.int .i64 0, .int .i64 0, .int .i64 0], .int .i64 41]) ∧ Later w w' := by
  by_cases h1 : n < ny 3762
  · exact of_early n w h1
  · exact of_late n w (by omega) (by omega)

theorem retbool {a b : Bool} (h : a = b) : Ending.returned (.bool a) = .returned (.bool b) := by rw [h]

set_option maxHeartbeats 1000000 in
theorem rests1_any (n : Int) (r : Nat) (ab : Bool) (w : World) (h0 : -9223372036854775808 ≤ n) (h1 : n ≤ 9223372036854775807) (hr : RB w r ab) :
    Calls Tryz.prog 237 #[.int .i64 n, .pointer (some ⟨r, 0, none⟩)] w fun e w' => e = .returned (.bool (rst ab n)) ∧ Later w w' := by
  have W7 := Lib.hid (fun W => weekday_any n W h0 h1)
  by_cases ho : n < ny 3762 ∨ ny 10000 ≤ n
  · have O := Lib.hid (fun W => of_none n W ho)
    have E := Lib.hid (show rst ab n = false from by rcases ho with x | x; exact rst_low ab n x; exact rst_high ab n x)
    clear ho
    go_enter Tryz.func237, Tryz.ntmps237
    go_wp2_with fail
    refine (O.out _).mono ?_
    rintro e w1 ⟨rfl, hg1⟩
    have HG := Lib.hid hg1
    clear hg1
    go_wp2_with fail
    go_ret
    exact ⟨retbool E.out.symm, HG.out.put _⟩
  · obtain ⟨h, m, y1, y2, a1, a2, m1, m2, g1, g2⟩ := dt_ex n (by omega) (by omega)
    have O := Lib.hid (fun W => of_yes n h m W y1 y2 a1 a2 m1 m2 g1 g2)
    have D := kd_dt ab n _ _ _ (dt_of n h m y1 y2 m1 m2 g1 g2)
    have E := Lib.hid (show rst ab n = (decide (n % 7 = 6) || decide (fk ab m (n - ny h - ha (yl h) (lh h) m + 1) ≠ 0)) from by unfold rst; rw [D, decide_eq_true (by omega)]; simp)
    obtain ⟨d, hd'⟩ : ∃ d, n - ny h - ha (yl h) (lh h) m + 1 = d := ⟨_, rfl⟩
    rw [hd'] at O E
    clear ho D hd' a1 a2 g1 g2 m1 m2 y1 y2
    by_cases hs : n % 7 = 6
    · rw [decide_eq_true hs, Bool.true_or] at E
      have t : (n % 7 == 6) = true := by simp [hs]
      clear hs
      go_enter Tryz.func237, Tryz.ntmps237
      go_wp2_with fail
      refine (O.out _).mono ?_
      rintro e w1 ⟨rfl, hg1⟩
      have HG := Lib.hid hg1
      clear hg1
      go_wp2_with fail
      refine (W7.out _).mono ?_
      rintro e w2 ⟨rfl, k, rfl⟩
      go_wp2_with fail
      go_ret
      exact ⟨retbool E.out.symm, HG.out.put _⟩
    · rw [decide_eq_false hs, Bool.false_or] at E
      have t : (n % 7 == 6) = false := by simp [hs]
      clear hs
      obtain ⟨b, hb, hk⟩ := hr
      have HB := Lib.hid hb
      have HK := Lib.hid hk
      clear hb hk
      go_enter Tryz.func237, Tryz.ntmps237
      go_wp2_with fail
      refine (O.out _).mono ?_
      rintro e w1 ⟨rfl, hg1⟩
      have HG := Lib.hid hg1
      have L1 := Lib.hid ((Later.refl w1).put (.cells #[.int .i64 h, .int .i64 m, .int .i64 d] 148))
      have cb := gsome (gtrans HG.out L1.out) HB.out
      clear hg1
      go_wp2_with fail
      refine (W7.out _).mono ?_
      rintro e w2 ⟨rfl, k, rfl⟩
      go_wp2_with fail
      refine (kinds1_any h m d b ab _ (HK.out.later (gtrans (gtrans HG.out L1.out) (later_drewN _ k)))).mono ?_
      rintro e w3 ⟨rfl, hg3⟩
      go_wp2_with fail
      go_ret
      refine ⟨retbool ?_, gtrans (gtrans (gtrans HG.out L1.out) (later_drewN _ k)) hg3⟩
      rw [E.out]
      by_cases z : fk ab m d = 0 <;> simp [z]

theorem rest_any (n : Int) (ab : Bool) (w : World) (h0 : -9223372036854775808 ≤ n) (h1 : n ≤ 9223372036854775807) :
    Calls Tryz.prog 231 #[.int .i64 n, .bool ab] w fun e w' => e = .returned (.bool (rst ab n)) ∧ Later w w' := by
  have F := Lib.hid (fun W => rests_any ab W)
  go_enter Tryz.func231, Tryz.ntmps231
  go_wp2_with fail
  refine (F.out _).mono ?_
  rintro e w1 ⟨r, rfl, _, hR, hg1⟩
  have HR := Lib.hid hR
  have HG := Lib.hid hg1
  clear hR hg1
  go_wp2_with fail
  refine (rests1_any n r ab _ h0 h1 HR.out).mono ?_
  rintro e w2 ⟨rfl, hg2⟩
  go_wp2_with fail
  go_ret
  exact ⟨rfl, gtrans HG.out hg2⟩

theorem kind_any (n : Int) (ab : Bool) (w : World) :
    Calls Tryz.prog 201 #[.int .i64 n, .bool ab] w fun e w' => e = .returned (.int .i64 (kd ab n)) ∧ Later w w' := by
  by_cases ho : n < ny 3762 ∨ ny 10000 ≤ n
  · have O := Lib.hid (fun W => of_none n W ho)
    have E := Lib.hid (kd_out ab n ho)
    clear ho
    go_enter Tryz.func201, Tryz.ntmps201
    go_wp2_with fail
    refine (O.out _).mono ?_
    rintro e w1 ⟨rfl, hg1⟩
    have HG := Lib.hid hg1
    clear hg1
    go_wp2_with fail
    go_ret
    exact ⟨ret1 E.out.symm, HG.out.put _⟩
  · obtain ⟨h, m, y1, y2, a1, a2, m1, m2, g1, g2⟩ := dt_ex n (by omega) (by omega)
    have O := Lib.hid (fun W => of_yes n h m W y1 y2 a1 a2 m1 m2 g1 g2)
    have E := Lib.hid (kd_dt ab n _ _ _ (dt_of n h m y1 y2 m1 m2 g1 g2))
    have F := Lib.hid (fun W => kinds_any ab W)
    obtain ⟨d, hd'⟩ : ∃ d, n - ny h - ha (yl h) (lh h) m + 1 = d := ⟨_, rfl⟩
    rw [hd'] at O E
    clear ho hd' a1 a2 g1 g2 m1 m2 y1 y2
    go_enter Tryz.func201, Tryz.ntmps201
    go_wp2_with fail
    refine (O.out _).mono ?_
    rintro e w1 ⟨rfl, hg1⟩
    have HG := Lib.hid hg1
    have L1 := Lib.hid ((Later.refl w1).put (.cells #[.int .i64 h, .int .i64 m, .int .i64 d] 148))
    clear hg1
    go_wp2_with fail
    refine (F.out _).mono ?_
    rintro e w2 ⟨b, rfl, _, hK, hg2⟩
    have c0 := cell4 hg2 0 rfl
    have c1 := cell4 hg2 1 rfl
    have c2 := cell4 hg2 2 rfl
    have HK := Lib.hid hK
    have HG2 := Lib.hid hg2
    clear hK hg2
    go_wp2_with fail
    refine (kinds1_any h m d b ab _ HK.out).mono ?_
    rintro e w3 ⟨rfl, hg3⟩
    go_wp2_with fail
    go_ret
    exact ⟨ret1 E.out.symm, gtrans (gtrans (gtrans HG.out L1.out) HG2.out) hg3⟩

end Go.Proofs.YtihdijkplmfhfaaGreatDoor.Feast
