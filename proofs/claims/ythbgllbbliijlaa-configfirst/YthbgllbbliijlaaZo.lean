/-
  Plain facts on zones, in whole numbers: which may be. No condition.
-/
import Derived.RowKit
namespace Go.Proofs.Ythbgllbbliijlaa.Zo

/-- A turn: month, week, weekday, minute. -/
structure Tn where
  m : Int
  k : Int
  v : Int
  u : Int

/-- A zone: base, shift, and its two turns. -/
structure Zn where
  b : Int
  s : Int
  p : Tn
  q : Tn

def ztB (t : Tn) : Bool := t.m == 0 && (t.k == 0 && (t.v == 0 && t.u == 0))

def okB (t : Tn) : Bool := decide (1 ≤ t.m ∧ t.m ≤ 12 ∧ 1 ≤ t.k ∧ t.k ≤ 5 ∧ 0 ≤ t.v ∧ t.v ≤ 6 ∧ 0 ≤ t.u ∧ t.u ≤ 1439)

theorem ztB_iff (t : Tn) : ztB t = true ↔ t.m = 0 ∧ t.k = 0 ∧ t.v = 0 ∧ t.u = 0 := by simp [ztB]

theorem okB_iff (t : Tn) : okB t = true ↔ 1 ≤ t.m ∧ t.m ≤ 12 ∧ 1 ≤ t.k ∧ t.k ≤ 5 ∧ 0 ≤ t.v ∧ t.v ≤ 6 ∧ 0 ≤ t.u ∧ t.u ≤ 1439 := by simp [okB]

/-- May a turn not be, where the shift is s? -/
def wrB (s : Int) (t : Tn) : Bool := if s = 0 then !ztB t else !okB t

/-- Are the months of both far enough from each other? -/
def apB (z : Zn) : Bool := decide ((2 ≤ z.p.m - z.q.m ∧ z.p.m - z.q.m ≤ 10) ∨ (2 ≤ z.q.m - z.p.m ∧ z.q.m - z.p.m ≤ 10))

theorem apB_iff (z : Zn) : apB z = true ↔ (2 ≤ z.p.m - z.q.m ∧ z.p.m - z.q.m ≤ 10) ∨ (2 ≤ z.q.m - z.p.m ∧ z.q.m - z.p.m ≤ 10) := by simp [apB]

def badB (z : Zn) : Bool := wrB z.s z.p || (wrB z.s z.q || (!decide (z.s = 0) && !apB z))

/-- The error of a zone, or 0. -/
def ck (z : Zn) : Int := if z.b < -720 ∨ 840 < z.b then 60 else if z.s < 0 ∨ 120 < z.s then 61 else if badB z = true then 62 else 0

/-- A zone that may be. -/
def May (z : Zn) : Prop := -720 ≤ z.b ∧ z.b ≤ 840 ∧ 0 ≤ z.s ∧ z.s ≤ 120 ∧ ((z.s = 0 ∧ ztB z.p = true ∧ ztB z.q = true) ∨ (1 ≤ z.s ∧ okB z.p = true ∧ okB z.q = true ∧ apB z = true))

theorem ck_may (z : Zn) : ck z = 0 ↔ May z := by
  unfold ck May
  by_cases h1 : z.b < -720 ∨ 840 < z.b
  · rw [if_pos h1]; constructor
    · intro h; omega
    · intro h; omega
  rw [if_neg h1]
  by_cases h2 : z.s < 0 ∨ 120 < z.s
  · rw [if_pos h2]; constructor
    · intro h; omega
    · intro h; omega
  rw [if_neg h2]
  by_cases h3 : z.s = 0
  · have e : badB z = (!ztB z.p || !ztB z.q) := by unfold badB wrB; simp [h3]
    rw [e]
    cases ztB z.p <;> cases ztB z.q <;> simp <;> omega
  · have e : badB z = (!okB z.p || (!okB z.q || !apB z)) := by unfold badB wrB; simp [h3]
    rw [e]
    cases okB z.p <;> cases okB z.q <;> cases apB z <;> simp <;> omega

theorem ck_cases (z : Zn) : ck z = 0 ∨ ck z = 60 ∨ ck z = 61 ∨ ck z = 62 := by
  unfold ck
  split
  · omega
  · split
    · omega
    · split <;> omega

end Go.Proofs.Ythbgllbbliijlaa.Zo
