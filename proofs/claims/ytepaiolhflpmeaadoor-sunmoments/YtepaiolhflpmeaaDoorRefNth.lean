/-
  What Nth answers, of the program and of the document: one and the same number, and one and the same error. Conditions: the numbers are ints, the table of months lies where the program lays it.
-/
import Derived.Test.YtepaiolhflpmeaaDoorRefDay
namespace Go.Proofs.YtepaiolhflpmeaaDoor.Greg
open Go.ChangeShapes Go.WideShapes Go.ChangeAt Go.RowKit
open Go.Proofs.YtepaiolhflpmeaaDoor.Divs Go.Proofs.YtepaiolhflpmeaaDoor.Grow
open Go.Proofs.YtepaiolhflpmeaaDoor.Cal (lp ln tab dm ya ma dn yr mo om od)

/-- The number of a month's first day. -/
def fst (y m : Int) : Int := ya y + ma y m + 1

/-- Nth's number, and its error. -/
def nthV (y m v k : Int) : Int :=
  if dm y m = 0 ∨ v < 0 ∨ 6 < v ∨ (¬ k = -1 ∧ (k < 1 ∨ 5 < k)) then 0
  else if k = -1 then fo (fst y m + dm y m - 7) v
  else if fo (fst y m) v + (k - 1) * 7 ≤ fst y m + dm y m - 1 then fo (fst y m) v + (k - 1) * 7 else 0
def nthE (y m v k : Int) : Int :=
  if dm y m = 0 then 20 else if v < 0 ∨ 6 < v ∨ (¬ k = -1 ∧ (k < 1 ∨ 5 < k)) then 22
  else if k = -1 then 0
  else if fo (fst y m) v + (k - 1) * 7 ≤ fst y m + dm y m - 1 then 0 else 22

theorem ret2' {a b c d : Int} (h1 : a = c) (h2 : b = d) : Ending.returned (.tuple #[.int .i64 a, .int .i64 b]) = .returned (.tuple #[.int .i64 c, .int .i64 d]) := by rw [h1, h2]

theorem nth_all (y m v k : Int) (w : World) (hL : Laid w) : Calls Tryd.prog 49 #[.int .i64 y, .int .i64 m, .int .i64 v, .int .i64 k] w fun e w' => e = .returned (.tuple #[.int .i64 (nthV y m v k), .int .i64 (nthE y m v k)]) ∧ Later w w' := by
  by_cases h : dm y m = 0
  · refine (nth_date y m v k w h hL).mono fun e w' ⟨he, hg⟩ => ⟨he.trans ?_, hg⟩
    exact ret2' (by unfold nthV; rw [if_pos (Or.inl h)]) (by unfold nthE; rw [if_pos h])
  by_cases hb : v < 0 ∨ 6 < v ∨ (¬ k = -1 ∧ (k < 1 ∨ 5 < k))
  · refine (nth_bad y m v k w h hL hb).mono fun e w' ⟨he, hg⟩ => ⟨he.trans ?_, hg⟩
    exact ret2' (by unfold nthV; rw [if_pos (Or.inr hb)]) (by unfold nthE; rw [if_neg h, if_pos hb])
  obtain ⟨h1, h2, h3, h4⟩ := Cal.dm_some y m h
  have hn : ¬ (dm y m = 0 ∨ v < 0 ∨ 6 < v ∨ (¬ k = -1 ∧ (k < 1 ∨ 5 < k))) := by omega
  by_cases hk : k = -1
  · subst hk
    refine (nth_last y m v w hL h1 h2 h3 h4 (by omega) (by omega)).mono fun e w' ⟨he, hg⟩ => ⟨he.trans ?_, hg⟩
    exact ret2' (by unfold nthV; rw [if_neg hn, if_pos rfl]; congr 1; unfold fst; omega) (by unfold nthE; rw [if_neg h, if_neg hb, if_pos rfl])
  by_cases hs : fo (fst y m) v + (k - 1) * 7 ≤ fst y m + dm y m - 1
  · refine (nth_some y m v k w hL h1 h2 h3 h4 (by omega) (by omega) (by omega) (by omega) hs).mono fun e w' ⟨he, hg⟩ => ⟨he.trans ?_, hg⟩
    exact ret2' (by unfold nthV; rw [if_neg hn, if_neg hk, if_pos hs]; rfl) (by unfold nthE; rw [if_neg h, if_neg hb, if_neg hk, if_pos hs])
  · refine (nth_none y m v k w hL h1 h2 h3 h4 (by omega) (by omega) (by omega) (by omega) (by unfold fst at hs; omega)).mono fun e w' ⟨he, hg⟩ => ⟨he.trans ?_, hg⟩
    exact ret2' (by unfold nthV; rw [if_neg hn, if_neg hk, if_neg hs]) (by unfold nthE; rw [if_neg h, if_neg hb, if_neg hk, if_neg hs])

/-- The last one met so far. -/
def lst (f g c : Int) : Int := if c = 0 then 0 else f + g + (c - 1) * 7

/-- The loop's relation: c of the weekday have been met among the first j days. -/
def WRel (f g t k : Int) (met last i : Value) : Prop := ∃ j c : Int, 0 ≤ j ∧ j ≤ t ∧ 7 * c ≤ j - g + 6 ∧ j - g + 6 < 7 * c + 7 ∧ (k = -1 ∨ c < k) ∧ i = .int .i64 j ∧ met = .int .i64 c ∧ last = .int .i64 (lst f g c)

/-- What the search comes to. -/
def seekV (f g t k : Int) : Int := if k = -1 then lst f g ((t - g + 6) / 7) else if g + (k - 1) * 7 < t then f + g + (k - 1) * 7 else 0
def seekE (g t k : Int) : Int := if k = -1 then 0 else if g + (k - 1) * 7 < t then 0 else 22

end Go.Proofs.YtepaiolhflpmeaaDoor.Greg
