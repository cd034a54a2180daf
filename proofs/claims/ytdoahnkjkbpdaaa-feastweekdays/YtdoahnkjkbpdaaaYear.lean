/-
  Plain facts on Hebrew years, in whole numbers: leap years, months ahead, moons, by how many days a year is put off, and how long it is. No condition but those that each theorem states.
-/
import Derived.RowKit
namespace Go.Proofs.Ytdoahnkjkbpdaaa.Year

/-- Is a year leap? -/
def lh (h : Int) : Bool := decide ((7 * (h % 19) + 1) % 19 < 7)
/-- Months ahead of a year. -/
def mh (h : Int) : Int := (h - 1) * 12 + (7 * (h - 1) + 1) / 19
/-- Parts of a year's moon. -/
def pt (h : Int) : Int := 5604 + mh h * 765433
def md (h : Int) : Int := -1373427 + pt h / 25920
def mp (h : Int) : Int := pt h % 25920
/-- The first three rules. -/
def p1 (w p : Int) (l b : Bool) : Int := if 19440 ≤ p ∨ (w = 2 ∧ l = false ∧ 9924 ≤ p) ∨ (w = 1 ∧ b = true ∧ 16789 ≤ p) then 1 else 0
/-- The fourth rule. -/
def p2 (w : Int) : Int := if w % 7 = 0 ∨ w % 7 = 3 ∨ w % 7 = 5 then 1 else 0
def po (w p : Int) (l b : Bool) : Int := p1 w p l b + p2 (w + p1 w p l b)
def dl (h : Int) : Int := po (md h % 7) (mp h) (lh h) (lh (h - 1))
def ny (h : Int) : Int := md h + dl h
def yl (h : Int) : Int := ny (h + 1) - ny h

theorem lh_rest (h : Int) : (7 * (h % 19) + 1) % 19 = (7 * h + 1) % 19 := by omega
theorem lh_iff (h : Int) : lh h = true ↔ (7 * h + 1) % 19 < 7 := by simp [lh, lh_rest]
theorem lh_not (h : Int) : lh h = false ↔ ¬ (7 * h + 1) % 19 < 7 := by simp [lh, lh_rest]

theorem seven_up (h : Int) : 7 * (h + 1) + 1 = (7 * h + 1) + 7 := by omega
theorem seven_down (h : Int) : 7 * (h - 1) + 1 = (7 * h + 1) - 7 := by omega
theorem mh_leap (h : Int) (hl : lh h = true) : mh (h + 1) = mh h + 13 := by
  rw [lh_iff] at hl
  unfold mh
  rw [show h + 1 - 1 = h by omega, seven_down, Int.sub_mul]
  generalize 7 * h + 1 = x at *
  omega
theorem mh_common (h : Int) (hl : lh h = false) : mh (h + 1) = mh h + 12 := by
  rw [lh_not] at hl
  unfold mh
  rw [show h + 1 - 1 = h by omega, seven_down, Int.sub_mul]
  generalize 7 * h + 1 = x at *
  omega
theorem lh_apart (h : Int) (hl : lh h = true) : lh (h + 1) = false := by
  rw [lh_iff] at hl
  rw [lh_not, seven_up]
  generalize 7 * h + 1 = x at *
  omega
theorem lh_before (h : Int) (hl : lh h = true) : lh (h - 1) = false := by
  rw [lh_iff] at hl
  rw [lh_not, seven_down]
  generalize 7 * h + 1 = x at *
  omega
theorem mh_round (h : Int) : mh (h + 19) = mh h + 235 := by unfold mh; omega
theorem mh_row (r : Int) : mh (19 * r + 1) = 235 * r := by unfold mh; omega
theorem mh_bd (h : Int) (h1 : 1 ≤ h) (h2 : h ≤ 10000) : 0 ≤ mh h ∧ mh h ≤ 130000 := by unfold mh; omega
theorem pt_bd (h : Int) (h1 : 1 ≤ h) (h2 : h ≤ 10000) : 5604 ≤ pt h ∧ pt h ≤ 99506295604 := by
  have := mh_bd h h1 h2
  unfold pt
  omega
theorem mp_bd (h : Int) : 0 ≤ mp h ∧ mp h < 25920 := by unfold mp; omega
theorem md_bd (h : Int) (h1 : 1 ≤ h) (h2 : h ≤ 10000) : -1373427 ≤ md h ∧ md h ≤ 4000000 := by
  have := pt_bd h h1 h2
  unfold md
  omega
theorem p1_bd (w p : Int) (l b : Bool) : 0 ≤ p1 w p l b ∧ p1 w p l b ≤ 1 := by unfold p1; split <;> omega
theorem p2_bd (w : Int) : 0 ≤ p2 w ∧ p2 w ≤ 1 := by unfold p2; split <;> omega
theorem po_bd (w p : Int) (l b : Bool) : 0 ≤ po w p l b ∧ po w p l b ≤ 2 := by
  have := p1_bd w p l b
  have := p2_bd (w + p1 w p l b)
  unfold po
  omega
theorem dl_bd (h : Int) : 0 ≤ dl h ∧ dl h ≤ 2 := po_bd _ _ _ _
theorem ny_bd (h : Int) (h1 : 1 ≤ h) (h2 : h ≤ 10000) : -1373427 ≤ ny h ∧ ny h ≤ 4000002 := by
  have := md_bd h h1 h2
  have := dl_bd h
  unfold ny
  omega

/-- The next year's moon, by this one's. -/
theorem next_common (h : Int) (hl : lh h = false) :
    (mp h + 9516 < 25920 ∧ mp (h + 1) = mp h + 9516 ∧ md (h + 1) = md h + 354) ∨ (25920 ≤ mp h + 9516 ∧ mp (h + 1) = mp h - 16404 ∧ md (h + 1) = md h + 355) := by
  have := mh_common h hl
  unfold mp md pt
  rw [this]
  omega
theorem next_leap (h : Int) (hl : lh h = true) :
    (mp h + 23269 < 25920 ∧ mp (h + 1) = mp h + 23269 ∧ md (h + 1) = md h + 383) ∨ (25920 ≤ mp h + 23269 ∧ mp (h + 1) = mp h - 2651 ∧ md (h + 1) = md h + 384) := by
  have := mh_leap h hl
  unfold mp md pt
  rw [this]
  omega
theorem round_parts (h : Int) : (md (h + 19) - md h) * 25920 + mp (h + 19) - mp h = 179876755 := by
  have := mh_round h
  unfold mp md pt
  rw [this]
  omega

/-- The day that is reached is none of the three. -/
theorem po_free (w p : Int) (l b : Bool) : (w + po w p l b) % 7 ≠ 0 ∧ (w + po w p l b) % 7 ≠ 3 ∧ (w + po w p l b) % 7 ≠ 5 := by
  unfold po
  generalize p1 w p l b = x
  unfold p2
  split <;> omega
theorem ny_free (h : Int) : ny h % 7 ≠ 0 ∧ ny h % 7 ≠ 3 ∧ ny h % 7 ≠ 5 := by
  have := po_free (md h % 7) (mp h) (lh h) (lh (h - 1))
  unfold ny dl
  omega
theorem dl_late (h : Int) (hp : 19440 ≤ mp h) : 0 < dl h := by
  have h2 := p2_bd (md h % 7 + p1 (md h % 7) (mp h) (lh h) (lh (h - 1)))
  unfold dl po
  have : p1 (md h % 7) (mp h) (lh h) (lh (h - 1)) = 1 := by unfold p1; rw [if_pos (Or.inl hp)]
  omega

theorem p1_cases (w p : Int) (l b : Bool) :
    (p1 w p l b = 1 ∧ (19440 ≤ p ∨ (w = 2 ∧ l = false ∧ 9924 ≤ p) ∨ (w = 1 ∧ b = true ∧ 16789 ≤ p))) ∨
    (p1 w p l b = 0 ∧ ¬ (19440 ≤ p ∨ (w = 2 ∧ l = false ∧ 9924 ≤ p) ∨ (w = 1 ∧ b = true ∧ 16789 ≤ p))) := by
  unfold p1
  split
  · exact Or.inl ⟨rfl, by assumption⟩
  · exact Or.inr ⟨rfl, by assumption⟩
theorem p2_cases (w : Int) : (p2 w = 1 ∧ (w % 7 = 0 ∨ w % 7 = 3 ∨ w % 7 = 5)) ∨ (p2 w = 0 ∧ ¬ (w % 7 = 0 ∨ w % 7 = 3 ∨ w % 7 = 5)) := by
  unfold p2
  split
  · exact Or.inl ⟨rfl, by assumption⟩
  · exact Or.inr ⟨rfl, by assumption⟩

theorem len_common (h : Int) (hl : lh h = false) : 353 ≤ yl h ∧ yl h ≤ 355 := by
  have hn := next_common h hl
  have hb := mp_bd h
  have e1 : h + 1 - 1 = h := by omega
  unfold yl ny dl po
  rw [e1, hl]
  have a1 := p1_cases (md h % 7) (mp h) false (lh (h - 1))
  have a2 := p2_cases (md h % 7 + p1 (md h % 7) (mp h) false (lh (h - 1)))
  have b1 := p1_cases (md (h + 1) % 7) (mp (h + 1)) (lh (h + 1)) false
  have b2 := p2_cases (md (h + 1) % 7 + p1 (md (h + 1) % 7) (mp (h + 1)) (lh (h + 1)) false)
  generalize p2 (md h % 7 + p1 (md h % 7) (mp h) false (lh (h - 1))) = z1 at *
  generalize p2 (md (h + 1) % 7 + p1 (md (h + 1) % 7) (mp (h + 1)) (lh (h + 1)) false) = z2 at *
  generalize p1 (md h % 7) (mp h) false (lh (h - 1)) = y1 at *
  generalize p1 (md (h + 1) % 7) (mp (h + 1)) (lh (h + 1)) false = y2 at *
  generalize md (h + 1) = m2 at *
  generalize mp (h + 1) = q2 at *
  generalize md h = m1 at *
  generalize mp h = q1 at *
  simp only [true_and, reduceCtorEq, false_and, and_false, or_false] at a1 b1
  rcases hn with ⟨n1, rfl, rfl⟩ | ⟨n1, rfl, rfl⟩ <;> rcases a1 with ⟨rfl, a1⟩ | ⟨rfl, a1⟩ <;> rcases b1 with ⟨rfl, b1⟩ | ⟨rfl, b1⟩ <;> cases lh (h - 1) <;> cases lh (h + 1) <;>
    omega

theorem len_leap (h : Int) (hl : lh h = true) : 383 ≤ yl h ∧ yl h ≤ 385 := by
  have hn := next_leap h hl
  have hb := mp_bd h
  have e1 : h + 1 - 1 = h := by omega
  unfold yl ny dl po
  rw [e1, hl, lh_apart h hl, lh_before h hl]
  have a1 := p1_cases (md h % 7) (mp h) true false
  have a2 := p2_cases (md h % 7 + p1 (md h % 7) (mp h) true false)
  have b1 := p1_cases (md (h + 1) % 7) (mp (h + 1)) false true
  have b2 := p2_cases (md (h + 1) % 7 + p1 (md (h + 1) % 7) (mp (h + 1)) false true)
  generalize p2 (md h % 7 + p1 (md h % 7) (mp h) true false) = z1 at *
  generalize p2 (md (h + 1) % 7 + p1 (md (h + 1) % 7) (mp (h + 1)) false true) = z2 at *
  generalize p1 (md h % 7) (mp h) true false = y1 at *
  generalize p1 (md (h + 1) % 7) (mp (h + 1)) false true = y2 at *
  generalize md (h + 1) = m2 at *
  generalize mp (h + 1) = q2 at *
  generalize md h = m1 at *
  generalize mp h = q1 at *
  simp only [true_and, reduceCtorEq, false_and, and_false, or_false] at a1 b1
  rcases hn with ⟨n1, rfl, rfl⟩ | ⟨n1, rfl, rfl⟩ <;> rcases a1 with ⟨rfl, a1⟩ | ⟨rfl, a1⟩ <;> rcases b1 with ⟨rfl, b1⟩ | ⟨rfl, b1⟩ <;> omega

theorem lh_example : lh 5784 = true := by decide
theorem mh_example : mh 5784 = 71526 := by decide
theorem md_example : md 5784 = 738778 := by decide
theorem mp_example : mp 5784 = 12762 := by decide
theorem dl_example : dl 5784 = 1 := by decide
theorem ny_example : ny 5784 = 738779 := by decide
theorem yl_example : yl 5784 = 383 := by decide

end Go.Proofs.Ytdoahnkjkbpdaaa.Year
