/-
  Plain facts on whole numbers: how division towards nought and division down hang together. No condition but those that each theorem states.
-/
import Derived.RowKit
namespace Go.Proofs.YtepaiolhflpmeaaDoor.Divs

theorem tpair (a b : Int) (hb : 1 ≤ b) :
    (a.tmod b < 0 → a.tdiv b - 1 = a / b ∧ a.tmod b + b = a % b) ∧ (0 ≤ a.tmod b → a.tdiv b = a / b ∧ a.tmod b = a % b) := by
  have h1 : b * a.tdiv b + a.tmod b = a := Int.mul_tdiv_add_tmod a b
  have h2 : -b < a.tmod b := by
    rcases Int.le_total 0 a with h | h
    · have := Int.tmod_nonneg b h; omega
    · have := Int.lt_tmod_of_pos a (show 0 < b by omega); omega
  have h3 : a.tmod b < b := Int.tmod_lt_of_pos a (by omega)
  constructor
  · intro h
    have := (Int.ediv_emod_unique (a := a) (b := b) (r := a.tmod b + b) (q := a.tdiv b - 1) (by omega)).2
      ⟨by rw [Int.mul_sub]; omega, by omega, by omega⟩
    exact ⟨this.1.symm, this.2.symm⟩
  · intro h
    have := (Int.ediv_emod_unique (a := a) (b := b) (r := a.tmod b) (q := a.tdiv b) (by omega)).2
      ⟨by omega, by omega, by omega⟩
    exact ⟨this.1.symm, this.2.symm⟩

theorem ediv_bd (a b : Int) (hb : 1 ≤ b) : (0 ≤ a → 0 ≤ a / b ∧ a / b ≤ a) ∧ (a < 0 → a ≤ a / b ∧ a / b ≤ -1) := by
  have h1 := Int.mul_ediv_add_emod a b
  have h2 := Int.emod_nonneg a (show b ≠ 0 by omega)
  have h3 := Int.emod_lt_of_pos a (show 0 < b by omega)
  constructor
  · intro h
    exact ⟨Int.ediv_nonneg h (by omega), Int.ediv_le_self _ h⟩
  · intro h
    constructor
    · refine (Int.le_ediv_iff_mul_le (by omega)).2 ?_
      have : a * b ≤ a * 1 := Int.mul_le_mul_of_nonpos_left (by omega) (by omega)
      omega
    · have : a / b < 0 := Int.ediv_neg_of_neg_of_pos h (by omega)
      omega

/-- A rest means that the divisor is at least 2, so the quotient is far from the greatest number. -/
theorem ediv_far (a b : Int) (hb : 1 ≤ b) (ha : a ≤ 9223372036854775807) (hr : 0 < a % b) : a / b ≤ 4611686018427387903 := by
  have h1 := Int.mul_ediv_add_emod a b
  have h3 := Int.emod_lt_of_pos a (show 0 < b by omega)
  rcases Int.le_total (a / b) 0 with h | h
  · omega
  · have : 2 * (a / b) ≤ b * (a / b) := Int.mul_le_mul_of_nonneg_right (by omega) h
    omega
end Go.Proofs.YtepaiolhflpmeaaDoor.Divs
