/-
  Plain facts on tables of sunsets, in whole numbers: which may be, the minute of a day, its instant, and what clocks tell then. No condition but those that each theorem states.
-/
import Derived.Test.YtepaiolhflpmeaaDoorZo
namespace Go.Proofs.YtepaiolhflpmeaaDoor.Su
open Go.Proofs.YtepaiolhflpmeaaDoor.Cal (dm yr om od)
open Go.Proofs.YtepaiolhflpmeaaDoor.Zo

/-- Each minute is from 900 to 1320. -/
def okM (s : Nat → Int) : Prop := ∀ i, i < 12 → 900 ≤ s i ∧ s i ≤ 1320

/-- Each differs from the next one by 120 at most. -/
def okS (s : Nat → Int) : Prop := ∀ i, i < 12 → -120 ≤ s ((i + 1) % 12) - s i ∧ s ((i + 1) % 12) - s i ≤ 120

instance (s : Nat → Int) : Decidable (okM s) := by unfold okM; infer_instance
instance (s : Nat → Int) : Decidable (okS s) := by unfold okS; infer_instance

/-- The error of a table, or 0. -/
def sk (s : Nat → Int) : Int := if okM s then (if okS s then 0 else 71) else 70

theorem sk_ok (s : Nat → Int) : sk s = 0 ↔ okM s ∧ okS s := by
  unfold sk
  by_cases h : okM s
  · rw [if_pos h]
    by_cases k : okS s
    · rw [if_pos k]; simp [h, k]
    · rw [if_neg k]; simp [k]
  · rw [if_neg h]; simp [h]

theorem sk_m (s : Nat → Int) (k : Nat) (hk : k < 12) (h : ¬ (900 ≤ s k ∧ s k ≤ 1320)) : sk s = 70 := by
  unfold sk; rw [if_neg (fun g => h (g k hk))]

theorem sk_s (s : Nat → Int) (k : Nat) (hk : k < 12) (hm : okM s) (h : ¬ (-120 ≤ s ((k + 1) % 12) - s k ∧ s ((k + 1) % 12) - s k ≤ 120)) : sk s = 71 := by
  unfold sk; rw [if_pos hm, if_neg (fun g => h (g k hk))]

/-- The minutes of a day's month, and of the next one. -/
def ta (s : Nat → Int) (n : Int) : Int := s ((om n).toNat - 1)
def tb (s : Nat → Int) (n : Int) : Int := s ((om n).toNat % 12)

/-- The minute of a day. -/
def sa (s : Nat → Int) (n : Int) : Int := ta s n + (tb s n - ta s n) * (od n - 1) / dm (yr n) (om n)

/-- The error of a table and a day, and the minute, or 0. -/
def aE (s : Nat → Int) (n : Int) : Int := if sk s = 0 then (if 1 ≤ n ∧ n ≤ 3652059 then 0 else 72) else sk s
def aV (s : Nat → Int) (n : Int) : Int := if aE s n = 0 then sa s n else 0

/-- The error of a zone, a table and a day, and the instant, or 0. -/
def mE (z : Zn) (s : Nat → Int) (n : Int) : Int := if ck z = 0 then (if sk s = 0 then (if 401 ≤ n ∧ n ≤ 3651998 then 0 else 72) else sk s) else ck z
def mV (z : Zn) (s : Nat → Int) (n : Int) : Int := if mE z s n = 0 then n * 1440 + sa s n - z.b else 0

theorem aE_ok (s : Nat → Int) (n : Int) : aE s n = 0 ↔ sk s = 0 ∧ 1 ≤ n ∧ n ≤ 3652059 := by
  unfold aE
  by_cases h : sk s = 0
  · rw [if_pos h]; split <;> omega
  · rw [if_neg h]; omega

theorem mE_ok (z : Zn) (s : Nat → Int) (n : Int) : mE z s n = 0 ↔ ck z = 0 ∧ sk s = 0 ∧ 401 ≤ n ∧ n ≤ 3651998 := by
  unfold mE
  by_cases h0 : ck z = 0
  · rw [if_pos h0]
    by_cases h : sk s = 0
    · rw [if_pos h]; split <;> omega
    · rw [if_neg h]; omega
  · rw [if_neg h0]; omega

theorem date_bd (n : Int) (h1 : 1 ≤ n) (h2 : n ≤ 3652059) : 1 ≤ yr n ∧ yr n ≤ 9999 ∧ 1 ≤ om n ∧ om n ≤ 12 ∧ 1 ≤ od n ∧ od n ≤ dm (yr n) (om n) := by
  obtain ⟨a, b, _, _, _, _, c, d, e, f⟩ := Cal.of_spec n h1 h2
  exact ⟨a, b, c, d, e, f⟩

/-- The months of a day's date are of the table, and the way that is gone fits. -/
theorem gone_bd (s : Nat → Int) (n : Int) (h : sk s = 0) (h1 : 1 ≤ n) (h2 : n ≤ 3652059) :
    900 ≤ ta s n ∧ ta s n ≤ 1320 ∧ 900 ≤ tb s n ∧ tb s n ≤ 1320 ∧ -120 ≤ tb s n - ta s n ∧ tb s n - ta s n ≤ 120 ∧ 0 ≤ od n - 1 ∧ od n - 1 ≤ 30 ∧ 28 ≤ dm (yr n) (om n) ∧ dm (yr n) (om n) ≤ 31 ∧
      -3600 ≤ (tb s n - ta s n) * (od n - 1) ∧ (tb s n - ta s n) * (od n - 1) ≤ 3600 := by
  obtain ⟨hm, hs⟩ := (sk_ok s).1 h
  obtain ⟨a, b, c, d, e, f⟩ := date_bd n h1 h2
  have g := Cal.dm_bd (yr n) (om n) a b c d
  have i0 := hm ((om n).toNat - 1) (by omega)
  have i1 := hm ((om n).toNat % 12) (by omega)
  have i2 := hs ((om n).toNat - 1) (by omega)
  have ei : ((om n).toNat - 1) + 1 = (om n).toNat := by omega
  rw [ei] at i2
  unfold ta tb
  generalize s ((om n).toNat % 12) = y at *
  generalize s ((om n).toNat - 1) = x at *
  generalize ho : od n - 1 = o at *
  have o0 : 0 ≤ o := by omega
  have o1 : o ≤ 30 := by omega
  have p0 : (y - x) * o ≤ 120 * o := Int.mul_le_mul_of_nonneg_right (by omega) o0
  have p1 : -120 * o ≤ (y - x) * o := Int.mul_le_mul_of_nonneg_right (by omega) o0
  omega

theorem sa_bd (s : Nat → Int) (n : Int) (h : sk s = 0) (h1 : 1 ≤ n) (h2 : n ≤ 3652059) : 700 ≤ sa s n ∧ sa s n ≤ 1500 := by
  obtain ⟨a0, a1, b0, b1, c0, c1, o0, o1, d0, d1, p0, p1⟩ := gone_bd s n h h1 h2
  unfold sa
  generalize (tb s n - ta s n) * (od n - 1) = p at *
  generalize dm (yr n) (om n) = d at *
  have q0 : -180 ≤ p / d := by
    rw [Int.le_ediv_iff_mul_le (by omega)]; omega
  have q1 : p / d ≤ 180 := by
    have := (Int.ediv_lt_iff_lt_mul (a := p) (b := 181) (c := d) (by omega)).2 (by omega)
    omega
  omega

end Go.Proofs.YtepaiolhflpmeaaDoor.Su
