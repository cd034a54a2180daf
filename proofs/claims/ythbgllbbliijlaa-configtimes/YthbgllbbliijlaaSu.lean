/-
  Plain facts on tables of sunsets, in whole numbers: which may be. No condition.
-/
import Derived.Test.YthbgllbbliijlaaZo
namespace Go.Proofs.Ythbgllbbliijlaa.Su
open Go.Proofs.Ythbgllbbliijlaa.Zo

/-- Each minute is from 900 to 1320. -/
def okM (s : Nat → Int) : Prop := ∀ i, i < 12 → 900 ≤ s i ∧ s i ≤ 1320

/-- Each differs from the next one by 120 at most. -/
def okS (s : Nat → Int) : Prop := ∀ i, i < 12 → -120 ≤ s ((i + 1) % 12) - s i ∧ s ((i + 1) % 12) - s i ≤ 120

instance (s : Nat → Int) : Decidable (okM s) := by unfold okM; infer_instance
instance (s : Nat → Int) : Decidable (okS s) := by unfold okS; infer_instance

/-- The error of a table, or 0. -/
def sk (s : Nat → Int) : Int := if okM s then (if okS s then 0 else 71) else 70

theorem sk_ok (s : Nat → Int) : sk s = 0 ↔ okM s ∧ okS s := by
  unfold sk
  by_cases h : okM s
  · rw [if_pos h]
    by_cases k : okS s
    · rw [if_pos k]; simp [h, k]
    · rw [if_neg k]; simp [k]
  · rw [if_neg h]; simp [h]

theorem sk_m (s : Nat → Int) (k : Nat) (hk : k < 12) (h : ¬ (900 ≤ s k ∧ s k ≤ 1320)) : sk s = 70 := by
  unfold sk; rw [if_neg (fun g => h (g k hk))]

theorem sk_s (s : Nat → Int) (k : Nat) (hk : k < 12) (hm : okM s) (h : ¬ (-120 ≤ s ((k + 1) % 12) - s k ∧ s ((k + 1) % 12) - s k ≤ 120)) : sk s = 71 := by
  unfold sk; rw [if_pos hm, if_neg (fun g => h (g k hk))]

end Go.Proofs.Ythbgllbbliijlaa.Su
