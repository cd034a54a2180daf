/-
  What the calls of layer 1 answer, call by call: the contracts of the functions that the statements of this seat go through. Conditions: the numbers are ints, as each theorem says.
-/
import Derived.Test.YtepaiolhflpmeaaDoorRows
import Derived.Test.YtepaiolhflpmeaaDoorMath
import Derived.WalkKit
import Derived.Lib.Hide
import Derived.ProofKit
import Derived.OpenShut
import Derived.Outline
import Derived.Deep.QuietTactic
import Derived.BigQuiet
namespace Go.Proofs.YtepaiolhflpmeaaDoor.Divs
open Go.ChangeShapes Go.WideShapes Go.ChangeAt Go.RowKit

theorem grown_drewN (w : World) (n : Nat) : Grown w (w.drewN n) := Grown.refl w

theorem ret1 {a b : Int} (h : a = b) : Ending.returned (.int .i64 a) = .returned (.int .i64 b) := by rw [h]

theorem ret2 {a b c d : Int} (h1 : a = c) (h2 : b = d) : Ending.returned (.tuple #[.int .i64 a, .int .i64 b]) = .returned (.tuple #[.int .i64 c, .int .i64 d]) := by rw [h1, h2]

theorem dd_any (a b : Int) (w : World) (ha0 : -9223372036854775808 ≤ a) (ha1 : a ≤ 9223372036854775807) (hb0 : 1 ≤ b) (hb1 : b ≤ 9223372036854775807) :
    Calls Tryd.prog 35 #[.int .i64 a, .int .i64 b] w fun e w' => e = .returned (.tuple #[.int .i64 (a / b), .int .i64 (a % b)]) ∧ ∃ n, w' = w.drewN n := by
  have ht := tpair a b hb0
  have hbd := ediv_bd a b hb0
  have hm0 := Int.emod_nonneg a (show b ≠ 0 by omega)
  have hm1 := Int.emod_lt_of_pos a (show 0 < b by omega)
  have hz : (b == 0) = false := by simp; omega
  by_cases hr : a.tmod b < 0
  · obtain ⟨h1, h2⟩ := ht.1 hr
    have hq0 : -9223372036854775808 ≤ a.tdiv b - 1 := by omega
    have hq1 : a.tdiv b - 1 ≤ 9223372036854775807 := by omega
    have hr0 : 0 ≤ a.tmod b + b := by omega
    have hr1 : a.tmod b + b < b := by omega
    have H1 := Lib.hid h1
    have H2 := Lib.hid h2
    clear h1 h2 ht hbd hm0 hm1
    go_enter Tryd.func35, Tryd.ntmps35
    go_wp2
    go_quiet (fail)
    go_wp2
    go_ret2
    exact ⟨ret2 H1.out H2.out, _, rfl⟩
  · obtain ⟨h1, h2⟩ := ht.2 (by omega)
    have H1 := Lib.hid h1
    have H2 := Lib.hid h2
    clear h1 h2 ht hbd hm0 hm1
    go_enter Tryd.func35, Tryd.ntmps35
    go_wp2
    go_quiet (fail)
    go_wp2
    go_ret2
    exact ⟨ret2 H1.out H2.out, _, rfl⟩

theorem div_no (a b : Int) (w : World) (h : b < 1) :
    Calls Tryd.prog 20 #[.int .i64 a, .int .i64 b] w fun e w' => e = .returned (.tuple #[.int .i64 0, .int .i64 10]) ∧ ∃ n, w' = w.drewN n := by
  go_enter Tryd.func20, Tryd.ntmps20
  go_wp2
  go_ret2
  exact ⟨rfl, 0, rfl⟩

theorem mod_no (a b : Int) (w : World) (h : b < 1) :
    Calls Tryd.prog 43 #[.int .i64 a, .int .i64 b] w fun e w' => e = .returned (.tuple #[.int .i64 0, .int .i64 10]) ∧ ∃ n, w' = w.drewN n := by
  go_enter Tryd.func43, Tryd.ntmps43
  go_wp2
  go_ret2
  exact ⟨rfl, 0, rfl⟩

theorem div_yes (a b : Int) (w : World) (ha0 : -9223372036854775808 ≤ a) (ha1 : a ≤ 9223372036854775807) (hb0 : 1 ≤ b) (hb1 : b ≤ 9223372036854775807) :
    Calls Tryd.prog 20 #[.int .i64 a, .int .i64 b] w fun e w' => e = .returned (.tuple #[.int .i64 (a / b), .int .i64 0]) ∧ ∃ n, w' = w.drewN n := by
  have h : ¬ b < 1 := by omega
  go_enter Tryd.func20, Tryd.ntmps20
  go_wp2_with (go_at_call 35; refine (dd_any _ _ _ ha0 ha1 hb0 hb1).mono ?_; rintro e w' ⟨rfl, n, rfl⟩)
  go_ret2
  exact ⟨rfl, _, rfl⟩

theorem mod_yes (a b : Int) (w : World) (ha0 : -9223372036854775808 ≤ a) (ha1 : a ≤ 9223372036854775807) (hb0 : 1 ≤ b) (hb1 : b ≤ 9223372036854775807) :
    Calls Tryd.prog 43 #[.int .i64 a, .int .i64 b] w fun e w' => e = .returned (.tuple #[.int .i64 (a % b), .int .i64 0]) ∧ ∃ n, w' = w.drewN n := by
  have h : ¬ b < 1 := by omega
  go_enter Tryd.func43, Tryd.ntmps43
  go_wp2_with (go_at_call 35; refine (dd_any _ _ _ ha0 ha1 hb0 hb1).mono ?_; rintro e w' ⟨rfl, n, rfl⟩)
  go_ret2
  exact ⟨rfl, _, rfl⟩

def clampI (n lo hi : Int) : Int := if n < lo ∨ hi < lo then lo else if hi < n then hi else n

theorem clamp_any (n lo hi : Int) (w : World) :
    Calls Tryd.prog 47 #[.int .i64 n, .int .i64 lo, .int .i64 hi] w fun e w' => e = .returned (.int .i64 (clampI n lo hi)) ∧ ∃ n, w' = w.drewN n := by
  by_cases h1 : n < lo
  · have hv : Hid (clampI n lo hi = lo) := by unfold clampI; rw [if_pos (Or.inl h1)]; exact rfl
    go_enter Tryd.func47, Tryd.ntmps47
    go_wp2
    go_ret
    exact ⟨ret1 hv.out.symm, 0, rfl⟩
  · by_cases h2 : hi < lo
    · have hv : Hid (clampI n lo hi = lo) := by unfold clampI; rw [if_pos (Or.inr h2)]; exact rfl
      go_enter Tryd.func47, Tryd.ntmps47
      go_wp2
      go_ret
      exact ⟨ret1 hv.out.symm, 0, rfl⟩
    · by_cases h3 : hi < n
      · have hv : Hid (clampI n lo hi = hi) := by unfold clampI; rw [if_neg (by omega), if_pos h3]; exact rfl
        go_enter Tryd.func47, Tryd.ntmps47
        go_wp2
        go_ret
        exact ⟨ret1 hv.out.symm, 0, rfl⟩
      · have hv : Hid (clampI n lo hi = n) := by unfold clampI; rw [if_neg (by omega), if_neg h3]; exact rfl
        go_enter Tryd.func47, Tryd.ntmps47
        go_wp2
        go_ret
        exact ⟨ret1 hv.out.symm, 0, rfl⟩
end Go.Proofs.YtepaiolhflpmeaaDoor.Divs
