/-
  What the document's own Next of layer 1 comes to. Conditions: the numbers are ints.
-/
import Derived.Test.YtekgbdakafmbhaaRefs
namespace Go.Proofs.Ytekgbdakafmbhaa.Divs
open Go.ChangeShapes Go.WideShapes Go.ChangeAt Go.RowKit

theorem rnext_by (a b r : Int) (w : World) (h : b < 1) :
    Calls Try.prog 18 #[.int .i64 a, .int .i64 b, .int .i64 r] w fun e w' => e = .returned (.tuple #[.int .i64 0, .int .i64 10]) ∧ ∃ n, w' = w.drewN n := by
  go_enter Try.func18, Try.ntmps18
  go_wp2
  go_ret2
  exact ⟨rfl, 0, rfl⟩

theorem rnext_rest (a b r : Int) (w : World) (h : 1 ≤ b) (hr : r < 0 ∨ b ≤ r) :
    Calls Try.prog 18 #[.int .i64 a, .int .i64 b, .int .i64 r] w fun e w' => e = .returned (.tuple #[.int .i64 0, .int .i64 11]) ∧ ∃ n, w' = w.drewN n := by
  have h1 : ¬ b < 1 := by omega
  by_cases h2 : r < 0
  · go_enter Try.func18, Try.ntmps18
    go_wp2
    go_ret2
    exact ⟨rfl, 0, rfl⟩
  · have h3 : b ≤ r := by omega
    clear hr
    go_enter Try.func18, Try.ntmps18
    go_wp2
    go_ret2
    exact ⟨rfl, 0, rfl⟩

theorem rnext_yes (a b r : Int) (w : World) (ha0 : -9223372036854775808 ≤ a) (ha1 : a ≤ 9223372036854775807) (hb0 : 1 ≤ b) (hb1 : b ≤ 9223372036854775807)
    (hr0 : 0 ≤ r) (hr1 : r < b) (hg : a ≤ 9223372036854775807 - gapI a b r) :
    Calls Try.prog 18 #[.int .i64 a, .int .i64 b, .int .i64 r] w fun e w' => e = .returned (.tuple #[.int .i64 (a + gapI a b r), .int .i64 0]) ∧ ∃ n, w' = w.drewN n := by
  have hm0 := Int.emod_nonneg a (show b ≠ 0 by omega)
  have hm1 := Int.emod_lt_of_pos a (show 0 < b by omega)
  have h1 : ¬ b < 1 := by omega
  have h2 : ¬ r < 0 := by omega
  have h3 : ¬ b ≤ r := by omega
  unfold gapI at *
  split at hg
  · rename_i hlt
    rw [if_pos hlt]
    by_cases hp : 0 < a
    · have h4 : ¬ 9223372036854775807 - a < b - a % b + r := by omega
      go_enter Try.func18, Try.ntmps18
      go_wp2_with (go_at_call 15; refine (rmod_any _ _ _ ha0 ha1 hb0 hb1).mono ?_; rintro e w' ⟨rfl, n, rfl⟩)
      go_ret2
      exact ⟨ret2 (by omega) rfl, _, rfl⟩
    · go_enter Try.func18, Try.ntmps18
      go_wp2_with (go_at_call 15; refine (rmod_any _ _ _ ha0 ha1 hb0 hb1).mono ?_; rintro e w' ⟨rfl, n, rfl⟩)
      go_ret2
      exact ⟨ret2 (by omega) rfl, _, rfl⟩
  · rename_i hlt
    rw [if_neg hlt]
    by_cases hp : 0 < a
    · have h4 : ¬ 9223372036854775807 - a < r - a % b := by omega
      go_enter Try.func18, Try.ntmps18
      go_wp2_with (go_at_call 15; refine (rmod_any _ _ _ ha0 ha1 hb0 hb1).mono ?_; rintro e w' ⟨rfl, n, rfl⟩)
      go_ret2
      exact ⟨rfl, _, rfl⟩
    · go_enter Try.func18, Try.ntmps18
      go_wp2_with (go_at_call 15; refine (rmod_any _ _ _ ha0 ha1 hb0 hb1).mono ?_; rintro e w' ⟨rfl, n, rfl⟩)
      go_ret2
      exact ⟨rfl, _, rfl⟩

theorem rnext_great (a b r : Int) (w : World) (ha0 : -9223372036854775808 ≤ a) (ha1 : a ≤ 9223372036854775807) (hb0 : 1 ≤ b) (hb1 : b ≤ 9223372036854775807)
    (hr0 : 0 ≤ r) (hr1 : r < b) (hg : 9223372036854775807 - gapI a b r < a) :
    Calls Try.prog 18 #[.int .i64 a, .int .i64 b, .int .i64 r] w fun e w' => e = .returned (.tuple #[.int .i64 0, .int .i64 12]) ∧ ∃ n, w' = w.drewN n := by
  have hm0 := Int.emod_nonneg a (show b ≠ 0 by omega)
  have hm1 := Int.emod_lt_of_pos a (show 0 < b by omega)
  have h1 : ¬ b < 1 := by omega
  have h2 : ¬ r < 0 := by omega
  have h3 : ¬ b ≤ r := by omega
  unfold gapI at *
  split at hg
  · rename_i hlt
    have hp : 0 < a := by omega
    have h4 : 9223372036854775807 - a < b - a % b + r := by omega
    go_enter Try.func18, Try.ntmps18
    go_wp2_with (go_at_call 15; refine (rmod_any _ _ _ ha0 ha1 hb0 hb1).mono ?_; rintro e w' ⟨rfl, n, rfl⟩)
    go_ret2
    exact ⟨rfl, _, rfl⟩
  · rename_i hlt
    have hp : 0 < a := by omega
    have h4 : 9223372036854775807 - a < r - a % b := by omega
    go_enter Try.func18, Try.ntmps18
    go_wp2_with (go_at_call 15; refine (rmod_any _ _ _ ha0 ha1 hb0 hb1).mono ?_; rintro e w' ⟨rfl, n, rfl⟩)
    go_ret2
    exact ⟨rfl, _, rfl⟩
end Go.Proofs.Ytekgbdakafmbhaa.Divs
