/-
  What Next of layer 1 answers. Conditions: the numbers are ints.
-/
import Derived.Test.YtepaiolhflpmeaaDoorLeaf
import Derived.WalkMore
import Derived.ScopeJumps
namespace Go.Proofs.YtepaiolhflpmeaaDoor.Divs
open Go.ChangeShapes Go.WideShapes Go.ChangeAt Go.RowKit

set_option maxRecDepth 100000 in
theorem next_jump (a b r : Int) (w : World) (ha0 : -9223372036854775808 ≤ a) (ha1 : a ≤ 9223372036854775807) (hb0 : 1 ≤ b) (hb1 : b ≤ 9223372036854775807)
    (hr0 : 0 ≤ r) (hr1 : r < b) (hlt : r < a % b) (hg : a ≤ 9223372036854775807 - (r - a % b + b)) :
    Calls Tryd.prog 52 #[.int .i64 a, .int .i64 b, .int .i64 r] w fun e w' => e = .returned (.tuple #[.int .i64 (a + (r - a % b + b)), .int .i64 0]) ∧ ∃ n, w' = w.drewN n := by
  have hm0 := Int.emod_nonneg a (show b ≠ 0 by omega)
  have hm1 := Int.emod_lt_of_pos a (show 0 < b by omega)
  have h1 : ¬ b < 1 := by omega
  have h2 : ¬ r < 0 := by omega
  have h3 : ¬ b ≤ r := by omega
  have h4 : r - a % b < 0 := by omega
  have h5 : ¬ r - a % b + b < 0 := by omega
  go_enter Tryd.func52, Tryd.ntmps52
  go_wp2
  refine wp_scope_jumps 0 (fun a' w' => ∃ (n : Nat) (u8 u9 u11 u12 u13 u14 u15 u16 u17 u18 u19 u20 u21 u22 u23 u24 u25 u26 u27 u28 u29 u30 u31 u32 u33 : Value), w' = w.drewN n ∧ a' = { tmps := #[.int .i64 a, .int .i64 b, .int .i64 r, undef, undef, undef, .int .i64 0, .int .i64 0, u8, u9, .int .i64 (r - a % b + b), u11, u12, u13, u14, u15, u16, u17, u18, u19, u20, u21, u22, u23, u24, u25, u26, u27, u28, u29, u30, u31, u32, u33, undef, undef, undef, undef, undef, undef, undef], defers := [] }) (fun _ _ => 0) rfl ?_ ?_
  · go_wp2_with (go_at_call 35; refine (dd_any _ _ _ ha0 ha1 hb0 hb1).mono ?_; rintro e w' ⟨rfl, n, rfl⟩)
    go_step3
    go_wp2
    go_step3
    exact ⟨rfl, n, _, _, _, _, _, _, _, _, _, _, _, _, _, _, _, _, _, _, _, _, _, _, _, _, _, rfl, rfl⟩
  · rintro a' w' ⟨n, u8, u9, u11, u12, u13, u14, u15, u16, u17, u18, u19, u20, u21, u22, u23, u24, u25, u26, u27, u28, u29, u30, u31, u32, u33, rfl, rfl⟩
    go_wp2
    simp only [Exit.jump]
    go_ret2
    exact ⟨rfl, _, rfl⟩

set_option maxRecDepth 100000 in
theorem next_jump_great (a b r : Int) (w : World) (ha0 : -9223372036854775808 ≤ a) (ha1 : a ≤ 9223372036854775807) (hb0 : 1 ≤ b) (hb1 : b ≤ 9223372036854775807)
    (hr0 : 0 ≤ r) (hr1 : r < b) (hlt : r < a % b) (hg : 9223372036854775807 - (r - a % b + b) < a) :
    Calls Tryd.prog 52 #[.int .i64 a, .int .i64 b, .int .i64 r] w fun e w' => e = .returned (.tuple #[.int .i64 0, .int .i64 12]) ∧ ∃ n, w' = w.drewN n := by
  have hm0 := Int.emod_nonneg a (show b ≠ 0 by omega)
  have hm1 := Int.emod_lt_of_pos a (show 0 < b by omega)
  have h1 : ¬ b < 1 := by omega
  have h2 : ¬ r < 0 := by omega
  have h3 : ¬ b ≤ r := by omega
  have h4 : r - a % b < 0 := by omega
  have h5 : ¬ r - a % b + b < 0 := by omega
  go_enter Tryd.func52, Tryd.ntmps52
  go_wp2
  refine wp_scope_jumps 0 (fun a' w' => ∃ (n : Nat) (u8 u9 u11 u12 u13 u14 u15 u16 u17 u18 u19 u20 u21 u22 u23 u24 u25 u26 u27 u28 u29 u30 u31 u32 u33 : Value), w' = w.drewN n ∧ a' = { tmps := #[.int .i64 a, .int .i64 b, .int .i64 r, undef, undef, undef, .int .i64 0, .int .i64 0, u8, u9, .int .i64 (r - a % b + b), u11, u12, u13, u14, u15, u16, u17, u18, u19, u20, u21, u22, u23, u24, u25, u26, u27, u28, u29, u30, u31, u32, u33, undef, undef, undef, undef, undef, undef, undef], defers := [] }) (fun _ _ => 0) rfl ?_ ?_
  · go_wp2_with (go_at_call 35; refine (dd_any _ _ _ ha0 ha1 hb0 hb1).mono ?_; rintro e w' ⟨rfl, n, rfl⟩)
    go_step3
    go_wp2
    go_step3
    exact ⟨rfl, n, _, _, _, _, _, _, _, _, _, _, _, _, _, _, _, _, _, _, _, _, _, _, _, _, _, rfl, rfl⟩
  · rintro a' w' ⟨n, u8, u9, u11, u12, u13, u14, u15, u16, u17, u18, u19, u20, u21, u22, u23, u24, u25, u26, u27, u28, u29, u30, u31, u32, u33, rfl, rfl⟩
    go_wp2
    simp only [Exit.jump]
    go_ret2
    exact ⟨rfl, _, rfl⟩

theorem next_straight (a b r : Int) (w : World) (ha0 : -9223372036854775808 ≤ a) (ha1 : a ≤ 9223372036854775807) (hb0 : 1 ≤ b) (hb1 : b ≤ 9223372036854775807)
    (hr0 : 0 ≤ r) (hr1 : r < b) (hlt : a % b ≤ r) (hg : a ≤ 9223372036854775807 - (r - a % b)) :
    Calls Tryd.prog 52 #[.int .i64 a, .int .i64 b, .int .i64 r] w fun e w' => e = .returned (.tuple #[.int .i64 (a + (r - a % b)), .int .i64 0]) ∧ ∃ n, w' = w.drewN n := by
  have hm0 := Int.emod_nonneg a (show b ≠ 0 by omega)
  have hm1 := Int.emod_lt_of_pos a (show 0 < b by omega)
  have h1 : ¬ b < 1 := by omega
  have h2 : ¬ r < 0 := by omega
  have h3 : ¬ b ≤ r := by omega
  have h4 : ¬ r - a % b < 0 := by omega
  go_enter Tryd.func52, Tryd.ntmps52
  go_wp2
  go_step3
  go_wp2_with (go_at_call 35; refine (dd_any _ _ _ ha0 ha1 hb0 hb1).mono ?_; rintro e w' ⟨rfl, n, rfl⟩)
  go_step3
  go_wp2
  rw [Exit.noGoto_ret]
  go_ret2
  exact ⟨rfl, _, rfl⟩

theorem next_straight_great (a b r : Int) (w : World) (ha0 : -9223372036854775808 ≤ a) (ha1 : a ≤ 9223372036854775807) (hb0 : 1 ≤ b) (hb1 : b ≤ 9223372036854775807)
    (hr0 : 0 ≤ r) (hr1 : r < b) (hlt : a % b ≤ r) (hg : 9223372036854775807 - (r - a % b) < a) :
    Calls Tryd.prog 52 #[.int .i64 a, .int .i64 b, .int .i64 r] w fun e w' => e = .returned (.tuple #[.int .i64 0, .int .i64 12]) ∧ ∃ n, w' = w.drewN n := by
  have hm0 := Int.emod_nonneg a (show b ≠ 0 by omega)
  have hm1 := Int.emod_lt_of_pos a (show 0 < b by omega)
  have h1 : ¬ b < 1 := by omega
  have h2 : ¬ r < 0 := by omega
  have h3 : ¬ b ≤ r := by omega
  have h4 : ¬ r - a % b < 0 := by omega
  go_enter Tryd.func52, Tryd.ntmps52
  go_wp2
  go_step3
  go_wp2_with (go_at_call 35; refine (dd_any _ _ _ ha0 ha1 hb0 hb1).mono ?_; rintro e w' ⟨rfl, n, rfl⟩)
  go_step3
  go_wp2
  rw [Exit.noGoto_ret]
  go_ret2
  exact ⟨rfl, _, rfl⟩

theorem next_by (a b r : Int) (w : World) (h : b < 1) :
    Calls Tryd.prog 52 #[.int .i64 a, .int .i64 b, .int .i64 r] w fun e w' => e = .returned (.tuple #[.int .i64 0, .int .i64 10]) ∧ ∃ n, w' = w.drewN n := by
  go_enter Tryd.func52, Tryd.ntmps52
  go_wp2
  go_step3
  go_wp2
  rw [Exit.noGoto_ret]
  go_ret2
  exact ⟨rfl, 0, rfl⟩

theorem next_rest (a b r : Int) (w : World) (h : 1 ≤ b) (hr : r < 0 ∨ b ≤ r) :
    Calls Tryd.prog 52 #[.int .i64 a, .int .i64 b, .int .i64 r] w fun e w' => e = .returned (.tuple #[.int .i64 0, .int .i64 11]) ∧ ∃ n, w' = w.drewN n := by
  have h1 : ¬ b < 1 := by omega
  by_cases h2 : r < 0
  · go_enter Tryd.func52, Tryd.ntmps52
    go_wp2
    go_step3
    go_wp2
    rw [Exit.noGoto_ret]
    go_ret2
    exact ⟨rfl, 0, rfl⟩
  · have h3 : b ≤ r := by omega
    clear hr
    go_enter Tryd.func52, Tryd.ntmps52
    go_wp2
    go_step3
    go_wp2
    rw [Exit.noGoto_ret]
    go_ret2
    exact ⟨rfl, 0, rfl⟩

/-- How far the next number of rest r lies from a. -/
def gapI (a b r : Int) : Int := if r < a % b then r - a % b + b else r - a % b

theorem next_yes (a b r : Int) (w : World) (ha0 : -9223372036854775808 ≤ a) (ha1 : a ≤ 9223372036854775807) (hb0 : 1 ≤ b) (hb1 : b ≤ 9223372036854775807)
    (hr0 : 0 ≤ r) (hr1 : r < b) (hg : a ≤ 9223372036854775807 - gapI a b r) :
    Calls Tryd.prog 52 #[.int .i64 a, .int .i64 b, .int .i64 r] w fun e w' => e = .returned (.tuple #[.int .i64 (a + gapI a b r), .int .i64 0]) ∧ ∃ n, w' = w.drewN n := by
  unfold gapI at *
  split at hg
  · rename_i h; rw [if_pos h]; exact next_jump a b r w ha0 ha1 hb0 hb1 hr0 hr1 h hg
  · rename_i h; rw [if_neg h]; exact next_straight a b r w ha0 ha1 hb0 hb1 hr0 hr1 (by omega) hg

theorem next_great (a b r : Int) (w : World) (ha0 : -9223372036854775808 ≤ a) (ha1 : a ≤ 9223372036854775807) (hb0 : 1 ≤ b) (hb1 : b ≤ 9223372036854775807)
    (hr0 : 0 ≤ r) (hr1 : r < b) (hg : 9223372036854775807 - gapI a b r < a) :
    Calls Tryd.prog 52 #[.int .i64 a, .int .i64 b, .int .i64 r] w fun e w' => e = .returned (.tuple #[.int .i64 0, .int .i64 12]) ∧ ∃ n, w' = w.drewN n := by
  unfold gapI at *
  split at hg
  · rename_i h; exact next_jump_great a b r w ha0 ha1 hb0 hb1 hr0 hr1 h hg
  · rename_i h; exact next_straight_great a b r w ha0 ha1 hb0 hb1 hr0 hr1 (by omega) hg
end Go.Proofs.YtepaiolhflpmeaaDoor.Divs
