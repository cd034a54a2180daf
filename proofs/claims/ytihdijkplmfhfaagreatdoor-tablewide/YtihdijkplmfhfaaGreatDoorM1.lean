/-
  Texts of mine, merged: each part says what it holds. Conditions: as each theorem states.
-/
import Derived.RowKit
import Derived.Test.YtihdijkplmfhfaaGreatDoorRows
import Derived.WalkKit
import Derived.Lib.Hide
import Derived.ProofKit
import Derived.OpenShut
import Derived.Outline
import Derived.Deep.QuietTactic
import Derived.BigQuiet
import Derived.WalkMore
import Derived.ScopeJumps
import Derived.Below
import Derived.IntWalk
import Derived.Deep.RegionWith

/- Plain facts on whole numbers: how division towards nought and division down hang together. No condition but those that each theorem states. -/
namespace Go.Proofs.YtihdijkplmfhfaaGreatDoor.Divs
set_option maxRecDepth 100000

theorem tpair (a b : Int) (hb : 1 ≤ b) :
    (a.tmod b < 0 → a.tdiv b - 1 = a / b ∧ a.tmod b + b = a % b) ∧ (0 ≤ a.tmod b → a.tdiv b = a / b ∧ a.tmod b = a % b) := by
  have h1 : b * a.tdiv b + a.tmod b = a := Int.mul_tdiv_add_tmod a b
  have h2 : -b < a.tmod b := by
    rcases Int.le_total 0 a with h | h
    · have := Int.tmod_nonneg b h; omega
    · have := Int.lt_tmod_of_pos a (show 0 < b by omega); omega
  have h3 : a.tmod b < b := Int.tmod_lt_of_pos a (by omega)
  constructor
  · intro h
    have := (Int.ediv_emod_unique (a := a) (b := b) (r := a.tmod b + b) (q := a.tdiv b - 1) (by omega)).2
      ⟨by rw [Int.mul_sub]; omega, by omega, by omega⟩
    exact ⟨this.1.symm, this.2.symm⟩
  · intro h
    have := (Int.ediv_emod_unique (a := a) (b := b) (r := a.tmod b) (q := a.tdiv b) (by omega)).2
      ⟨by omega, by omega, by omega⟩
    exact ⟨this.1.symm, this.2.symm⟩

theorem ediv_bd (a b : Int) (hb : 1 ≤ b) : (0 ≤ a → 0 ≤ a / b ∧ a / b ≤ a) ∧ (a < 0 → a ≤ a / b ∧ a / b ≤ -1) := by
  have h1 := Int.mul_ediv_add_emod a b
  have h2 := Int.emod_nonneg a (show b ≠ 0 by omega)
  have h3 := Int.emod_lt_of_pos a (show 0 < b by omega)
  constructor
  · intro h
    exact ⟨Int.ediv_nonneg h (by omega), Int.ediv_le_self _ h⟩
  · intro h
    constructor
    · refine (Int.le_ediv_iff_mul_le (by omega)).2 ?_
      have : a * b ≤ a * 1 := Int.mul_le_mul_of_nonpos_left (by omega) (by omega)
      omega
    · have : a / b < 0 := Int.ediv_neg_of_neg_of_pos h (by omega)
      omega

/-- A rest means that the divisor is at least 2, so the quotient is far from the greatest number. -/
theorem ediv_far (a b : Int) (hb : 1 ≤ b) (ha : a ≤ 9223372036854775807) (hr : 0 < a % b) : a / b ≤ 4611686018427387903 := by
  have h1 := Int.mul_ediv_add_emod a b
  have h3 := Int.emod_lt_of_pos a (show 0 < b by omega)
  rcases Int.le_total (a / b) 0 with h | h
  · omega
  · have : 2 * (a / b) ≤ b * (a / b) := Int.mul_le_mul_of_nonneg_right (by omega) h
    omega
end Go.Proofs.YtihdijkplmfhfaaGreatDoor.Divs

/- What the calls of layer 1 answer, call by call: the contracts of the functions that the statements of this seat go through. Conditions: the numbers are ints, as each theorem says. -/
namespace Go.Proofs.YtihdijkplmfhfaaGreatDoor.Divs
set_option maxRecDepth 100000
open Go.ChangeShapes Go.WideShapes Go.ChangeAt Go.RowKit

theorem grown_drewN (w : World) (n : Nat) : Grown w (w.drewN n) := Grown.refl w

theorem ret1 {a b : Int} (h : a = b) : Ending.returned (.int .i64 a) = .returned (.int .i64 b) := by rw [h]

theorem ret2 {a b c d : Int} (h1 : a = c) (h2 : b = d) : Ending.returned (.tuple #[.int .i64 a, .int .i64 b]) = .returned (.tuple #[.int .i64 c, .int .i64 d]) := by rw [h1, h2]

theorem dd_any (a b : Int) (w : World) (ha0 : -9223372036854775808 ≤ a) (ha1 : a ≤ 9223372036854775807) (hb0 : 1 ≤ b) (hb1 : b ≤ 9223372036854775807) :
    Calls Tryz.prog 102 #[.int .i64 a, .int .i64 b] w fun e w' => e = .returned (.tuple #[.int .i64 (a / b), .int .i64 (a % b)]) ∧ ∃ n, w' = w.drewN n := by
  have ht := tpair a b hb0
  have hbd := ediv_bd a b hb0
  have hm0 := Int.emod_nonneg a (show b ≠ 0 by omega)
  have hm1 := Int.emod_lt_of_pos a (show 0 < b by omega)
  have hz : (b == 0) = false := by simp; omega
  by_cases hr : a.tmod b < 0
  · obtain ⟨h1, h2⟩ := ht.1 hr
    have hq0 : -9223372036854775808 ≤ a.tdiv b - 1 := by omega
    have hq1 : a.tdiv b - 1 ≤ 9223372036854775807 := by omega
    have hr0 : 0 ≤ a.tmod b + b := by omega
    have hr1 : a.tmod b + b < b := by omega
    have H1 := Lib.hid h1
    have H2 := Lib.hid h2
    clear h1 h2 ht hbd hm0 hm1
    go_enter Tryz.func102, Tryz.ntmps102
    go_wp2
    go_quiet (fail)
    go_wp2
    go_ret2
    exact ⟨ret2 H1.out H2.out, _, rfl⟩
  · obtain ⟨h1, h2⟩ := ht.2 (by omega)
    have H1 := Lib.hid h1
    have H2 := Lib.hid h2
    clear h1 h2 ht hbd hm0 hm1
    go_enter Tryz.func102, Tryz.ntmps102
    go_wp2
    go_quiet (fail)
    go_wp2
    go_ret2
    exact ⟨ret2 H1.out H2.out, _, rfl⟩

theorem div_no (a b : Int) (w : World) (h : b < 1) :
    Calls Tryz.prog 69 #[.int .i64 a, .int .i64 b] w fun e w' => e = .returned (.tuple #[.int .i64 0, .int .i64 10]) ∧ ∃ n, w' = w.drewN n := by
  go_enter Tryz.func69, Tryz.ntmps69
  go_wp2
  go_ret2
  exact ⟨rfl, 0, rfl⟩

theorem mod_no (a b : Int) (w : World) (h : b < 1) :
    Calls Tryz.prog 76 #[.int .i64 a, .int .i64 b] w fun e w' => e = .returned (.tuple #[.int .i64 0, .int .i64 10]) ∧ ∃ n, w' = w.drewN n := by
  go_enter Tryz.func76, Tryz.ntmps76
  go_wp2
  go_ret2
  exact ⟨rfl, 0, rfl⟩

theorem div_yes (a b : Int) (w : World) (ha0 : -9223372036854775808 ≤ a) (ha1 : a ≤ 9223372036854775807) (hb0 : 1 ≤ b) (hb1 : b ≤ 9223372036854775807) :
    Calls Tryz.prog 69 #[.int .i64 a, .int .i64 b] w fun e w' => e = .returned (.tuple #[.int .i64 (a / b), .int .i64 0]) ∧ ∃ n, w' = w.drewN n := by
  have h : ¬ b < 1 := by omega
  go_enter Tryz.func69, Tryz.ntmps69
  go_wp2_with (go_at_call 102; refine (dd_any _ _ _ ha0 ha1 hb0 hb1).mono ?_; rintro e w' ⟨rfl, n, rfl⟩)
  go_ret2
  exact ⟨rfl, _, rfl⟩

theorem mod_yes (a b : Int) (w : World) (ha0 : -9223372036854775808 ≤ a) (ha1 : a ≤ 9223372036854775807) (hb0 : 1 ≤ b) (hb1 : b ≤ 9223372036854775807) :
    Calls Tryz.prog 76 #[.int .i64 a, .int .i64 b] w fun e w' => e = .returned (.tuple #[.int .i64 (a % b), .int .i64 0]) ∧ ∃ n, w' = w.drewN n := by
  have h : ¬ b < 1 := by omega
  go_enter Tryz.func76, Tryz.ntmps76
  go_wp2_with (go_at_call 102; refine (dd_any _ _ _ ha0 ha1 hb0 hb1).mono ?_; rintro e w' ⟨rfl, n, rfl⟩)
  go_ret2
  exact ⟨rfl, _, rfl⟩

def clampI (n lo hi : Int) : Int := if n < lo ∨ hi < lo then lo else if hi < n then hi else n

theorem clamp_any (n lo hi : Int) (w : World) :
    Calls Tryz.prog 131 #[.int .i64 n, .int .i64 lo, .int .i64 hi] w fun e w' => e = .returned (.int .i64 (clampI n lo hi)) ∧ ∃ n, w' = w.drewN n := by
  by_cases h1 : n < lo
  · have hv : Hid (clampI n lo hi = lo) := by unfold clampI; rw [if_pos (Or.inl h1)]; exact rfl
    go_enter Tryz.func131, Tryz.ntmps131
    go_wp2
    go_ret
    exact ⟨ret1 hv.out.symm, 0, rfl⟩
  · by_cases h2 : hi < lo
    · have hv : Hid (clampI n lo hi = lo) := by unfold clampI; rw [if_pos (Or.inr h2)]; exact rfl
      go_enter Tryz.func131, Tryz.ntmps131
      go_wp2
      go_ret
      exact ⟨ret1 hv.out.symm, 0, rfl⟩
    · by_cases h3 : hi < n
      · have hv : Hid (clampI n lo hi = hi) := by unfold clampI; rw [if_neg (by omega), if_pos h3]; exact rfl
        go_enter Tryz.func131, Tryz.ntmps131
        go_wp2
        go_ret
        exact ⟨ret1 hv.out.symm, 0, rfl⟩
      · have hv : Hid (clampI n lo hi = n) := by unfold clampI; rw [if_neg (by omega), if_neg h3]; exact rfl
        go_enter Tryz.func131, Tryz.ntmps131
        go_wp2
        go_ret
        exact ⟨ret1 hv.out.symm, 0, rfl⟩
end Go.Proofs.YtihdijkplmfhfaaGreatDoor.Divs

/- What Next of layer 1 answers. Conditions: the numbers are ints. -/
namespace Go.Proofs.YtihdijkplmfhfaaGreatDoor.Divs
set_option maxRecDepth 100000
open Go.ChangeShapes Go.WideShapes Go.ChangeAt Go.RowKit

set_option maxRecDepth 100000 in
theorem next_jump (a b r : Int) (w : World) (ha0 : -9223372036854775808 ≤ a) (ha1 : a ≤ 9223372036854775807) (hb0 : 1 ≤ b) (hb1 : b ≤ 9223372036854775807)
    (hr0 : 0 ≤ r) (hr1 : r < b) (hlt : r < a % b) (hg : a ≤ 9223372036854775807 - (r - a % b + b)) :
    Calls Tryz.prog 169 #[.int .i64 a, .int .i64 b, .int .i64 r] w fun e w' => e = .returned (.tuple #[.int .i64 (a + (r - a % b + b)), .int .i64 0]) ∧ ∃ n, w' = w.drewN n := by
  have hm0 := Int.emod_nonneg a (show b ≠ 0 by omega)
  have hm1 := Int.emod_lt_of_pos a (show 0 < b by omega)
  have h1 : ¬ b < 1 := by omega
  have h2 : ¬ r < 0 := by omega
  have h3 : ¬ b ≤ r := by omega
  have h4 : r - a % b < 0 := by omega
  have h5 : ¬ r - a % b + b < 0 := by omega
  go_enter Tryz.func169, Tryz.ntmps169
  go_wp2
  refine wp_scope_jumps 0 (fun a' w' => ∃ (n : Nat) (u8 u9 u11 u12 u13 u14 u15 u16 u17 u18 u19 u20 u21 u22 u23 u24 u25 u26 u27 u28 u29 u30 u31 u32 u33 : Value), w' = w.drewN n ∧ a' = { tmps := #[.int .i64 a, .int .i64 b, .int .i64 r, undef, undef, undef, .int .i64 0, .int .i64 0, u8, u9, .int .i64 (r - a % b + b), u11, u12, u13, u14, u15, u16, u17, u18, u19, u20, u21, u22, u23, u24, u25, u26, u27, u28, u29, u30, u31, u32, u33, undef, undef, undef, undef, undef, undef, undef], defers := [] }) (fun _ _ => 0) rfl ?_ ?_
  · go_wp2_with (go_at_call 102; refine (dd_any _ _ _ ha0 ha1 hb0 hb1).mono ?_; rintro e w' ⟨rfl, n, rfl⟩)
    go_step3
    go_wp2
    go_step3
    exact ⟨rfl, n, _, _, _, _, _, _, _, _, _, _, _, _, _, _, _, _, _, _, _, _, _, _, _, _, _, rfl, rfl⟩
  · rintro a' w' ⟨n, u8, u9, u11, u12, u13, u14, u15, u16, u17, u18, u19, u20, u21, u22, u23, u24, u25, u26, u27, u28, u29, u30, u31, u32, u33, rfl, rfl⟩
    go_wp2
    simp only [Exit.jump]
    go_ret2
    exact ⟨rfl, _, rfl⟩

set_option maxRecDepth 100000 in
theorem next_jump_great (a b r : Int) (w : World) (ha0 : -9223372036854775808 ≤ a) (ha1 : a ≤ 9223372036854775807) (hb0 : 1 ≤ b) (hb1 : b ≤ 9223372036854775807)
    (hr0 : 0 ≤ r) (hr1 : r < b) (hlt : r < a % b) (hg : 9223372036854775807 - (r - a % b + b) < a) :
    Calls Tryz.prog 169 #[.int .i64 a, .int .i64 b, .int .i64 r] w fun e w' => e = .returned (.tuple #[.int .i64 0, .int .i64 12]) ∧ ∃ n, w' = w.drewN n := by
  have hm0 := Int.emod_nonneg a (show b ≠ 0 by omega)
  have hm1 := Int.emod_lt_of_pos a (show 0 < b by omega)
  have h1 : ¬ b < 1 := by omega
  have h2 : ¬ r < 0 := by omega
  have h3 : ¬ b ≤ r := by omega
  have h4 : r - a % b < 0 := by omega
  have h5 : ¬ r - a % b + b < 0 := by omega
  go_enter Tryz.func169, Tryz.ntmps169
  go_wp2
  refine wp_scope_jumps 0 (fun a' w' => ∃ (n : Nat) (u8 u9 u11 u12 u13 u14 u15 u16 u17 u18 u19 u20 u21 u22 u23 u24 u25 u26 u27 u28 u29 u30 u31 u32 u33 : Value), w' = w.drewN n ∧ a' = { tmps := #[.int .i64 a, .int .i64 b, .int .i64 r, undef, undef, undef, .int .i64 0, .int .i64 0, u8, u9, .int .i64 (r - a % b + b), u11, u12, u13, u14, u15, u16, u17, u18, u19, u20, u21, u22, u23, u24, u25, u26, u27, u28, u29, u30, u31, u32, u33, undef, undef, undef, undef, undef, undef, undef], defers := [] }) (fun _ _ => 0) rfl ?_ ?_
  · go_wp2_with (go_at_call 102; refine (dd_any _ _ _ ha0 ha1 hb0 hb1).mono ?_; rintro e w' ⟨rfl, n, rfl⟩)
    go_step3
    go_wp2
    go_step3
    exact ⟨rfl, n, _, _, _, _, _, _, _, _, _, _, _, _, _, _, _, _, _, _, _, _, _, _, _, _, _, rfl, rfl⟩
  · rintro a' w' ⟨n, u8, u9, u11, u12, u13, u14, u15, u16, u17, u18, u19, u20, u21, u22, u23, u24, u25, u26, u27, u28, u29, u30, u31, u32, u33, rfl, rfl⟩
    go_wp2
    simp only [Exit.jump]
    go_ret2
    exact ⟨rfl, _, rfl⟩

theorem next_straight (a b r : Int) (w : World) (ha0 : -9223372036854775808 ≤ a) (ha1 : a ≤ 9223372036854775807) (hb0 : 1 ≤ b) (hb1 : b ≤ 9223372036854775807)
    (hr0 : 0 ≤ r) (hr1 : r < b) (hlt : a % b ≤ r) (hg : a ≤ 9223372036854775807 - (r - a % b)) :
    Calls Tryz.prog 169 #[.int .i64 a, .int .i64 b, .int .i64 r] w fun e w' => e = .returned (.tuple #[.int .i64 (a + (r - a % b)), .int .i64 0]) ∧ ∃ n, w' = w.drewN n := by
  have hm0 := Int.emod_nonneg a (show b ≠ 0 by omega)
  have hm1 := Int.emod_lt_of_pos a (show 0 < b by omega)
  have h1 : ¬ b < 1 := by omega
  have h2 : ¬ r < 0 := by omega
  have h3 : ¬ b ≤ r := by omega
  have h4 : ¬ r - a % b < 0 := by omega
  go_enter Tryz.func169, Tryz.ntmps169
  go_wp2
  go_step3
  go_wp2_with (go_at_call 102; refine (dd_any _ _ _ ha0 ha1 hb0 hb1).mono ?_; rintro e w' ⟨rfl, n, rfl⟩)
  go_step3
  go_wp2
  rw [Exit.noGoto_ret]
  go_ret2
  exact ⟨rfl, _, rfl⟩

theorem next_straight_great (a b r : Int) (w : World) (ha0 : -9223372036854775808 ≤ a) (ha1 : a ≤ 9223372036854775807) (hb0 : 1 ≤ b) (hb1 : b ≤ 9223372036854775807)
    (hr0 : 0 ≤ r) (hr1 : r < b) (hlt : a % b ≤ r) (hg : 9223372036854775807 - (r - a % b) < a) :
    Calls Tryz.prog 169 #[.int .i64 a, .int .i64 b, .int .i64 r] w fun e w' => e = .returned (.tuple #[.int .i64 0, .int .i64 12]) ∧ ∃ n, w' = w.drewN n := by
  have hm0 := Int.emod_nonneg a (show b ≠ 0 by omega)
  have hm1 := Int.emod_lt_of_pos a (show 0 < b by omega)
  have h1 : ¬ b < 1 := by omega
  have h2 : ¬ r < 0 := by omega
  have h3 : ¬ b ≤ r := by omega
  have h4 : ¬ r - a % b < 0 := by omega
  go_enter Tryz.func169, Tryz.ntmps169
  go_wp2
  go_step3
  go_wp2_with (go_at_call 102; refine (dd_any _ _ _ ha0 ha1 hb0 hb1).mono ?_; rintro e w' ⟨rfl, n, rfl⟩)
  go_step3
  go_wp2
  rw [Exit.noGoto_ret]
  go_ret2
  exact ⟨rfl, _, rfl⟩

theorem next_by (a b r : Int) (w : World) (h : b < 1) :
    Calls Tryz.prog 169 #[.int .i64 a, .int .i64 b, .int .i64 r] w fun e w' => e = .returned (.tuple #[.int .i64 0, .int .i64 10]) ∧ ∃ n, w' = w.drewN n := by
  go_enter Tryz.func169, Tryz.ntmps169
  go_wp2
  go_step3
  go_wp2
  rw [Exit.noGoto_ret]
  go_ret2
  exact ⟨rfl, 0, rfl⟩

theorem next_rest (a b r : Int) (w : World) (h : 1 ≤ b) (hr : r < 0 ∨ b ≤ r) :
    Calls Tryz.prog 169 #[.int .i64 a, .int .i64 b, .int .i64 r] w fun e w' => e = .returned (.tuple #[.int .i64 0, .int .i64 11]) ∧ ∃ n, w' = w.drewN n := by
  have h1 : ¬ b < 1 := by omega
  by_cases h2 : r < 0
  · go_enter Tryz.func169, Tryz.ntmps169
    go_wp2
    go_step3
    go_wp2
    rw [Exit.noGoto_ret]
    go_ret2
    exact ⟨rfl, 0, rfl⟩
  · have h3 : b ≤ r := by omega
    clear hr
    go_enter Tryz.func169, Tryz.ntmps169
    go_wp2
    go_step3
    go_wp2
    rw [Exit.noGoto_ret]
    go_ret2
    exact ⟨rfl, 0, rfl⟩

/-- How far the next number of rest r lies from a. -/
def gapI (a b r : Int) : Int := if r < a % b then r - a % b + b else r - a % b

theorem next_yes (a b r : Int) (w : World) (ha0 : -9223372036854775808 ≤ a) (ha1 : a ≤ 9223372036854775807) (hb0 : 1 ≤ b) (hb1 : b ≤ 9223372036854775807)
    (hr0 : 0 ≤ r) (hr1 : r < b) (hg : a ≤ 9223372036854775807 - gapI a b r) :
    Calls Tryz.prog 169 #[.int .i64 a, .int .i64 b, .int .i64 r] w fun e w' => e = .returned (.tuple #[.int .i64 (a + gapI a b r), .int .i64 0]) ∧ ∃ n, w' = w.drewN n := by
  unfold gapI at *
  split at hg
  · rename_i h; rw [if_pos h]; exact next_jump a b r w ha0 ha1 hb0 hb1 hr0 hr1 h hg
  · rename_i h; rw [if_neg h]; exact next_straight a b r w ha0 ha1 hb0 hb1 hr0 hr1 (by omega) hg

theorem next_great (a b r : Int) (w : World) (ha0 : -9223372036854775808 ≤ a) (ha1 : a ≤ 9223372036854775807) (hb0 : 1 ≤ b) (hb1 : b ≤ 9223372036854775807)
    (hr0 : 0 ≤ r) (hr1 : r < b) (hg : 9223372036854775807 - gapI a b r < a) :
    Calls Tryz.prog 169 #[.int .i64 a, .int .i64 b, .int .i64 r] w fun e w' => e = .returned (.tuple #[.int .i64 0, .int .i64 12]) ∧ ∃ n, w' = w.drewN n := by
  unfold gapI at *
  split at hg
  · rename_i h; exact next_jump_great a b r w ha0 ha1 hb0 hb1 hr0 hr1 h hg
  · rename_i h; exact next_straight_great a b r w ha0 ha1 hb0 hb1 hr0 hr1 (by omega) hg
end Go.Proofs.YtihdijkplmfhfaaGreatDoor.Divs

/- Plain facts on the civil calendar, in whole numbers: leap years, months, days ahead of a year and of a month, and how a day's number is taken apart. No condition but those that each theorem states. -/
namespace Go.Proofs.YtihdijkplmfhfaaGreatDoor.Cal
set_option maxRecDepth 100000

/-- Is y a leap year? (Of any whole number, also below 0.) -/
def lp (y : Int) : Bool := decide ((y % 4 = 0 ∧ ¬ y % 100 = 0) ∨ y % 400 = 0)

/-- Days of a year. -/
def ln (y : Int) : Int := if lp y = true then 366 else 365

/-- Days of a month of a common year, 0 where there is no such month. -/
def tab (m : Int) : Int :=
  if m = 2 then 28 else if m = 4 ∨ m = 6 ∨ m = 9 ∨ m = 11 then 30 else 31

def dm (y m : Int) : Int :=
  if y < 1 ∨ 9999 < y ∨ m < 1 ∨ 12 < m then 0 else if m = 2 ∧ lp y = true then 29 else tab m

/-- Days of all years ahead of y. -/
def ya (y : Int) : Int := (y - 1) * 365 + (y - 1) / 4 - (y - 1) / 100 + (y - 1) / 400

/-- Days of a year's months ahead of m. -/
def ma (y m : Int) : Int :=
  (if m ≤ 1 then 0 else if m = 2 then 31 else if m = 3 then 59 else if m = 4 then 90 else if m = 5 then 120 else if m = 6 then 151
    else if m = 7 then 181 else if m = 8 then 212 else if m = 9 then 243 else if m = 10 then 273 else if m = 11 then 304 else if m = 12 then 334 else 365)
  + (if 3 ≤ m ∧ lp y = true then 1 else 0)

/-- A date's number. -/
def dn (y m d : Int) : Int := ya y + ma y m + d

theorem lp_iff (y : Int) : lp y = true ↔ ((y % 4 = 0 ∧ ¬ y % 100 = 0) ∨ y % 400 = 0) := by simp [lp]
theorem lp_not (y : Int) : lp y = false ↔ ¬ ((y % 4 = 0 ∧ ¬ y % 100 = 0) ∨ y % 400 = 0) := by simp [lp]

theorem ln_cases (y : Int) : (lp y = true ∧ ln y = 366) ∨ (lp y = false ∧ ln y = 365) := by
  unfold ln; cases h : lp y <;> simp

theorem ya_succ (y : Int) : ya (y + 1) = ya y + ln y := by
  rcases ln_cases y with ⟨h, e⟩ | ⟨h, e⟩
  · rw [lp_iff] at h; rw [e]; unfold ya; omega
  · rw [lp_not] at h; rw [e]; unfold ya; omega

theorem ya_bd (y : Int) (h1 : 1 ≤ y) (h2 : y ≤ 10000) : 0 ≤ ya y ∧ ya y ≤ 3652059 := by unfold ya; omega
theorem ya_one : ya 1 = 0 := by decide
theorem ya_end : ya 10000 = 3652059 := by decide

theorem ya_mono (a b : Int) (h : a ≤ b) : ya a ≤ ya b := by unfold ya; omega
theorem ya_lt (a b : Int) (h : a < b) : ya a + 365 ≤ ya b := by unfold ya; omega

theorem ma_succ (y m : Int) (hy1 : 1 ≤ y) (hy2 : y ≤ 9999) (h1 : 1 ≤ m) (h2 : m ≤ 12) : ma y (m + 1) = ma y m + dm y m := by
  obtain rfl | rfl | rfl | rfl | rfl | rfl | rfl | rfl | rfl | rfl | rfl | rfl : m = 1 ∨ m = 2 ∨ m = 3 ∨ m = 4 ∨ m = 5 ∨ m = 6 ∨ m = 7 ∨ m = 8 ∨ m = 9 ∨ m = 10 ∨ m = 11 ∨ m = 12 := by omega
  all_goals
    have e : ¬ (y < 1 ∨ 9999 < y) := by omega
    cases h : lp y <;> simp [ma, dm, tab, h] <;> omega

theorem dm_bd (y m : Int) (hy1 : 1 ≤ y) (hy2 : y ≤ 9999) (h1 : 1 ≤ m) (h2 : m ≤ 12) : 28 ≤ dm y m ∧ dm y m ≤ 31 := by
  unfold dm tab
  rw [if_neg (by omega)]
  split <;> (try split) <;> (try split) <;> omega

theorem dm_le (y m : Int) : 0 ≤ dm y m ∧ dm y m ≤ 31 := by
  unfold dm tab
  split
  · omega
  · split <;> (try split) <;> (try split) <;> omega

theorem dm_no (y m : Int) (h : y < 1 ∨ 9999 < y ∨ m < 1 ∨ 12 < m) : dm y m = 0 := by unfold dm; rw [if_pos h]

theorem dm_some (y m : Int) (h : ¬ dm y m = 0) : 1 ≤ y ∧ y ≤ 9999 ∧ 1 ≤ m ∧ m ≤ 12 := by
  by_cases hh : y < 1 ∨ 9999 < y ∨ m < 1 ∨ 12 < m
  · exact absurd (dm_no y m hh) h
  · omega

theorem ma_one (y : Int) : ma y 1 = 0 := by simp [ma]
theorem ma_end (y : Int) : ma y 13 = ln y := by unfold ma ln; cases lp y <;> simp

theorem ma_step (y m : Int) : ma y m ≤ ma y (m + 1) := by
  by_cases h0 : m ≤ 0
  · unfold ma; rw [if_pos (show m ≤ 1 by omega), if_pos (show m + 1 ≤ 1 by omega), if_neg (by omega), if_neg (by omega)]; omega
  by_cases h13 : 13 ≤ m
  · have h1 : ∀ k : Int, 13 ≤ k → ma y k = 365 + (if lp y = true then 1 else 0) := by
      intro k hk
      unfold ma
      rw [if_neg (by omega), if_neg (by omega), if_neg (by omega), if_neg (by omega), if_neg (by omega), if_neg (by omega), if_neg (by omega), if_neg (by omega), if_neg (by omega), if_neg (by omega), if_neg (by omega), if_neg (by omega)]
      have : 3 ≤ k := by omega
      simp [this]
    rw [h1 m h13, h1 (m + 1) (by omega)]; omega
  obtain rfl | rfl | rfl | rfl | rfl | rfl | rfl | rfl | rfl | rfl | rfl | rfl : m = 1 ∨ m = 2 ∨ m = 3 ∨ m = 4 ∨ m = 5 ∨ m = 6 ∨ m = 7 ∨ m = 8 ∨ m = 9 ∨ m = 10 ∨ m = 11 ∨ m = 12 := by omega
  all_goals cases h : lp y <;> simp [ma, h]

theorem ma_mono_nat (y a : Int) : ∀ k : Nat, ma y a ≤ ma y (a + k)
  | 0 => by simp
  | k + 1 => by
    have h := ma_mono_nat y a k
    have g := ma_step y (a + k)
    have e : a + ((k + 1 : Nat) : Int) = a + k + 1 := by omega
    rw [e]; omega

theorem ma_mono (y a b : Int) (h : a ≤ b) : ma y a ≤ ma y b := by
  have := ma_mono_nat y a (b - a).toNat
  have e : a + ((b - a).toNat : Int) = b := by omega
  rwa [e] at this

theorem ma_bd (y m : Int) (h2 : m ≤ 13) : 0 ≤ ma y m ∧ ma y m ≤ ln y := by
  have a := ma_mono y m 13 h2
  rw [ma_end] at a
  refine ⟨?_, a⟩
  by_cases h : m ≤ 1
  · unfold ma; rw [if_pos h, if_neg (by omega)]; omega
  · have := ma_mono y 1 m (by omega)
    rw [ma_one] at this
    exact this

/-- A day of a month that may be, in its year and among all. -/
theorem dn_bd (y m d : Int) (hy1 : 1 ≤ y) (hy2 : y ≤ 9999) (h1 : 1 ≤ m) (h2 : m ≤ 12) (d1 : 1 ≤ d) (d2 : d ≤ dm y m) :
    ya y < dn y m d ∧ dn y m d ≤ ya (y + 1) ∧ 1 ≤ dn y m d ∧ dn y m d ≤ 3652059 := by
  have a := ma_succ y m hy1 hy2 h1 h2
  have b := ma_bd y (m + 1) (by omega)
  have c := ma_bd y m (by omega)
  have e := ya_succ y
  have f := ya_bd y (by omega) (by omega)
  have g := ya_bd (y + 1) (by omega) (by omega)
  unfold dn
  omega

/-- The year of a day, as the program reckons it. -/
def yr (n : Int) : Int :=
  let r := n - 1
  let a := r / 146097
  let s := r % 146097
  let b := if 3 < s / 36524 then 3 else s / 36524
  let t := s - b * 36524
  let c := t / 1461
  let u := t % 1461
  let d := if 3 < u / 365 then 3 else u / 365
  a * 400 + b * 100 + c * 4 + d + 1

theorem ya_of (a b c d : Int) (b0 : 0 ≤ b) (b1 : b ≤ 3) (c0 : 0 ≤ c) (c1 : c ≤ 24) (d0 : 0 ≤ d) (d1 : d ≤ 3) :
    ya (a * 400 + b * 100 + c * 4 + d + 1) = a * 146097 + b * 36524 + c * 1461 + d * 365 := by
  unfold ya; omega

theorem yr_spec (n : Int) (h1 : 1 ≤ n) (h2 : n ≤ 3652059) : 1 ≤ yr n ∧ yr n ≤ 9999 ∧ ya (yr n) < n ∧ n ≤ ya (yr n + 1) := by
  have key : 0 ≤ yr n - 1 ∧ ya (yr n) < n ∧ n ≤ ya (yr n + 1) := by
    rw [ya_succ]
    unfold yr
    dsimp only
    generalize ha : (n - 1) / 146097 = a
    generalize hs : (n - 1) % 146097 = s
    have hs0 : 0 ≤ s ∧ s < 146097 := by omega
    have hn : n = a * 146097 + s + 1 := by omega
    have ha0 : 0 ≤ a := by omega
    clear ha hs
    generalize hb : (if 3 < s / 36524 then (3 : Int) else s / 36524) = b
    have hb0 : 0 ≤ b ∧ b ≤ 3 ∧ b * 36524 ≤ s ∧ (s < (b + 1) * 36524 ∨ (b = 3 ∧ s = 146096)) := by
      split at hb <;> omega
    clear hb
    generalize ht : s - b * 36524 = t
    have ht0 : 0 ≤ t ∧ t ≤ 36524 ∧ (t = 36524 → b = 3) := by omega
    generalize hc : t / 1461 = c
    generalize hu : t % 1461 = u
    have hc0 : 0 ≤ c ∧ c ≤ 24 ∧ 0 ≤ u ∧ u ≤ 1460 ∧ t = c * 1461 + u := by omega
    generalize hd : (if 3 < u / 365 then (3 : Int) else u / 365) = d
    have hd0 : 0 ≤ d ∧ d ≤ 3 ∧ d * 365 ≤ u ∧ (u < (d + 1) * 365 ∨ (d = 3 ∧ u = 1460)) := by
      split at hd <;> omega
    clear hd hc hu
    rw [ya_of a b c d (by omega) (by omega) (by omega) (by omega) (by omega) (by omega)]
    refine ⟨by omega, by omega, ?_⟩
    rcases ln_cases (a * 400 + b * 100 + c * 4 + d + 1) with ⟨h, e⟩ | ⟨h, e⟩
    · rw [e]; omega
    · rw [e]
      rw [lp_not] at h
      have : ¬ (d = 3 ∧ u = 1460) := by
        rintro ⟨rfl, rfl⟩
        by_cases hc24 : c = 24
        · have hb3 : b = 3 := by omega
          subst hc24 hb3
          omega
        · omega
      omega
  obtain ⟨k1, k2, k3⟩ := key
  refine ⟨by omega, ?_, k2, k3⟩
  by_cases h : yr n ≤ 9999
  · exact h
  · have := ya_mono 10000 (yr n) (by omega)
    rw [ya_end] at this
    omega

/-- The year of a day is the only one that holds it. -/
theorem yr_only (y n : Int) (hy1 : 1 ≤ y) (hy2 : y ≤ 9999) (h1 : ya y < n) (h2 : n ≤ ya (y + 1)) : yr n = y := by
  have a := ya_bd y (by omega) (by omega)
  have b := ya_bd (y + 1) (by omega) (by omega)
  obtain ⟨k1, k2, k3, k4⟩ := yr_spec n (by omega) (by omega)
  by_cases h : yr n < y
  · have := ya_mono (yr n + 1) y (by omega); omega
  · by_cases h' : y < yr n
    · have := ya_mono (y + 1) (yr n) (by omega); omega
    · omega

/-- The month of a year's k-th day: the first one that reaches as far. -/
def mo (y k : Int) : Int :=
  if k ≤ ma y 2 then 1 else if k ≤ ma y 3 then 2 else if k ≤ ma y 4 then 3 else if k ≤ ma y 5 then 4 else if k ≤ ma y 6 then 5 else if k ≤ ma y 7 then 6
    else if k ≤ ma y 8 then 7 else if k ≤ ma y 9 then 8 else if k ≤ ma y 10 then 9 else if k ≤ ma y 11 then 10 else if k ≤ ma y 12 then 11 else 12

theorem mo_spec (y k : Int) (h1 : 1 ≤ k) (h2 : k ≤ ln y) : 1 ≤ mo y k ∧ mo y k ≤ 12 ∧ ma y (mo y k) < k ∧ k ≤ ma y (mo y k + 1) := by
  have e1 := ma_one y
  have e13 := ma_end y
  unfold mo
  split
  · refine ⟨by omega, by omega, by omega, by assumption⟩
  all_goals try (split; (refine ⟨by omega, by omega, by omega, by assumption⟩))
  all_goals try (split; (refine ⟨by omega, by omega, by omega, by assumption⟩))
  all_goals try (split; (refine ⟨by omega, by omega, by omega, by assumption⟩))
  all_goals try (split; (refine ⟨by omega, by omega, by omega, by assumption⟩))
  all_goals try (split; (refine ⟨by omega, by omega, by omega, by assumption⟩))
  all_goals try (split; (refine ⟨by omega, by omega, by omega, by assumption⟩))
  all_goals try (split; (refine ⟨by omega, by omega, by omega, by assumption⟩))
  all_goals try (split; (refine ⟨by omega, by omega, by omega, by assumption⟩))
  all_goals try (split; (refine ⟨by omega, by omega, by omega, by assumption⟩))
  all_goals try (split; (refine ⟨by omega, by omega, by omega, by assumption⟩))
  refine ⟨by omega, by omega, by omega, ?_⟩
  show k ≤ ma y 13
  omega

theorem mo_only (y k m : Int) (h1 : 1 ≤ m) (h2 : m ≤ 12) (k1 : ma y m < k) (k2 : k ≤ ma y (m + 1)) : mo y k = m := by
  have b0 := ma_bd y m (by omega)
  have b1 := ma_bd y (m + 1) (by omega)
  obtain ⟨c1, c2, c3, c4⟩ := mo_spec y k (by omega) (by omega)
  by_cases h : mo y k < m
  · have := ma_mono y (mo y k + 1) m (by omega); omega
  · by_cases h' : m < mo y k
    · have := ma_mono y (m + 1) (mo y k) (by omega); omega
    · omega

/-- What Of's date of a number is. -/
theorem of_spec (n : Int) (h1 : 1 ≤ n) (h2 : n ≤ 3652059) :
    1 ≤ yr n ∧ yr n ≤ 9999 ∧ ya (yr n) < n ∧ n ≤ ya (yr n + 1) ∧ 1 ≤ n - ya (yr n) ∧ n - ya (yr n) ≤ ln (yr n)
    ∧ 1 ≤ mo (yr n) (n - ya (yr n)) ∧ mo (yr n) (n - ya (yr n)) ≤ 12
    ∧ 1 ≤ n - ya (yr n) - ma (yr n) (mo (yr n) (n - ya (yr n))) ∧ n - ya (yr n) - ma (yr n) (mo (yr n) (n - ya (yr n))) ≤ dm (yr n) (mo (yr n) (n - ya (yr n))) := by
  obtain ⟨a, b, c, d⟩ := yr_spec n h1 h2
  have e := ya_succ (yr n)
  obtain ⟨f, g, h, i⟩ := mo_spec (yr n) (n - ya (yr n)) (by omega) (by omega)
  have j := ma_succ (yr n) (mo (yr n) (n - ya (yr n))) a b f g
  refine ⟨a, b, c, d, by omega, by omega, f, g, by omega, by omega⟩

/-- Of's date: month and day by names of their own. -/
def om (n : Int) : Int := mo (yr n) (n - ya (yr n))
def od (n : Int) : Int := n - ya (yr n) - ma (yr n) (om n)

theorem of_back (y m d : Int) (hy1 : 1 ≤ y) (hy2 : y ≤ 9999) (h1 : 1 ≤ m) (h2 : m ≤ 12) (d1 : 1 ≤ d) (d2 : d ≤ dm y m) :
    yr (dn y m d) = y ∧ om (dn y m d) = m ∧ od (dn y m d) = d := by
  obtain ⟨a, b, _, _⟩ := dn_bd y m d hy1 hy2 h1 h2 d1 d2
  have e := yr_only y (dn y m d) hy1 hy2 a b
  have s := ma_succ y m hy1 hy2 h1 h2
  have f : dn y m d - ya y = ma y m + d := by unfold dn; omega
  have g := mo_only y (ma y m + d) m h1 h2 (by omega) (by omega)
  refine ⟨e, ?_, ?_⟩
  · unfold om; rw [e, f, g]
  · unfold od om; rw [e, f, g]; omega

theorem dn_of (n : Int) : dn (yr n) (om n) (od n) = n := by unfold dn od; omega

theorem of_in (n : Int) (h1 : 1 ≤ n) (h2 : n ≤ 3652059) : 1 ≤ yr n ∧ yr n ≤ 9999 ∧ 1 ≤ om n ∧ om n ≤ 12 ∧ 1 ≤ od n ∧ od n ≤ dm (yr n) (om n) := by
  obtain ⟨a, b, c, d, e, f, g, h, i, j⟩ := of_spec n h1 h2
  exact ⟨a, b, g, h, i, j⟩

end Go.Proofs.YtihdijkplmfhfaaGreatDoor.Cal

/- Small facts on worlds that have grown ('Later': the outside, the output and every block that lay are as they were; new blocks lie behind them), and one walk through a region that draws its order where the calls in it make memory: in every world that has grown from the first each operation yields the same. No condition but those that each theorem states. -/
namespace Go.Proofs.YtihdijkplmfhfaaGreatDoor.Grow
set_option maxRecDepth 100000
open Go.ChangeShapes Go.WideShapes Go.ChangeAt Go.RowKit

/-- w' is w with new blocks behind it: nothing that lay has turned. -/
def Later (w w' : World) : Prop := (w'.os = w.os ∧ w'.tape = w.tape) ∧ w'.output = w.output ∧ w.heap.size ≤ w'.heap.size ∧ ∀ k, k < w.heap.size → w'.heap[k]? = w.heap[k]?

theorem Later.refl (w : World) : Later w w := ⟨⟨rfl, rfl⟩, rfl, Nat.le_refl _, fun _ _ => rfl⟩

theorem gtrans {a b c : World} (h : Later a b) (k : Later b c) : Later a c :=
  ⟨⟨k.1.1.trans h.1.1, k.1.2.trans h.1.2⟩, k.2.1.trans h.2.1, Nat.le_trans h.2.2.1 k.2.2.1, fun i hi => (k.2.2.2 i (Nat.lt_of_lt_of_le hi h.2.2.1)).trans (h.2.2.2 i hi)⟩

theorem Later.size {a b : World} (h : Later a b) : a.heap.size ≤ b.heap.size := h.2.2.1

theorem Later.put {a b : World} (h : Later a b) (o : Obj) : Later a (b.alloc o) :=
  gtrans h ⟨⟨rfl, rfl⟩, rfl, by simp, fun k hk => Below.heap_alloc _ _ _ hk⟩

theorem Later.alloc {a b : World} (h : Later a b) (c : Array Value) (t : TypeId) : Later a (b.alloc (.cells c t)) := h.put _

theorem Later.setCell {a b : World} (h : Later a b) {p : Addr} (hp : a.heap.size ≤ p.block) (u : Value) : Later a (b.setCell p u) :=
  ⟨h.1, h.2.1, by simpa [World.setCell] using h.2.2.1, fun k hk => (Below.heap_setCell _ _ _ _ (by omega)).trans (h.2.2.2 k hk)⟩

theorem Later.of_below {a b : World} (h : Below a.heap.size a b) : Later a b := ⟨⟨h.os, h.tape⟩, h.output, h.size, h.block⟩

theorem Later.below {a b : World} (h : Later a b) : Below a.heap.size a b := ⟨h.1.1, h.1.2, h.2.1, h.2.2.1, h.2.2.2⟩

theorem Later.grownBy {a b : World} (h : Later a b) : a.grownBy b none := ⟨h.1.1, h.1.2, h.2.1, h.2.2.1, fun k hk _ => h.2.2.2 k hk⟩

theorem Later.of_grownBy {a b : World} (h : a.grownBy b none) : Later a b := ⟨⟨h.os, h.tape⟩, h.output, h.size, fun k hk => h.block k hk (by simp)⟩

theorem later_drewN (w : World) (n : Nat) : Later w (w.drewN n) := Later.refl w

theorem Later.frame {a b : World} (h : Later a b) (may : MemPlace → Prop) : a.keptBut b may := by
  refine ⟨h.1.1, h.2.1, fun i hi => ?_⟩
  rw [h.2.2.2 i hi]
  split <;> simp_all

theorem gcell {W w1 : World} (h : Later W w1) (b o : Nat) (hb : b < W.heap.size) : w1.cell? ⟨b, o, none⟩ = W.cell? ⟨b, o, none⟩ :=
  World.cell?_of_block (w := W) (h.2.2.2 b hb)

theorem gfrozen {W w1 : World} (h : Later W w1) (b o : Nat) (hb : b < W.heap.size) : w1.frozen? ⟨b, o, none⟩ = W.frozen? ⟨b, o, none⟩ :=
  World.frozen?_of_block (w := W) (h.2.2.2 b hb)

theorem gsome {W w1 : World} (h : Later W w1) {a : Nat} {o : Nat} {v : Value} (hc : W.cell? ⟨a, o, none⟩ = some v) : w1.cell? ⟨a, o, none⟩ = some v :=
  (gcell h a o (World.block_lt_of_cell? _ _ hc)).trans hc

/-- A world that has grown from w. -/
structure Gw (w : World) where
  w' : World
  h : Later w w'

instance (w : World) : Nonempty (Gw w) := ⟨⟨w, Later.refl w⟩⟩

theorem gw_cell {w : World} {b o : Nat} {v : Value} (hc : w.cell? ⟨b, o, none⟩ = some v) : ∀ x : Gw w, x.w'.cell? ⟨b, o, none⟩ = some v := fun x => gsome x.h hc

theorem gw_new (w : World) (c : Array Value) (t : TypeId) (i : Nat) (v : Value) (hc : c[i]? = some v) : ∀ x : Gw (w.alloc (.cells c t)), x.w'.cell? ⟨w.heap.size, i, none⟩ = some v :=
  gw_cell (by rw [World.cell?_alloc_new]; exact hc)

/-- One walk in the order of the text serves every order, each operation quiet in every world that has grown from w. -/
theorem region_grown {P : Program} {id : Nat} {Q : Exit → Act → World → Prop} {a : Act} {w : World} {l : List Oper} (hm : P.follows .mixedOrders = true) (hB : Region.lexB .any l.toArray = true)
    (h : wpQuiet P l.toArray (fun w' => ∃ x : Gw w, w' = x.w') (fun a' => ∀ w', (∃ x : Gw w, w' = x.w') → Q .normal a' w') l a) : (Code.region id l.toArray true).wp P Q a w :=
  wp_region_quiet (C := fun w' => ∃ x : Gw w, w' = x.w') hm hB ⟨⟨w.drew, Later.refl w⟩, rfl⟩ h

theorem grown_end {w : World} {Q : World → Prop} (h : ∀ w', Later w w' → Q w') : ∀ w', (∃ x : Gw w, w' = x.w') → Q w' := by
  rintro _ ⟨x, rfl⟩
  exact h _ x.h

/-- A callee's contract, met in a world that has grown. -/
theorem in_grown {P : Program} {f : FuncId} {args : Array Value} {w : World} {x : Gw w} {v : Value}
    (h : Calls P f args x.w' fun e w' => e = .returned v ∧ Later x.w' w') : Calls P f args x.w' fun e w'' => e = .returned v ∧ ∃ y : Gw w, w'' = y.w' :=
  h.mono fun _ _ ⟨he, hg⟩ => ⟨he, ⟨_, gtrans x.h hg⟩, rfl⟩

theorem drewN_grown {w w' : World} (h : ∃ n, w' = w.drewN n) : Later w w' := by
  obtain ⟨n, rfl⟩ := h
  exact Later.refl w

theorem retb {a b : Bool} (h : a = b) : Ending.returned (.bool a) = .returned (.bool b) := by rw [h]

theorem same_g {w : World} {P : Program} {f : FuncId} {args : Array Value} {v : Value} (h : Calls P f args w fun e w' => e = .returned v ∧ w = w') : Calls P f args w fun e w' => e = .returned v ∧ Later w w' :=
  h.mono fun _ _ ⟨he, hw⟩ => ⟨he, hw ▸ Later.refl w⟩

theorem drew_g {w : World} {P : Program} {f : FuncId} {args : Array Value} {v : Value} (h : Calls P f args w fun e w' => e = .returned v ∧ ∃ n, w' = w.drewN n) : Calls P f args w fun e w' => e = .returned v ∧ Later w w' :=
  h.mono fun _ _ ⟨he, hw⟩ => ⟨he, drewN_grown hw⟩

/-- What a call leaves, where the arguments and variables hold no memory: nothing need be said of frozen places. -/
theorem post_bare {H : Type} {enc : TypeId × Value → H} {P : Program} {f : Func} {s : ChangeSpec} {apart fresh handsOn again : Bool} {W W' : World} {args : Array Value} {v : Value} {ds gs : List (DataW H)}
    (hW : DataW.Whole enc P f.params.toList s.vars apart W args.toList ds gs [])
    (hres : ∀ (b : Nat) (sp : Nat → Bool) (hd : Bool), DataW.TrodAll enc P W' b sp hd f.resultTypes.toList (v.resultList f.resultTypes.size) (s.fn H (ds ++ gs)).results [])
    (hargs : ∀ sp : Nat → Bool, DataW.TrodAll enc P W' 0 sp true f.params.toList args.toList (s.fn H (ds ++ gs)).args [])
    (hvars : ∀ sp : Nat → Bool, DataW.TrodVars enc P W' sp s.vars (s.fn H (ds ++ gs)).vars [])
    (hg : Later W W')
    (hok : ∀ (j : Nat) (t : TypeId) (r : Value), f.resultTypes[j]? = some t → (v.resultList f.resultTypes.size)[j]? = some r → Value.okWide P W' .any 0 t r) :
    s.post enc P f apart fresh handsOn again W args v W' :=
  ⟨ds, gs, [], [], [], [], hW, hres _ _ _, hargs _, hvars _, hg.frame _, fun _ =>
    ⟨hok, _, _, [], ⟨[], [], trodAll_append (hargs _) (hres _ _ _), hvars _, rfl, fun b off hp => by simp at hp, fun _ => List.nodup_nil⟩, fun p hp _ => by simp at hp⟩⟩

end Go.Proofs.YtihdijkplmfhfaaGreatDoor.Grow

/- Where the table of months lies, and that it lies there in every later world. No condition but those that each theorem states. -/
namespace Go.Proofs.YtihdijkplmfhfaaGreatDoor.Greg
set_option maxRecDepth 100000
open Go.ChangeShapes Go.WideShapes Go.ChangeAt Go.RowKit
open Go.Proofs.YtihdijkplmfhfaaGreatDoor.Divs Go.Proofs.YtihdijkplmfhfaaGreatDoor.Grow

/-- What the months of a common year have stands in the variable's cells. -/
def Laid (w : World) : Prop := ∀ i : Nat, i < 12 → w.cell? ⟨0, i, none⟩ = some (.int .i64 (Cal.tab ((i : Int) + 1)))

theorem Laid.grown {w w' : World} (h : Laid w) (hg : Later w w') : Laid w' := fun i hi => gsome hg (h i hi)

theorem Laid.gw {w : World} (h : Laid w) (x : Gw w) : Laid x.w' := h.grown x.h

end Go.Proofs.YtihdijkplmfhfaaGreatDoor.Greg

/- What the calendar's small functions answer: leap years, days of months, weekdays, days ahead of a year, the year of a day, the next day of a weekday. Conditions: the numbers are ints, the table of months lies where the program lays it, as each theorem says. -/
namespace Go.Proofs.YtihdijkplmfhfaaGreatDoor.Greg
set_option maxRecDepth 100000
open Go.ChangeShapes Go.WideShapes Go.ChangeAt Go.RowKit
open Go.Proofs.YtihdijkplmfhfaaGreatDoor.Divs Go.Proofs.YtihdijkplmfhfaaGreatDoor.Grow
open Go.Proofs.YtihdijkplmfhfaaGreatDoor.Cal (lp ln tab dm ya ma dn yr mo om od)

theorem tm0 (y b : Int) : (y.tmod b == 0) = (y % b == 0) := by
  by_cases h : b ∣ y
  · rw [Int.tmod_eq_zero_of_dvd h, Int.emod_eq_zero_of_dvd h]
  · have h1 : ¬ y.tmod b = 0 := fun e => h (Int.dvd_of_tmod_eq_zero e)
    have h2 : ¬ y % b = 0 := fun e => h (Int.dvd_of_emod_eq_zero e)
    rw [beq_eq_false_iff_ne.2 h1, beq_eq_false_iff_ne.2 h2]

theorem lp_of (y : Int) : lp y = (((y % 4 == 0) && (y % 100 != 0)) || (y % 400 == 0)) := by
  unfold lp
  rw [Bool.eq_iff_iff]
  simp

theorem leap_any (y : Int) (w : World) : Calls Tryz.prog 81 #[.int .i64 y] w fun e w' => e = .returned (.bool (lp y)) ∧ w = w' := by
  have HL := Lib.hid (lp_of y)
  by_cases hs : 0 ≤ y
  · rcases Bool.eq_false_or_eq_true (y % 4 == 0) with t4 | t4 <;> rcases Bool.eq_false_or_eq_true (y % 100 == 0) with t100 | t100 <;> rcases Bool.eq_false_or_eq_true (y % 400 == 0) with t400 | t400
    all_goals
      have u100 : (y % 100 != 0) = !(y % 100 == 0) := rfl
      rw [t100] at u100
      go_enter Tryz.func81, Tryz.ntmps81
      go_wp2
      go_ret
      exact ⟨retb (by rw [HL.out]; simp [t4, u100, t400]), rfl⟩
  · have e4 := tm0 y 4
    have e100 := tm0 y 100
    have e400 := tm0 y 400
    rcases Bool.eq_false_or_eq_true (y % 4 == 0) with t4 | t4 <;> rcases Bool.eq_false_or_eq_true (y % 100 == 0) with t100 | t100 <;> rcases Bool.eq_false_or_eq_true (y % 400 == 0) with t400 | t400
    all_goals
      rw [t4] at e4
      rw [t400] at e400
      have u100 : (y.tmod 100 != 0) = !(y.tmod 100 == 0) := rfl
      have v100 : (y % 100 != 0) = !(y % 100 == 0) := rfl
      rw [t100] at e100 v100
      rw [e100] at u100
      have T4 := Lib.hid t4
      have T400 := Lib.hid t400
      have V100 := Lib.hid v100
      clear t4 t400 v100 t100
      go_enter Tryz.func81, Tryz.ntmps81
      go_wp2
      go_ret
      exact ⟨retb (by rw [HL.out, T4.out, T400.out, V100.out]; rfl), rfl⟩

theorem days_no (y m : Int) (w : World) (h : y < 1 ∨ 9999 < y ∨ m < 1 ∨ 12 < m) : Calls Tryz.prog 52 #[.int .i64 y, .int .i64 m] w fun e w' => e = .returned (.int .i64 (dm y m)) ∧ w = w' := by
  have HV := Lib.hid (Cal.dm_no y m h)
  by_cases h1 : y < 1
  · clear h
    go_enter Tryz.func52, Tryz.ntmps52
    go_wp2
    go_ret
    exact ⟨ret1 HV.out.symm, rfl⟩
  by_cases h2 : 9999 < y
  · clear h
    go_enter Tryz.func52, Tryz.ntmps52
    go_wp2
    go_ret
    exact ⟨ret1 HV.out.symm, rfl⟩
  by_cases h3 : m < 1
  · clear h
    go_enter Tryz.func52, Tryz.ntmps52
    go_wp2
    go_ret
    exact ⟨ret1 HV.out.symm, rfl⟩
  have h4 : 12 < m := by omega
  clear h
  go_enter Tryz.func52, Tryz.ntmps52
  go_wp2
  go_ret
  exact ⟨ret1 HV.out.symm, rfl⟩

theorem dm_feb (y : Int) (h1 : 1 ≤ y) (h2 : y ≤ 9999) : dm y 2 = (if lp y = true then 29 else 28) := by
  unfold dm tab
  rw [if_neg (by omega)]
  cases lp y <;> simp

theorem dm_not (y m : Int) (h1 : 1 ≤ y) (h2 : y ≤ 9999) (h3 : 1 ≤ m) (h4 : m ≤ 12) (h5 : ¬ m = 2) : dm y m = tab m := by
  unfold dm
  rw [if_neg (by omega), if_neg (fun h => h5 h.1)]

theorem days_yes (y m : Int) (w : World) (hL : Laid w) (h1 : 1 ≤ y) (h2 : y ≤ 9999) (h3 : 1 ≤ m) (h4 : m ≤ 12) : Calls Tryz.prog 52 #[.int .i64 y, .int .i64 m] w fun e w' => e = .returned (.int .i64 (dm y m)) ∧ w = w' := by
  by_cases h5 : m = 2
  · subst h5
    have HF := Lib.hid (dm_feb y h1 h2)
    have hc : w.cell? ⟨0, 1, none⟩ = some (.int .i64 28) := hL 1 (by omega)
    clear hL
    cases hl : lp y with
    | true =>
      have HL := Lib.hid hl
      have hk := fun W => leap_any y W
      rw [hl] at hk
      have HK := Lib.hid hk
      clear hl hk
      go_enter Tryz.func52, Tryz.ntmps52
      go_wp2_with (go_at_call 81; refine (HK.out _).mono ?_; rintro e w' ⟨rfl, rfl⟩)
      go_ret
      exact ⟨ret1 (by rw [HF.out, HL.out]; rfl), rfl⟩
    | false =>
      have HL := Lib.hid hl
      have hk := fun W => leap_any y W
      rw [hl] at hk
      have HK := Lib.hid hk
      clear hl hk
      go_enter Tryz.func52, Tryz.ntmps52
      go_wp2_with (go_at_call 81; refine (HK.out _).mono ?_; rintro e w' ⟨rfl, rfl⟩)
      go_ret
      exact ⟨ret1 (by rw [HF.out, HL.out]; rfl), rfl⟩
  · have HV := Lib.hid (dm_not y m h1 h2 h3 h4 h5)
    have hc : w.cell? ⟨0, m.toNat - 1, none⟩ = some (.int .i64 (tab m)) := by
      have := hL (m.toNat - 1) (by omega)
      rw [show (((m.toNat - 1 : Nat) : Int) + 1) = m from by omega] at this
      exact this
    clear hL
    have t5 : (m == 2) = false := beq_eq_false_iff_ne.2 h5
    go_enter Tryz.func52, Tryz.ntmps52
    go_wp2
    go_ret
    exact ⟨ret1 HV.out.symm, rfl⟩

theorem days_any (y m : Int) (w : World) (hL : Laid w) : Calls Tryz.prog 52 #[.int .i64 y, .int .i64 m] w fun e w' => e = .returned (.int .i64 (dm y m)) ∧ w = w' := by
  by_cases h : y < 1 ∨ 9999 < y ∨ m < 1 ∨ 12 < m
  · exact days_no y m w h
  · exact days_yes y m w hL (by omega) (by omega) (by omega) (by omega)

theorem weekday_any (n : Int) (w : World) (h0 : -9223372036854775808 ≤ n) (h1 : n ≤ 9223372036854775807) : Calls Tryz.prog 198 #[.int .i64 n] w fun e w' => e = .returned (.int .i64 (n % 7)) ∧ ∃ n, w' = w.drewN n := by
  go_enter Tryz.func198, Tryz.ntmps198
  go_wp2_with (go_at_call 76; refine (mod_yes _ _ _ h0 h1 (by omega) (by omega)).mono ?_; rintro e w' ⟨rfl, n, rfl⟩)
  go_ret
  exact ⟨rfl, _, rfl⟩

theorem ya_any (y : Int) (w : World) (h1 : 1 ≤ y) (h2 : y ≤ 10000) : Calls Tryz.prog 83 #[.int .i64 y] w fun e w' => e = .returned (.int .i64 (ya y)) ∧ w = w' := by
  have HV : Hid (ya y = (y - 1) * 365 + (y - 1) / 4 - (y - 1) / 100 + (y - 1) / 400) := by exact (rfl : ya y = _)
  go_enter Tryz.func83, Tryz.ntmps83
  go_wp2
  go_ret
  exact ⟨ret1 HV.out.symm, rfl⟩

def cl3 (q : Int) : Int := if 3 < q then 3 else q

theorem cl3_bd (q : Int) (h : 0 ≤ q) : 0 ≤ cl3 q ∧ cl3 q ≤ 3 ∧ cl3 q ≤ q := by unfold cl3; split <;> omega

theorem clamp3 (q : Int) (w : World) (h : 0 ≤ q) : Calls Tryz.prog 131 #[.int .i64 q, .int .i64 0, .int .i64 3] w fun e w' => e = .returned (.int .i64 (cl3 q)) ∧ ∃ n, w' = w.drewN n := by
  have := clamp_any q 0 3 w
  rw [show clampI q 0 3 = cl3 q from by unfold clampI cl3; rw [if_neg (by omega)]] at this
  exact this

theorem yr_of (n : Int) : yr n = (n - 1) / 146097 * 400 + cl3 ((n - 1) % 146097 / 36524) * 100 + ((n - 1) % 146097 - cl3 ((n - 1) % 146097 / 36524) * 36524) / 1461 * 4
    + cl3 (((n - 1) % 146097 - cl3 ((n - 1) % 146097 / 36524) * 36524) % 1461 / 365) + 1 := rfl

theorem yr_any (n : Int) (w : World) (h1 : 1 ≤ n) (h2 : n ≤ 3652059) : Calls Tryz.prog 103 #[.int .i64 n] w fun e w' => e = .returned (.int .i64 (yr n)) ∧ ∃ n, w' = w.drewN n := by
  have HV := Lib.hid (yr_of n)
  have s1 : 0 ≤ (n - 1) % 146097 / 36524 := by omega
  have c1 := cl3_bd ((n - 1) % 146097 / 36524) s1
  have s2 : 0 ≤ (n - 1) % 146097 - cl3 ((n - 1) % 146097 / 36524) * 36524 := by omega
  have s3 : 0 ≤ ((n - 1) % 146097 - cl3 ((n - 1) % 146097 / 36524) * 36524) % 1461 / 365 := by omega
  have c2 := cl3_bd (((n - 1) % 146097 - cl3 ((n - 1) % 146097 / 36524) * 36524) % 1461 / 365) s3
  go_enter Tryz.func103, Tryz.ntmps103
  go_wp2_with fail
  refine (clamp3 _ _ s1).mono ?_
  rintro e w' ⟨rfl, n1, rfl⟩
  go_wp2_with fail
  refine (clamp3 _ _ s3).mono ?_
  rintro e w' ⟨rfl, n2, rfl⟩
  go_wp2_with fail
  go_ret
  exact ⟨ret1 HV.out.symm, _, rfl⟩

/-- The first day from n on of a weekday. -/
def fo (n v : Int) : Int := n + gapI n 7 v

theorem fo_bd (n v : Int) (h0 : 0 ≤ v) (h1 : v < 7) : n ≤ fo n v ∧ fo n v ≤ n + 6 ∧ fo n v % 7 = v := by
  unfold fo gapI
  split <;> omega

theorem fo_any (n v : Int) (w : World) (h1 : -4000000 ≤ n) (h2 : n ≤ 4000000) (v0 : 0 ≤ v) (v1 : v < 7) : Calls Tryz.prog 150 #[.int .i64 n, .int .i64 v] w fun e w' => e = .returned (.int .i64 (fo n v)) ∧ ∃ n, w' = w.drewN n := by
  have hb := fo_bd n v v0 v1
  have HN := Lib.hid (fun W => next_yes n 7 v W (by omega) (by omega) (by omega) (by omega) v0 v1 (by unfold fo at hb; omega))
  have HV : Hid (n + gapI n 7 v = fo n v) := (rfl : n + gapI n 7 v = fo n v)
  clear hb
  go_enter Tryz.func150, Tryz.ntmps150
  go_wp2_with fail
  refine (HN.out _).mono ?_
  rintro e w' ⟨rfl, n1, rfl⟩
  go_wp2_with fail
  go_ret
  exact ⟨ret1 HV.out, _, rfl⟩

end Go.Proofs.YtihdijkplmfhfaaGreatDoor.Greg

/- What daysAhead answers: how many days of a year are ahead of each of its months. Conditions: the year is from 1 to 9999, the table of months lies where the program lays it. -/
namespace Go.Proofs.YtihdijkplmfhfaaGreatDoor.Greg
set_option maxRecDepth 100000
open Go.ChangeShapes Go.WideShapes Go.ChangeAt Go.RowKit
open Go.Proofs.YtihdijkplmfhfaaGreatDoor.Divs Go.Proofs.YtihdijkplmfhfaaGreatDoor.Grow
open Go.Proofs.YtihdijkplmfhfaaGreatDoor.Cal (lp ln tab dm ya ma dn yr mo om od)

/-- The array when k months have been summed. -/
def arr (y : Int) (k : Nat) : Array Value := ((List.range 12).map fun j : Nat => Value.int .i64 (if j < k then ma y ((j : Int) + 1) else 0)).toArray

theorem arr_get (y : Int) (k j : Nat) (h : j < 12) : (arr y k)[j]? = some (.int .i64 (if j < k then ma y ((j : Int) + 1) else 0)) := by
  simp [arr, h]

theorem arr_size (y : Int) (k : Nat) : (arr y k).size = 12 := by simp [arr]

theorem arr_one (y : Int) : arr y 1 = #[.int .i64 0, .int .i64 0, .int .i64 0, .int .i64 0, .int .i64 0, .int .i64 0, .int .i64 0, .int .i64 0, .int .i64 0, .int .i64 0, .int .i64 0, .int .i64 0] := by
  simp [arr, List.range, List.range.loop, Cal.ma_one]

theorem arr_set (y : Int) (k : Nat) (h : k < 12) : (arr y k).setIfInBounds k (.int .i64 (ma y ((k : Int) + 1))) = arr y (k + 1) := by
  apply Array.ext_getElem?
  intro j
  rw [Array.getElem?_setIfInBounds]
  by_cases hj : j < 12
  · by_cases e : k = j
    · subst e
      rw [if_pos rfl, if_pos (by rw [arr_size]; exact h), arr_get y (k + 1) k hj, if_pos (by omega)]
    · rw [if_neg e, arr_get y k j hj, arr_get y (k + 1) j hj]
      by_cases hjk : j < k
      · rw [if_pos hjk, if_pos (by omega)]
      · rw [if_neg hjk, if_neg (by omega)]
  · rw [Array.getElem?_eq_none (by rw [arr_size]; omega), Array.getElem?_eq_none (by rw [arr_size]; omega), if_neg (by omega)]

/-- What daysAhead hands back. -/
def aheadV (y : Int) : Value := .agg #[.int .i64 (ma y 1), .int .i64 (ma y 2), .int .i64 (ma y 3), .int .i64 (ma y 4), .int .i64 (ma y 5), .int .i64 (ma y 6), .int .i64 (ma y 7), .int .i64 (ma y 8), .int .i64 (ma y 9), .int .i64 (ma y 10), .int .i64 (ma y 11), .int .i64 (ma y 12)]

theorem arr_all (y : Int) : arr y 12 = #[.int .i64 (ma y 1), .int .i64 (ma y 2), .int .i64 (ma y 3), .int .i64 (ma y 4), .int .i64 (ma y 5), .int .i64 (ma y 6), .int .i64 (ma y 7), .int .i64 (ma y 8), .int .i64 (ma y 9), .int .i64 (ma y 10), .int .i64 (ma y 11), .int .i64 (ma y 12)] := by
  simp [arr, List.range, List.range.loop]

def zero12 : Obj := .cells #[.int .i64 0, .int .i64 0, .int .i64 0, .int .i64 0, .int .i64 0, .int .i64 0, .int .i64 0, .int .i64 0, .int .i64 0, .int .i64 0, .int .i64 0, .int .i64 0] 29

theorem set_new (W : World) (c : Array Value) (t : TypeId) (n b k : Nat) (v : Value) (hb : b = W.heap.size) :
    ((W.alloc (.cells c t)).drewN n).setCell ⟨b, k, none⟩ v = (W.alloc (.cells (c.setIfInBounds k v) t)).drewN n := by
  subst hb
  show ((W.alloc (.cells c t)).setCell ⟨W.heap.size, k, none⟩ v).drewN n = _
  rw [World.setCell_alloc_at _ _ _ _ _ rfl]

/-- A store into a row that is known. -/
theorem row_set {X : World} {b : Nat} {c : Array Value} {t : TypeId} {fr : Nat × Nat} {k : Nat} {v : Value} (h : X.heap[b]? = some (.cells c t fr)) :
    (X.setCell ⟨b, k, none⟩ v).heap[b]? = some (.cells (c.setIfInBounds k v) t fr) := by
  simp [World.setCell, Array.getElem?_modify, h]

theorem heap_new (w : World) (o : Obj) : (w.alloc o).heap[w.heap.size]? = some o := by
  show (w.heap.push o)[w.heap.size]? = some o
  simp

theorem row12 {X : World} {b : Nat} {t : TypeId} {fr : Nat × Nat} {u0 u1 u2 u3 u4 u5 u6 u7 u8 u9 u10 u11 v0 v1 v2 v3 v4 v5 v6 v7 v8 v9 v10 v11 : Value} (h : X.heap[b]? = some (.cells #[u0, u1, u2, u3, u4, u5, u6, u7, u8, u9, u10, u11] t fr)) :
    ((((((((((((X.setCell ⟨b, 0, none⟩ v0).setCell ⟨b, 1, none⟩ v1).setCell ⟨b, 2, none⟩ v2).setCell ⟨b, 3, none⟩ v3).setCell ⟨b, 4, none⟩ v4).setCell ⟨b, 5, none⟩ v5).setCell ⟨b, 6, none⟩ v6).setCell ⟨b, 7, none⟩ v7).setCell ⟨b, 8, none⟩ v8).setCell ⟨b, 9, none⟩ v9).setCell ⟨b, 10, none⟩ v10).setCell ⟨b, 11, none⟩ v11).heap[b]? = some (.cells #[v0, v1, v2, v3, v4, v5, v6, v7, v8, v9, v10, v11] t fr) := by
  have g := (row_set (k := 11) (v := v11) (row_set (k := 10) (v := v10) (row_set (k := 9) (v := v9) (row_set (k := 8) (v := v8) (row_set (k := 7) (v := v7) (row_set (k := 6) (v := v6) (row_set (k := 5) (v := v5) (row_set (k := 4) (v := v4) (row_set (k := 3) (v := v3) (row_set (k := 2) (v := v2) (row_set (k := 1) (v := v1) (row_set (k := 0) (v := v0) h))))))))))))
  simpa using g

def ARel (y : Int) (w : World) (i : Value) (wr : World) : Prop := ∃ k n : Nat, 1 ≤ k ∧ k ≤ 12 ∧ i = .int .i64 (k : Int) ∧ wr = ((w.alloc (.cells #[.int .i64 0, .int .i64 0, .int .i64 0, .int .i64 0, .int .i64 0, .int .i64 0, .int .i64 0, .int .i64 0, .int .i64 0, .int .i64 0, .int .i64 0, .int .i64 0] 29)).alloc (.cells (arr y k) 29)).drewN n

set_option maxHeartbeats 1000000 in
theorem ahead_any (y : Int) (w : World) (hL : Laid w) (h1 : 1 ≤ y) (h2 : y ≤ 9999) : Calls Tryz.prog 82 #[.int .i64 y] w fun e w' => e = .returned (aheadV y) ∧ Later w w' := by
  go_enter Tryz.func82, Tryz.ntmps82
  go_wp2
  go_loopw [4] (fun i wr => ARel y w i wr) (fun i _ => 12 - (intOf i).toNat)
  case atStart => exact ⟨1, 0, by omega, by omega, rfl, by rw [arr_one]; rfl⟩
  case round =>
    obtain ⟨k, n, hk1, hk2, rfl, rfl⟩ := hrel
    by_cases hlt : k < 12
    · have hd := Cal.dm_bd y k h1 h2 (by omega) (by omega)
      have hm := Cal.ma_bd y k (by omega)
      have hln : ln y ≤ 366 := by rcases Cal.ln_cases y with ⟨_, e⟩ | ⟨_, e⟩ <;> omega
      have hget : (arr y k)[k - 1]? = some (.int .i64 (ma y (k : Int))) := by
        rw [arr_get y k (k - 1) (by omega), if_pos (by omega)]
        rw [show (((k - 1 : Nat) : Int) + 1) = (k : Int) from by omega]
      have hold : (arr y k)[k]? = some (.int .i64 0) := by rw [arr_get y k k hlt, if_neg (by omega)]
      have HD := Lib.hid (fun (W : World) (hW : Laid W) => days_yes y k W hW h1 h2 (by omega) (by omega))
      have HG := Lib.hid hget
      have HO := Lib.hid hold
      have HS := Lib.hid (arr_set y k hlt)
      have HM := Lib.hid (Cal.ma_succ y k h1 h2 (by omega) (by omega))
      clear hget hold
      go_wp2
      have e1 : IntKind.i64.wrap ((k : Int) - 1) = (k : Int) - 1 := IntWalk.i64_in _ (by omega)
      have e2 : IntKind.i64.wrap (ma y k + dm y k) = ma y k + dm y k := IntWalk.i64_in _ (by omega)
      have g := HG.out
      have o := HO.out
      go_region_with ((go_at_call 52; refine (HD.out _ ?_).mono ?_; (exact hL.grown (((Later.refl w).alloc _ _).alloc _ _)); rintro e w' ⟨rfl, rfl⟩))
      all_goals
        clear e1 e2 g o
        go_wp2
        go_roundw
        case rel => exact ⟨k + 1, _, by omega, by omega, by go_num, by rw [← HS.out, HM.out]; exact set_new _ _ _ _ _ _ _ (by simp)⟩
        case measure => simp [intOf]; omega
    · obtain rfl : k = 12 := by omega
      rw [arr_all]
      go_wp2
      refine bodyPost_ret (v := aheadV y) ?_ rfl ⟨rfl, ?_⟩
      · refine results_cell_row (P := Tryz.prog) (fn := Tryz.f82) Tryz.results82 _ _ w.heap.size 29 #[.int .i64 (ma y 1), .int .i64 (ma y 2), .int .i64 (ma y 3), .int .i64 (ma y 4), .int .i64 (ma y 5), .int .i64 (ma y 6), .int .i64 (ma y 7), .int .i64 (ma y 8), .int .i64 (ma y 9), .int .i64 (ma y 10), .int .i64 (ma y 11), .int .i64 (ma y 12)] (0, 0) (.array 12 3) rfl ?_ Tryz.underlying29 rfl ?_
        · refine row12 (u0 := .int .i64 0) (u1 := .int .i64 0) (u2 := .int .i64 0) (u3 := .int .i64 0) (u4 := .int .i64 0) (u5 := .int .i64 0) (u6 := .int .i64 0) (u7 := .int .i64 0) (u8 := .int .i64 0) (u9 := .int .i64 0) (u10 := .int .i64 0) (u11 := .int .i64 0) ?_
          refine (Below.heap_alloc _ _ _ (by simp)).trans ?_
          exact heap_new _ _
        · kernel_rfl
      · iterate 12 refine Later.setCell ?_ (Nat.le_refl _) _
        exact ((Later.refl w).alloc _ _).alloc _ _

end Go.Proofs.YtihdijkplmfhfaaGreatDoor.Greg

/- What monthStart and monthOf answer. Conditions: the year is from 1 to 9999, the month from 1 to 12, the day one of the year's, the table of months lies where the program lays it. -/
namespace Go.Proofs.YtihdijkplmfhfaaGreatDoor.Greg
set_option maxRecDepth 100000
open Go.ChangeShapes Go.WideShapes Go.ChangeAt Go.RowKit
open Go.Proofs.YtihdijkplmfhfaaGreatDoor.Divs Go.Proofs.YtihdijkplmfhfaaGreatDoor.Grow
open Go.Proofs.YtihdijkplmfhfaaGreatDoor.Cal (lp ln tab dm ya ma dn yr mo om od)

theorem arr_cell (y : Int) (w : World) (j : Nat) (h : j < 12) : (w.alloc (.cells #[.int .i64 (ma y 1), .int .i64 (ma y 2), .int .i64 (ma y 3), .int .i64 (ma y 4), .int .i64 (ma y 5), .int .i64 (ma y 6), .int .i64 (ma y 7), .int .i64 (ma y 8), .int .i64 (ma y 9), .int .i64 (ma y 10), .int .i64 (ma y 11), .int .i64 (ma y 12)] 29)).cell? ⟨w.heap.size, j, none⟩ = some (.int .i64 (ma y ((j : Int) + 1))) := by
  rw [World.cell?_alloc_new, ← arr_all, arr_get y 12 j h, if_pos h]

theorem ln_le (y : Int) : 365 ≤ ln y ∧ ln y ≤ 366 := by rcases Cal.ln_cases y with ⟨_, e⟩ | ⟨_, e⟩ <;> omega

set_option maxHeartbeats 1000000 in
theorem mstart_any (y m : Int) (w : World) (hL : Laid w) (h1 : 1 ≤ y) (h2 : y ≤ 9999) (h3 : 1 ≤ m) (h4 : m ≤ 12) : Calls Tryz.prog 53 #[.int .i64 y, .int .i64 m] w fun e w' => e = .returned (.int .i64 (ya y + ma y m + 1)) ∧ Later w w' := by
  have hy := Cal.ya_bd y h1 (by omega)
  have hm := Cal.ma_bd y m (by omega)
  have hl := ln_le y
  go_enter Tryz.func53, Tryz.ntmps53
  go_wp2_with fail
  refine (ahead_any _ _ hL h1 h2).mono ?_
  rintro e w1 ⟨rfl, hg1⟩
  unfold aheadV
  go_wp2_with fail
  have hc := arr_cell y w1 (m.toNat - 1) (by omega)
  rw [show (((m.toNat - 1 : Nat) : Int) + 1) = m from by omega] at hc
  have hx := gw_cell hc
  have hG : Later w (w1.alloc (.cells #[.int .i64 (ma y 1), .int .i64 (ma y 2), .int .i64 (ma y 3), .int .i64 (ma y 4), .int .i64 (ma y 5), .int .i64 (ma y 6), .int .i64 (ma y 7), .int .i64 (ma y 8), .int .i64 (ma y 9), .int .i64 (ma y 10), .int .i64 (ma y 11), .int .i64 (ma y 12)] 29)) := hg1.alloc _ _
  clear hc
  generalize w1.alloc (.cells #[.int .i64 (ma y 1), .int .i64 (ma y 2), .int .i64 (ma y 3), .int .i64 (ma y 4), .int .i64 (ma y 5), .int .i64 (ma y 6), .int .i64 (ma y 7), .int .i64 (ma y 8), .int .i64 (ma y 9), .int .i64 (ma y 10), .int .i64 (ma y 11), .int .i64 (ma y 12)] 29) = W at *
  refine region_grown (by kernel_rfl) (by kernel_rfl) ?_
  repeat (go_big_quiet_step ((go_at_call 83; exact in_grown (same_g (ya_any _ _ h1 (by omega))))))
  refine wpQuiet_nil (grown_end ?_)
  intro w2 hg2
  go_wp2_with fail
  go_ret
  exact ⟨rfl, gtrans hG hg2⟩

/-- The loop's relation: every month ahead of the k-th ends ahead of the day. -/
def MRel (y d : Int) (s i : Value) : Prop := ∃ k : Nat, 1 ≤ k ∧ k ≤ 12 ∧ ma y k < d ∧ i = .int .i64 (k : Int) ∧ s = .int .i64 12

set_option maxHeartbeats 1000000 in
theorem mof_any (y d : Int) (w : World) (hL : Laid w) (h1 : 1 ≤ y) (h2 : y ≤ 9999) (h3 : 1 ≤ d) (h4 : d ≤ ln y) :
    Calls Tryz.prog 104 #[.int .i64 y, .int .i64 d] w fun e w' => e = .returned (.tuple #[.int .i64 (mo y d), .int .i64 (d - ma y (mo y d))]) ∧ Later w w' := by
  have hl := ln_le y
  go_enter Tryz.func104, Tryz.ntmps104
  go_wp2
  go_step3
  go_wp2_with fail
  refine (ahead_any _ _ hL h1 h2).mono ?_
  rintro e w1 ⟨rfl, hg1⟩
  unfold aheadV
  go_wp2_with fail
  have hc := fun j hj => arr_cell y w1 j hj
  have hG : Later w (w1.alloc (.cells #[.int .i64 (ma y 1), .int .i64 (ma y 2), .int .i64 (ma y 3), .int .i64 (ma y 4), .int .i64 (ma y 5), .int .i64 (ma y 6), .int .i64 (ma y 7), .int .i64 (ma y 8), .int .i64 (ma y 9), .int .i64 (ma y 10), .int .i64 (ma y 11), .int .i64 (ma y 12)] 29)) := hg1.alloc _ _
  generalize w1.alloc (.cells #[.int .i64 (ma y 1), .int .i64 (ma y 2), .int .i64 (ma y 3), .int .i64 (ma y 4), .int .i64 (ma y 5), .int .i64 (ma y 6), .int .i64 (ma y 7), .int .i64 (ma y 8), .int .i64 (ma y 9), .int .i64 (ma y 10), .int .i64 (ma y 11), .int .i64 (ma y 12)] 29) = W at *
  generalize w1.heap.size = b at *
  have HC := Lib.hid hc
  clear hc hg1 hL
  go_step3
  go_wp2
  go_loop [4, 7] (fun s i => MRel y d s i) (fun _ i => 12 - (intOf i).toNat)
  case atStart => exact ⟨1, by omega, by omega, by have := Cal.ma_one y; show ma y 1 < d; omega, rfl, rfl⟩
  case round =>
    obtain ⟨k, hk1, hk2, hk3, rfl, rfl⟩ := hrel
    by_cases hlt : k < 12
    · have hc := HC.out k hlt
      by_cases hd : d ≤ ma y ((k : Int) + 1)
      · have HV := Lib.hid (Cal.mo_only y d k (by omega) (by omega) hk3 hd)
        go_wp2
        have hc2 := HC.out (k - 1) (by omega)
        rw [show (((k - 1 : Nat) : Int) + 1) = (k : Int) from by omega] at hc2
        have hm := Cal.ma_bd y k (by omega)
        clear hc
        go_quiet (fail)
        go_wp2
        rw [Exit.noGoto_ret]
        go_ret2
        exact ⟨ret2 HV.out.symm (by rw [HV.out]), hG⟩
      · go_wp2
        go_round
        case rel => exact ⟨k + 1, by omega, by omega, by rw [show (((k + 1 : Nat)) : Int) = (k : Int) + 1 from by omega]; omega, by go_num, rfl⟩
        case measure => simp [intOf]; omega
    · obtain rfl : k = 12 := by omega
      have HV := Lib.hid (Cal.mo_only y d 12 (by omega) (by omega) hk3 (by have := Cal.ma_end y; show d ≤ ma y 13; omega))
      go_wp2
      have hc2 := HC.out 11 (by omega)
      have hm := Cal.ma_bd y 12 (by omega)
      go_quiet (fail)
      go_wp2
      rw [Exit.noGoto_ret]
      go_ret2
      exact ⟨ret2 HV.out.symm (by rw [HV.out]), hG⟩

end Go.Proofs.YtihdijkplmfhfaaGreatDoor.Greg
