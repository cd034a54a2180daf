/-
  The chapter's example (what the statements call awake) answers true. No condition.
-/
import Derived.Test.YtekgbdakafmbhaaNext
namespace Go.Proofs.Ytekgbdakafmbhaa.Divs
open Go.ChangeShapes Go.WideShapes Go.ChangeAt Go.RowKit

theorem aw_div (w : World) : Calls Try.prog 10 #[.int .i64 (-7), .int .i64 3] w fun e w' => e = .returned (.tuple #[.int .i64 (-3), .int .i64 0]) ∧ ∃ n, w' = w.drewN n := by
  have h := div_yes (-7) 3 w (by omega) (by omega) (by omega) (by omega)
  rw [show (-7 : Int) / 3 = -3 from by decide] at h
  exact h
theorem aw_mod (w : World) : Calls Try.prog 11 #[.int .i64 (-7), .int .i64 3] w fun e w' => e = .returned (.tuple #[.int .i64 2, .int .i64 0]) ∧ ∃ n, w' = w.drewN n := by
  have h := mod_yes (-7) 3 w (by omega) (by omega) (by omega) (by omega)
  rw [show (-7 : Int) % 3 = 2 from by decide] at h
  exact h
theorem aw_ceil (w : World) : Calls Try.prog 12 #[.int .i64 (-7), .int .i64 3] w fun e w' => e = .returned (.tuple #[.int .i64 (-2), .int .i64 0]) ∧ ∃ n, w' = w.drewN n := by
  have h := ceil_yes (-7) 3 w (by omega) (by omega) (by omega) (by omega)
  rw [show (if (0 : Int) < -7 % 3 then (-7 : Int) / 3 + 1 else -7 / 3) = -2 from by decide] at h
  exact h
theorem aw_next (w : World) : Calls Try.prog 17 #[.int .i64 9, .int .i64 7, .int .i64 1] w fun e w' => e = .returned (.tuple #[.int .i64 15, .int .i64 0]) ∧ ∃ n, w' = w.drewN n := by
  have hg : gapI 9 7 1 = 6 := by decide
  have h := next_yes 9 7 1 w (by omega) (by omega) (by omega) (by omega) (by omega) (by omega) (by rw [hg]; omega)
  rw [hg] at h
  exact h
theorem aw_clamp (w : World) : Calls Try.prog 19 #[.int .i64 9, .int .i64 1, .int .i64 5] w fun e w' => e = .returned (.int .i64 5) ∧ ∃ n, w' = w.drewN n := by
  have h := clamp_any 9 1 5 w
  rw [show clampI 9 1 5 = 5 from by decide] at h
  exact h

theorem awake_any (w : World) : Calls Try.prog 13 #[] w fun e w' => e = .returned (.bool true) ∧ ∃ n, w' = w.drewN n := by
  go_enter Try.func13, Try.ntmps13
  go_wp2_with (first
    | (go_at_call 10; refine (aw_div _).mono ?_; rintro e w' ⟨rfl, n, rfl⟩)
    | (go_at_call 11; refine (aw_mod _).mono ?_; rintro e w' ⟨rfl, n, rfl⟩)
    | (go_at_call 12; refine (aw_ceil _).mono ?_; rintro e w' ⟨rfl, n, rfl⟩)
    | (go_at_call 17; refine (aw_next _).mono ?_; rintro e w' ⟨rfl, n, rfl⟩)
    | (go_at_call 19; refine (aw_clamp _).mono ?_; rintro e w' ⟨rfl, n, rfl⟩))
  go_ret
  exact ⟨rfl, _, rfl⟩
end Go.Proofs.Ytekgbdakafmbhaa.Divs
