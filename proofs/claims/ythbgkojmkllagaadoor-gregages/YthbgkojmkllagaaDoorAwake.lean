/-
  The chapter's example (what the statements call awake) answers true. Condition: the table of months lies where the program lays it.
-/
import Derived.Test.YthbgkojmkllagaaDoorOfNth
namespace Go.Proofs.YthbgkojmkllagaaDoor.Greg
open Go.ChangeShapes Go.WideShapes Go.ChangeAt Go.RowKit
open Go.Proofs.YthbgkojmkllagaaDoor.Divs
open Go.Proofs.YthbgkojmkllagaaDoor.Cal (lp ln tab dm ya ma dn yr mo om od)

theorem aw_day (w : World) (hL : Laid w) : Calls Tryd.prog 10 #[.agg #[.int .i64 2023, .int .i64 9, .int .i64 16]] w fun e w' => e = .returned (.tuple #[.int .i64 738779, .int .i64 0]) ∧ Grown w w' := by
  have h := day_yes 2023 9 16 w hL (by omega) (by omega) (by omega) (by omega) (by omega) (by decide)
  rw [show dn 2023 9 16 = 738779 from by decide] at h
  exact h

theorem aw_of (w : World) (hL : Laid w) : Calls Tryd.prog 20 #[.int .i64 738779] w fun e w' => e = .returned (.tuple #[.agg #[.int .i64 2023, .int .i64 9, .int .i64 16], .int .i64 0]) ∧ Grown w w' := by
  have h := of_yes 738779 w hL (by omega) (by omega)
  rw [show yr 738779 = 2023 from by decide, show om 738779 = 9 from by decide, show od 738779 = 16 from by decide] at h
  exact h

theorem aw_nth (w : World) (hL : Laid w) : Calls Tryd.prog 22 #[.int .i64 2023, .int .i64 9, .int .i64 6, .int .i64 3] w fun e w' => e = .returned (.tuple #[.int .i64 738779, .int .i64 0]) ∧ Grown w w' := by
  have h := nth_some 2023 9 6 3 w hL (by omega) (by omega) (by omega) (by omega) (by omega) (by omega) (by omega) (by omega) (by decide)
  rw [show fo (ya 2023 + ma 2023 9 + 1) 6 + (3 - 1) * 7 = 738779 from by decide] at h
  exact h

theorem aw_weekday (w : World) : Calls Tryd.prog 15 #[.int .i64 738779] w fun e w' => e = .returned (.int .i64 6) ∧ ∃ n, w' = w.drewN n := by
  have h := weekday_any 738779 w (by omega) (by omega)
  rw [show (738779 : Int) % 7 = 6 from by decide] at h
  exact h

theorem aw_leap (w : World) : Calls Tryd.prog 11 #[.int .i64 2000] w fun e w' => e = .returned (.bool true) ∧ w = w' := by
  have h := leap_any 2000 w
  rw [show lp 2000 = true from by decide] at h
  exact h

theorem aw_days (w : World) (hL : Laid w) : Calls Tryd.prog 13 #[.int .i64 2000, .int .i64 2] w fun e w' => e = .returned (.int .i64 29) ∧ w = w' := by
  have h := days_any 2000 2 w hL
  rw [show dm 2000 2 = 29 from by decide] at h
  exact h

set_option maxHeartbeats 1000000 in
theorem awake_any (w : World) (hL : Laid w) : Calls Tryd.prog 18 #[] w fun e w' => e = .returned (.bool true) ∧ Grown w w' := by
  go_enter Tryd.func18, Tryd.ntmps18
  go_wp2_with fail
  refine (aw_day _ hL).mono ?_
  rintro e w1 ⟨rfl, hg1⟩
  go_wp2_with fail
  have hL1 := hL.grown hg1
  refine (aw_of _ hL1).mono ?_
  rintro e w2 ⟨rfl, hg2⟩
  go_wp2_with fail
  have hL2 := hL1.grown (hg2.alloc #[.int .i64 2023, .int .i64 9, .int .i64 16] 23)
  refine (aw_nth _ hL2).mono ?_
  rintro e w3 ⟨rfl, hg3⟩
  have hL3 := hL2.grown hg3
  have c0 : w3.cell? ⟨w2.heap.size, 0, none⟩ = some (.int .i64 2023) := gsome hg3 (by simp)
  have c1 : w3.cell? ⟨w2.heap.size, 1, none⟩ = some (.int .i64 9) := gsome hg3 (by simp)
  have c2 : w3.cell? ⟨w2.heap.size, 2, none⟩ = some (.int .i64 16) := gsome hg3 (by simp)
  go_wp2_with (first
    | (go_at_call 15; refine (aw_weekday _).mono ?_; rintro e w' ⟨rfl, n, rfl⟩)
    | (go_at_call 11; refine (aw_leap _).mono ?_; rintro e w' ⟨rfl, rfl⟩)
    | (go_at_call 13; refine (aw_days _ ?_).mono ?_; (exact hL3); rintro e w' ⟨rfl, rfl⟩))
  go_ret
  exact ⟨rfl, gtrans hg1 (gtrans (hg2.alloc _ _) hg3)⟩

end Go.Proofs.YthbgkojmkllagaaDoor.Greg
