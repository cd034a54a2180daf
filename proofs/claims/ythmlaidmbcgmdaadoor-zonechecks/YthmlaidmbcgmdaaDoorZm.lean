/-
  Whether two rows of numbers are the same, by the document: rows of at most two numbers. Condition: both are slices of the same numbers.
-/
import Derived.Test.YthmlaidmbcgmdaaDoorZi
import Derived.Test.YthmlaidmbcgmdaaDoorZr
import Derived.OwnWalk
import Derived.BigQuiet
import Derived.Deep.QuietTactic
namespace Go.Proofs.YthmlaidmbcgmdaaDoor.Zone
open Go.ChangeShapes Go.WideShapes Go.ChangeAt Go.RowKit
open Go.Proofs.YthmlaidmbcgmdaaDoor.Divs Go.Proofs.YthmlaidmbcgmdaaDoor.Grow
open Go.Proofs.YthmlaidmbcgmdaaDoor.Zo

/-- A slice that has numbers lies somewhere. -/
theorem Sl.some {W : World} {v : Value} {x : Int} {xs : List Int} (h : Sl W v (x :: xs)) : ∃ g cap, v = .slice (some ⟨g, 0, none⟩) (xs.length + 1) cap ∧ ∀ (i : Nat) (a : Int), (x :: xs)[i]? = some a → W.cell? ⟨g, i, none⟩ = some (.int .i64 a) := by
  rcases h with ⟨h, _⟩ | ⟨g, cap, e, h⟩
  · exact absurd h (by simp)
  · exact ⟨g, cap, e, h⟩

/-- A slice of no numbers has length 0. -/
theorem Sl.none {W : World} {v : Value} (h : Sl W v []) : ∃ a cap, v = .slice a 0 cap := by
  rcases h with ⟨_, h⟩ | ⟨g, cap, e, _⟩
  · exact ⟨_, _, h⟩
  · exact ⟨_, _, e⟩

def IRel (n : Nat) (w : World) (x : Value) (wr : World) : Prop := ∃ i k : Nat, i ≤ n ∧ x = .int .i64 i ∧ wr = w.drewN k

theorem rsame_nil (u v : Value) (w : World) (hu : Sl w u []) (hv : Sl w v []) : Calls Tryd.prog 20 #[u, v] w fun e w' => e = .returned (.bool true) ∧ Later w w' := by
  obtain ⟨a, c, rfl⟩ := hu.none
  obtain ⟨a', c', rfl⟩ := hv.none
  clear hu hv
  go_enter Tryd.func20, Tryd.ntmps20
  go_wp2_with fail
  go_loopw [5] (fun x wr => IRel 0 w x wr) (fun _ _ => 0)
  case atStart => exact ⟨0, 0, by omega, rfl, rfl⟩
  case round =>
    obtain ⟨i, k, hi, rfl, rfl⟩ := hrel
    obtain rfl : i = 0 := by omega
    go_wp2_with fail
    go_ret
    exact ⟨rfl, later_drewN w k⟩

theorem rsame_one (a : Int) (u v : Value) (w : World) (hu : Sl w u [a]) (hv : Sl w v [a]) : Calls Tryd.prog 20 #[u, v] w fun e w' => e = .returned (.bool true) ∧ Later w w' := by
  obtain ⟨g, c, rfl, cu⟩ := hu.some
  obtain ⟨g', c', rfl, cv⟩ := hv.some
  have u0 := cu 0 a rfl
  have v0 := cv 0 a rfl
  have e : (a != a) = false := by simp
  clear hu hv cu cv
  go_enter Tryd.func20, Tryd.ntmps20
  go_wp2_with fail
  go_loopw [5] (fun x wr => IRel 1 w x wr) (fun x _ => (1 - intOf x).toNat)
  case atStart => exact ⟨0, 0, by omega, rfl, rfl⟩
  case round =>
    obtain ⟨i, k, hi, rfl, rfl⟩ := hrel
    obtain rfl | rfl : i = 0 ∨ i = 1 := by omega
    · go_wp2_with fail
      go_quiet (fail)
      go_wp2_with fail
      go_roundw
      case rel => exact ⟨1, _, by omega, rfl, rfl⟩
      case measure => simp [intOf]
    · go_wp2_with fail
      go_ret
      exact ⟨rfl, later_drewN w k⟩

theorem rsame_two (a b : Int) (u v : Value) (w : World) (hu : Sl w u [a, b]) (hv : Sl w v [a, b]) : Calls Tryd.prog 20 #[u, v] w fun e w' => e = .returned (.bool true) ∧ Later w w' := by
  obtain ⟨g, c, rfl, cu⟩ := hu.some
  obtain ⟨g', c', rfl, cv⟩ := hv.some
  have u0 := cu 0 a rfl
  have v0 := cv 0 a rfl
  have u1 := cu 1 b rfl
  have v1 := cv 1 b rfl
  have e : (a != a) = false := by simp
  have e' : (b != b) = false := by simp
  clear hu hv cu cv
  go_enter Tryd.func20, Tryd.ntmps20
  go_wp2_with fail
  go_loopw [5] (fun x wr => IRel 2 w x wr) (fun x _ => (2 - intOf x).toNat)
  case atStart => exact ⟨0, 0, by omega, rfl, rfl⟩
  case round =>
    obtain ⟨i, k, hi, rfl, rfl⟩ := hrel
    obtain rfl | rfl | rfl : i = 0 ∨ i = 1 ∨ i = 2 := by omega
    · go_wp2_with fail
      go_quiet (fail)
      go_wp2_with fail
      go_roundw
      case rel => exact ⟨1, _, by omega, rfl, rfl⟩
      case measure => simp [intOf]
    · go_wp2_with fail
      go_quiet (fail)
      go_wp2_with fail
      go_roundw
      case rel => exact ⟨2, _, by omega, rfl, rfl⟩
      case measure => simp [intOf]
    · go_wp2_with fail
      go_ret
      exact ⟨rfl, later_drewN w k⟩

/-- The four ways in which a minute is told: never, once, shifted or not, and twice. -/
theorem ins_cases (z : Zn) (n : Int) : ins z n = [] ∨ (∃ a, ins z n = [a]) ∨ ∃ a b, ins z n = [a, b] := by
  unfold ins
  cases sm z (n - z.b - z.s) <;> cases sm z (n - z.b) <;> simp

theorem rsame_any (z : Zn) (n : Int) (u v : Value) (w : World) (hu : Sl w u (ins z n)) (hv : Sl w v (ins z n)) : Calls Tryd.prog 20 #[u, v] w fun e w' => e = .returned (.bool true) ∧ Later w w' := by
  rcases ins_cases z n with h | ⟨a, h⟩ | ⟨a, b, h⟩
  · rw [h] at hu hv
    exact rsame_nil u v w hu hv
  · rw [h] at hu hv
    exact rsame_one a u v w hu hv
  · rw [h] at hu hv
    exact rsame_two a b u v w hu hv

end Go.Proofs.YthmlaidmbcgmdaaDoor.Zone
