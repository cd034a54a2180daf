/-
  Slices of ints that a call laid. No condition.
-/
import Derived.Test.YthbgllbbliijlaaZc
import Derived.Maps.AppendAt
import Derived.RangeFuncBox
namespace Go.Proofs.Ythbgllbbliijlaa.Zone
open Go.ChangeShapes Go.WideShapes Go.ChangeAt Go.RowKit
open Go.Proofs.Ythbgllbbliijlaa.Divs Go.Proofs.Ythbgllbbliijlaa.Grow
open Go.Proofs.Ythbgllbbliijlaa.Zo

theorem info_int : (Try.prog.info? 3).map (fun i => (i.zero, i.size, i.bytes)) = some (some (.int .i64 0), 1, 8) := by kernel_rfl

/-- v is a slice of these numbers, its cells laid since the world had b blocks. -/
def SL (W : World) (b : Nat) (v : Value) (xs : List Int) : Prop := W.ownsRow b 3 1 v xs.length (xs.map (Value.int .i64))

theorem SL.later {W W' : World} {b : Nat} {v : Value} {xs : List Int} (h : SL W b v xs) (g : Later W W') : SL W' b v xs :=
  World.ownsRow.kept h g.grownBy (by cases v.ownBlock <;> simp)

theorem later_grown {w a b : World} {v : Value} {xs : List Int} (g : Later w a) (f : SL a w.heap.size v xs) (k : a.grownBy b v.ownBlock) : Later w b :=
  Later.of_below (g.below.grown k g.size (fun j e => (World.ownsRow.lt f j e).1))

/-- v is a slice of these numbers. -/
def Sl (W : World) (v : Value) (xs : List Int) : Prop :=
  (xs = [] ∧ v = .slice none 0 0) ∨ ∃ g cap, v = .slice (some ⟨g, 0, none⟩) xs.length cap ∧ ∀ (i : Nat) (a : Int), xs[i]? = some a → W.cell? ⟨g, i, none⟩ = some (.int .i64 a)

theorem Sl.later {W W' : World} {v : Value} {xs : List Int} (h : Sl W v xs) (g : Later W W') : Sl W' v xs := by
  rcases h with h | ⟨b, cap, e, h⟩
  · exact .inl h
  · exact .inr ⟨b, cap, e, fun i a hi => gsome g (h i a hi)⟩

theorem add_zero (g j : Nat) : (⟨g, 0, none⟩ : Addr).add j = ⟨g, j, none⟩ := by
  unfold Addr.add
  split
  · rename_i h
    rw [h]
  · simp

theorem SL.sl {W : World} {b : Nat} {v : Value} {xs : List Int} (h : SL W b v xs) : Sl W v xs := by
  rcases h.2 with ⟨e, h0⟩ | ⟨g, cap, cur, rfl, _⟩
  · exact .inl ⟨List.length_eq_zero_iff.1 h0, e⟩
  · refine .inr ⟨g, cap, rfl, fun i a hi => ?_⟩
    have c := World.ownsRow.cells h (g := g) rfl i (.int .i64 a) (by rw [List.getElem?_map, hi]; rfl)
    rwa [add_zero] at c

end Go.Proofs.Ythbgllbbliijlaa.Zone
