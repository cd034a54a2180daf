/-
  Small facts on worlds that have grown (new blocks, nothing old turned), and one walk through a region that draws its order where the calls in it make memory: in every world that has grown from the first each operation yields the same. No condition but those that each theorem states.
-/
import Derived.Test.YtkdcfjaamahakaaLeaf
import Derived.Below
namespace Go.Proofs.Ytkdcfjaamahakaa.Grow
open Go.ChangeShapes Go.WideShapes Go.ChangeAt Go.RowKit

theorem gtrans {a b c : World} (h : Grown a b) (k : Grown b c) : Grown a c :=
  ⟨World.keptBut_trans h.1 k.1, fun x => (k.2.1 x).trans (h.2.1 x), Nat.le_trans h.2.2 k.2.2⟩

theorem gcell {W w1 : World} (h : Grown W w1) (b o : Nat) (hb : b < W.heap.size) : w1.cell? ⟨b, o, none⟩ = W.cell? ⟨b, o, none⟩ := by
  have k := h.1.2.2 b hb
  unfold World.cell?
  cases e1 : W.heap[b]? with
  | none =>
    cases e2 : w1.heap[b]? with
    | none => simp
    | some o2 => rw [e1, e2] at k; simp at k
  | some o1 =>
    cases e2 : w1.heap[b]? with
    | none => rw [e1, e2] at k; simp at k
    | some o2 =>
      rw [e1, e2] at k
      cases o1 <;> cases o2 <;> simp_all

theorem gsome {W w1 : World} (h : Grown W w1) {a : Nat} {o : Nat} {v : Value} (hc : W.cell? ⟨a, o, none⟩ = some v) : w1.cell? ⟨a, o, none⟩ = some v :=
  (gcell h a o (World.block_lt_of_cell? _ _ hc)).trans hc

/-- A world that has grown from w. -/
structure Gw (w : World) where
  w' : World
  h : Grown w w'

instance (w : World) : Nonempty (Gw w) := ⟨⟨w, Grown.refl w⟩⟩

theorem gw_cell {w : World} {b o : Nat} {v : Value} (hc : w.cell? ⟨b, o, none⟩ = some v) : ∀ x : Gw w, x.w'.cell? ⟨b, o, none⟩ = some v := fun x => gsome x.h hc

theorem gw_new (w : World) (c : Array Value) (t : TypeId) (i : Nat) (v : Value) (hc : c[i]? = some v) : ∀ x : Gw (w.alloc (.cells c t)), x.w'.cell? ⟨w.heap.size, i, none⟩ = some v :=
  gw_cell (by rw [World.cell?_alloc_new]; exact hc)

/-- One walk in the order of the text serves every order, each operation quiet in every world that has grown from w. -/
theorem region_grown {P : Program} {id : Nat} {Q : Exit → Act → World → Prop} {a : Act} {w : World} {l : List Oper} (hm : P.follows .mixedOrders = true) (hB : Region.lexB .any l.toArray = true)
    (h : wpQuiet P l.toArray (fun w' => ∃ x : Gw w, w' = x.w') (fun a' => ∀ w', (∃ x : Gw w, w' = x.w') → Q .normal a' w') l a) : (Code.region id l.toArray true).wp P Q a w :=
  wp_region_quiet (C := fun w' => ∃ x : Gw w, w' = x.w') hm hB ⟨⟨w.drew, Grown.refl w⟩, rfl⟩ h

theorem grown_end {w : World} {Q : World → Prop} (h : ∀ w', Grown w w' → Q w') : ∀ w', (∃ x : Gw w, w' = x.w') → Q w' := by
  rintro _ ⟨x, rfl⟩
  exact h _ x.h

/-- A callee's contract, met in a world that has grown. -/
theorem in_grown {P : Program} {f : FuncId} {args : Array Value} {w : World} {x : Gw w} {v : Value}
    (h : Calls P f args x.w' fun e w' => e = .returned v ∧ Grown x.w' w') : Calls P f args x.w' fun e w'' => e = .returned v ∧ ∃ y : Gw w, w'' = y.w' :=
  h.mono fun _ _ ⟨he, hg⟩ => ⟨he, ⟨_, gtrans x.h hg⟩, rfl⟩

theorem drewN_grown {w w' : World} (h : ∃ n, w' = w.drewN n) : Grown w w' := by
  obtain ⟨n, rfl⟩ := h
  exact Grown.refl w

theorem retb {a b : Bool} (h : a = b) : Ending.returned (.bool a) = .returned (.bool b) := by rw [h]

theorem same_g {w : World} {P : Program} {f : FuncId} {args : Array Value} {v : Value} (h : Calls P f args w fun e w' => e = .returned v ∧ w = w') : Calls P f args w fun e w' => e = .returned v ∧ Grown w w' :=
  h.mono fun _ _ ⟨he, hw⟩ => ⟨he, hw ▸ Grown.refl w⟩

theorem drew_g {w : World} {P : Program} {f : FuncId} {args : Array Value} {v : Value} (h : Calls P f args w fun e w' => e = .returned v ∧ ∃ n, w' = w.drewN n) : Calls P f args w fun e w' => e = .returned v ∧ Grown w w' :=
  h.mono fun _ _ ⟨he, hw⟩ => ⟨he, drewN_grown hw⟩

end Go.Proofs.Ytkdcfjaamahakaa.Grow
