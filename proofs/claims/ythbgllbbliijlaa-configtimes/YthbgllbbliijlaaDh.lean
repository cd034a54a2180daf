/-
  Cells that are set, rows that are kept by that, and a configuration's result out of its cells. Conditions: as each theorem states.
-/
import Derived.Test.YthbgllbbliijlaaDg
namespace Go.Proofs.Ythbgllbbliijlaa.Conf
open Go.ChangeShapes Go.WideShapes Go.ChangeAt Go.RowKit
open Go.Proofs.Ythbgllbbliijlaa.Divs Go.Proofs.Ythbgllbbliijlaa.Grow Go.Proofs.Ythbgllbbliijlaa.Zone
open Go.Proofs.Ythbgllbbliijlaa.By (Sk SL bool_no bool_yes)
open Go.Proofs.Ythbgllbbliijlaa.Each
open Go.Proofs.Ythbgllbbliijlaa.Zo Go.Proofs.Ythbgllbbliijlaa.Su Go.Proofs.Ythbgllbbliijlaa.Cf

theorem heap_set_other (W : World) (A i g : Nat) (y : Value) (h : g ≠ A) : (W.setCell ⟨A, i, none⟩ y).heap[g]? = W.heap[g]? := by
  simp [World.setCell, Array.getElem?_modify, Ne.symm h]

theorem owns_set {W : World} {b : Nat} {e : TypeId} {n m : Nat} {v : Value} {xs : List Value} (h : W.ownsRow b e n v m xs) {A : Nat} (hA : A < b) (i : Nat) (y : Value) : (W.setCell ⟨A, i, none⟩ y).ownsRow b e n v m xs := by
  refine ⟨h.1, ?_⟩
  rcases h.2 with h | ⟨g, cap, cur, hv, h1, h2, h3⟩
  · exact .inl h
  · exact .inr ⟨g, cap, cur, hv, h1, by rw [heap_set_other _ _ _ _ _ (by omega)]; exact h2, h3⟩

theorem owns_sets {b : Nat} {e : TypeId} {n m : Nat} {v : Value} {xs : List Value} {A : Nat} (hA : A < b) (vs : List Value) : ∀ (W : World) (o : Nat), W.ownsRow b e n v m xs → (W.setCells A o vs).ownsRow b e n v m xs := by
  induction vs with
  | nil => intro W o h; exact h
  | cons y r ih => intro W o h; exact ih _ _ (owns_set h hA _ _)

theorem later_sets {w : World} {A : Nat} (hA : w.heap.size ≤ A) (vs : List Value) : ∀ (W : World) (o : Nat), Later w W → Later w (W.setCells A o vs) := by
  induction vs with
  | nil => intro W o h; exact h
  | cons y r ih => intro W o h; exact ih _ _ (h.setCell hA _)

theorem Row.there {B : Nat} {t : TypeId} {cs : Array Value} {W : World} (h : Row B t cs W) : W.there B 0 cs.size := by
  intro j hj
  rw [Nat.zero_add]
  refine ⟨?_, h.frozen j⟩
  rw [h.cell j (Array.getElem?_eq_getElem hj)]
  rfl

theorem results_at {fn : Func} {p : Tmp} (h : fn.results = #[.cell p 33]) (tmps : Array Value) (W : World) (g : Nat) (C : Array Value) (hC : C.size = 37) (hp : tmps.getD p undef = .pointer (some ⟨g, 0, none⟩)) (hA : At W g C) : (results fn tmps).run Try.prog W = .ok (.agg C) W := by
  have hp' : tmps[p]?.getD undef = .pointer (some ⟨g, 0, none⟩) := by simpa using hp
  have hi : (Try.prog.info? 33).map (·.size) = some C.toList.length := by
    rw [Array.length_toList, hC]
    kernel_rfl
  have := run_loadVar_mid (P := Try.prog) W g 0 33 C.toList _ (fun j v hv => by rw [Nat.zero_add]; exact hA j v (by simpa using hv)) Try.underlying33 rfl hi
  simp [results, h, hp', asAddr, this]

end Go.Proofs.Ythbgllbbliijlaa.Conf
