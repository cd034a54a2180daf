/-
  A configuration in memory of its own. Conditions: as each theorem states.
-/
import Derived.Test.YthbgllbbliijlaaDh
namespace Go.Proofs.Ythbgllbbliijlaa.Conf
open Go.ChangeShapes Go.WideShapes Go.ChangeAt Go.RowKit
open Go.Proofs.Ythbgllbbliijlaa.Divs Go.Proofs.Ythbgllbbliijlaa.Grow Go.Proofs.Ythbgllbbliijlaa.Zone
open Go.Proofs.Ythbgllbbliijlaa.By (Sk SL bool_no bool_yes)
open Go.Proofs.Ythbgllbbliijlaa.Each
open Go.Proofs.Ythbgllbbliijlaa.Zo Go.Proofs.Ythbgllbbliijlaa.Su Go.Proofs.Ythbgllbbliijlaa.Cf

theorem ints_made' (w : World) (g B : Nat) (hg : g = w.heap.size) (hB : B ≤ w.heap.size) : SL .i64 3 (w.alloc (.cells #[] 3)) B (.slice (some ⟨g, 0, none⟩) 0 0) [] := by
  subst hg
  exact ⟨rfl, .inr ⟨w.heap.size, 0, #[], rfl, hB, heap_alloc_new _ _, by simp, by simp, by simp, by simp⟩⟩

theorem wins_made' (w : World) (g B : Nat) (hg : g = w.heap.size) (hB : B ≤ w.heap.size) : WL (w.alloc (.cells #[] 35)) B (.slice (some ⟨g, 0, none⟩) 0 0) [] := by
  subst hg
  exact ⟨rfl, .inr ⟨w.heap.size, 0, #[], rfl, hB, heap_alloc_new _ _, by simp, by simp, by simp, by simp [fl]⟩⟩

theorem append_ints' {w : World} {ops : Array Oper} {rest : List Oper} {o : Oper} {a : Act} {Q : Exit → Act → World → Prop} (hgd : o.guard = none) (s x : Operand)
    (ho : o.op = .call { callee := .builtin .append, args := #[s, x], argTypes := #[22, 22] })
    (W0 : World) (hl : Later W0 w) (B : Nat) (hB : B = W0.heap.size) (v : Value) (xs : List Int) (hs : a.eval s = v) (hown : SL .i64 3 w B v xs)
    (u : Value) (ys : List Int) (hx : a.eval x = u) (hy : Sk .i64 w u ys) (hb : xs.length + ys.length ≤ 100000)
    (h : ∀ v' w', SL .i64 3 w' B v' (xs ++ ys) → Later W0 w' → wpList Try.prog ops Q rest (a.put o.dst v') w') : wpList Try.prog ops Q (o :: rest) a w := by
  subst hB
  exact append_ints hgd s x ho W0 hl v xs hs hown u ys hx hy hb h

theorem append_wins' {w : World} {ops : Array Oper} {rest : List Oper} {o : Oper} {a : Act} {Q : Exit → Act → World → Prop} (hgd : o.guard = none) (s x : Operand)
    (ho : o.op = .call { callee := .builtin .append, args := #[s, x], argTypes := #[31, 31] })
    (W0 : World) (hl : Later W0 w) (B : Nat) (hB : B = W0.heap.size) (v : Value) (xs : List Wn) (hs : a.eval s = v) (hown : WL w B v xs)
    (u : Value) (ys : List Wn) (hx : a.eval x = u) (hy : Wk w u ys) (hb : xs.length + ys.length ≤ 100000)
    (h : ∀ v' w', WL w' B v' (xs ++ ys) → Later W0 w' → wpList Try.prog ops Q rest (a.put o.dst v') w') : wpList Try.prog ops Q (o :: rest) a w := by
  subst hB
  exact append_wins hgd s x ho W0 hl v xs hs hown u ys hx hy hb h

end Go.Proofs.Ythbgllbbliijlaa.Conf
