/-
  A window that is appended to a row of its own, and what is kept by that. Conditions: as each theorem states.
-/
import Derived.Test.YthbgllbbliijlaaDn
namespace Go.Proofs.Ythbgllbbliijlaa.Conf
open Go.ChangeShapes Go.WideShapes Go.ChangeAt Go.RowKit
open Go.Proofs.Ythbgllbbliijlaa.Divs Go.Proofs.Ythbgllbbliijlaa.Grow Go.Proofs.Ythbgllbbliijlaa.Zone
open Go.Proofs.Ythbgllbbliijlaa.By (Sk SL bool_no bool_yes)
open Go.Proofs.Ythbgllbbliijlaa.Each
open Go.Proofs.Ythbgllbbliijlaa.Zo Go.Proofs.Ythbgllbbliijlaa.Su Go.Proofs.Ythbgllbbliijlaa.Cf

theorem grown_same (w : World) (r : Option Nat) : w.grownBy w r := ⟨rfl, rfl, rfl, Nat.le_refl _, fun _ _ _ => rfl⟩

theorem append_wins_g {w : World} {ops : Array Oper} {rest : List Oper} {o : Oper} {a : Act} {Q : Exit → Act → World → Prop} (hgd : o.guard = none) (s x : Operand)
    (ho : o.op = .call { callee := .builtin .append, args := #[s, x], argTypes := #[31, 31] })
    (B : Nat) (hB : B ≤ w.heap.size) (v : Value) (xs : List Wn) (hs : a.eval s = v) (hown : WL w B v xs)
    (u : Value) (ys : List Wn) (hx : a.eval x = u) (hy : Wk w u ys) (hb : xs.length + ys.length ≤ 100000)
    (h : ∀ v' w', WL w' B v' (xs ++ ys) → w.grownBy w' v.ownBlock → wpList Try.prog ops Q rest (a.put o.dst v') w') : wpList Try.prog ops Q (o :: rest) a w := by
  obtain ⟨i0, hi, hz0, hz1, hz2⟩ := info_parts info_win
  rcases hy.src with ⟨rfl, rfl⟩ | ⟨ad, cap, rfl, hc⟩
  · refine wpList_append_own_none hgd s x 31 ho B 35 i0 7 Try.underlying31 hi v _ _ hs hown hx ?_
    exact h v w (by rw [List.append_nil]; exact hown) (grown_same _ _)
  · refine wpList_append_own w hgd s x 31 ho B 35 i0 _ 7 56 Try.underlying31 hi hz0 hz1 hz2 rfl (by decide) v _ _ hs hown ad ys.length cap (fl ys) hx (fl_len ys) hc (fl_cell ys) (by simp only [maxLen]; omega) (by omega) hB ?_
    intro v' w' h1 h2 _
    refine h v' w' ?_ h2
    unfold WL
    rw [List.length_append, fl_app]
    exact h1

theorem own_row {W : World} {b : Nat} {e : TypeId} {n m : Nat} {v : Value} {xs : List Value} (h : W.ownsRow b e n v m xs) {g : Nat} (hv : v.ownBlock = some g) : ∃ cur, Row g e cur W := by
  rcases h.2 with ⟨rfl, _⟩ | ⟨g', cap, cur, rfl, h1, h2, h3⟩
  · simp [Value.ownBlock] at hv
  · simp only [Value.ownBlock, Option.some.injEq] at hv
    subst hv
    exact ⟨cur, h2⟩

theorem row_apart {W : World} {g : Nat} {t t' : TypeId} {cs cs' : Array Value} (h : Row g t cs W) (h' : Row g t' cs' W) : t = t' := by
  unfold Row at h h'
  rw [h] at h'
  simp only [Option.some.injEq, Obj.cells.injEq] at h'
  exact h'.2.1

theorem own_apart {W : World} {b : Nat} {e : TypeId} {n m : Nat} {v : Value} {xs : List Value} (h : W.ownsRow b e n v m xs) {g : Nat} {t : TypeId} {cs : Array Value} (hR : Row g t cs W) (ht : t ≠ e) : some g ≠ v.ownBlock := by
  intro hv
  obtain ⟨cur, hr⟩ := own_row h hv.symm
  exact ht (row_apart hR hr)

theorem Row.grown {B : Nat} {t : TypeId} {cs : Array Value} {W W' : World} {r : Option Nat} (h : Row B t cs W) (g : W.grownBy W' r) (hn : some B ≠ r) : Row B t cs W' := (g.block B h.lt hn).trans h

theorem owns_grown {W W' : World} {b : Nat} {e : TypeId} {n m : Nat} {v : Value} {xs : List Value} {r : Option Nat} (h : W.ownsRow b e n v m xs) (g : W.grownBy W' r) (hn : ∀ k, v.ownBlock = some k → some k ≠ r) : W'.ownsRow b e n v m xs := by
  refine ⟨h.1, ?_⟩
  rcases h.2 with h | ⟨g', cap, cur, rfl, h1, h2, h3⟩
  · exact .inl h
  · exact .inr ⟨g', cap, cur, rfl, h1, Row.grown h2 g (hn g' rfl), h3⟩

theorem owns_set' {W : World} {b : Nat} {e : TypeId} {n m : Nat} {v : Value} {xs : List Value} (h : W.ownsRow b e n v m xs) {A : Nat} (hn : some A ≠ v.ownBlock) (i : Nat) (y : Value) : (W.setCell ⟨A, i, none⟩ y).ownsRow b e n v m xs := by
  refine ⟨h.1, ?_⟩
  rcases h.2 with h | ⟨g', cap, cur, rfl, h1, h2, h3⟩
  · exact .inl h
  · refine .inr ⟨g', cap, cur, rfl, h1, ?_, h3⟩
    rw [heap_set_other _ _ _ _ _ (fun e => hn (by rw [← e]; rfl))]
    exact h2

theorem wk_new (W : World) (x : Wn) (g : Nat) (hg : g = W.heap.size) : Wk (W.alloc (.cells (wc x).toArray 35)) (.slice (some ⟨g, 0, none⟩) 1 1) [x] := by
  refine ⟨_, 1, rfl, by simp, by decide, by simp, fun i y hy => ⟨_, 0, rfl, ?_⟩⟩
  rw [Nat.zero_add]
  rw [fl_one] at hy
  exact (row_new' _ _ _ _ hg).cell i (by simpa using hy)

theorem cc_wins (c : Cg) (u v v' : Value) (l : List Wn) : (cc c u v).setIfInBounds 36 v' = cc (cw c l) u v' := by simp [cc, cw]

theorem cc_stops (c : Cg) (u v u' : Value) (l : List Int) : (cc c u v).setIfInBounds 3 u' = cc (ct c l) u' v := by simp [cc, ct]

/-- A configuration's windows are appended to, and it is given the row. -/
theorem append_done {w0 W w6 : World} {B gD : Nat} {F : Array Value} {c : Cg} {u v v' : Value} {xs l : List Wn} (hF : F = cc c u v) (hs : SL .i64 3 W B u c.st) (hw : WL W B v xs) (hR : Row gD 33 F W) (hL : Later w0 W) (hB : B = w0.heap.size) (hD : B ≤ gD) (hv : WL w6 B v' l) (hg : W.grownBy w6 v.ownBlock) :
    Row gD 33 F w6 ∧ Row gD 33 (F.setIfInBounds 36 v') (w6.setCell ⟨gD, 36, none⟩ v') ∧ Own (w6.setCell ⟨gD, 36, none⟩ v') B (F.setIfInBounds 36 v') (cw c l) ∧ Later w0 (w6.setCell ⟨gD, 36, none⟩ v') := by
  have hR6 : Row gD 33 F w6 := hR.grown hg (own_apart hw hR (by decide))
  have hs6 : SL .i64 3 w6 B u c.st := owns_grown hs hg (fun k hk => by
    obtain ⟨cur, hr⟩ := own_row hs hk
    exact own_apart hw hr (by decide))
  subst hB
  refine ⟨hR6, hR6.set 36 v', ⟨u, v', by rw [hF]; exact cc_wins c u v v' l, ?_, ?_⟩, (win_grown hL hw hg).setCell hD _⟩
  · exact owns_set' hs6 (own_apart hs6 hR6 (by decide)) _ _
  · exact owns_set' hv (own_apart hv hR6 (by decide)) _ _

end Go.Proofs.Ythbgllbbliijlaa.Conf
