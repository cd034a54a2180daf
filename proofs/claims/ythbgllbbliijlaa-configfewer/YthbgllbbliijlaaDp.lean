/-
  Rows that are cut, and a window struck off a row of its own. Conditions: as each theorem states.
-/
import Derived.Test.YthbgllbbliijlaaDo
import Derived.Deep.RegionLaw
namespace Go.Proofs.Ythbgllbbliijlaa.Conf
open Go.ChangeShapes Go.WideShapes Go.ChangeAt Go.RowKit
open Go.Proofs.Ythbgllbbliijlaa.Divs Go.Proofs.Ythbgllbbliijlaa.Grow Go.Proofs.Ythbgllbbliijlaa.Zone
open Go.Proofs.Ythbgllbbliijlaa.By (Sk SL bool_no bool_yes)
open Go.Proofs.Ythbgllbbliijlaa.Each
open Go.Proofs.Ythbgllbbliijlaa.Zo Go.Proofs.Ythbgllbbliijlaa.Su Go.Proofs.Ythbgllbbliijlaa.Cf

theorem WL.cuts {W : World} {B : Nat} {v : Value} {xs : List Wn} (h : WL W B v xs) (hp : 0 < xs.length) : ∃ g q, v = .slice (some ⟨g, 0, none⟩) xs.length q ∧ xs.length ≤ q ∧ q ≤ 9223372036854775807 ∧ (∀ k, k ≤ xs.length → WL W B (.slice (some ⟨g, 0, none⟩) k q) (xs.take k)) ∧ (∀ j u, (fl xs)[j]? = some u → W.cell? ⟨g, j, none⟩ = some u) := by
  have hk := h.wk
  obtain ⟨h1, h2⟩ := h
  rcases h2 with ⟨_, h0⟩ | ⟨g, cap, cur, rfl, b1, b2, b3, b4, b5, b6⟩
  · omega
  · refine ⟨g, cap, rfl, b3, by simpa [maxLen] using b4, fun k hk => ?_, fun j u hu => ?_⟩
    · have hl : (xs.take k).length = k := by rw [List.length_take, Nat.min_eq_left hk]
      unfold WL
      rw [hl]
      refine ⟨by rw [fl_len, hl], .inr ⟨g, cap, cur, rfl, b1, b2, by omega, b4, b5, ?_⟩⟩
      rw [fl_take, ← b6, List.take_take, Nat.min_eq_left (by omega)]
    · obtain ⟨ad, cap', e, c1, c2, c3, c4⟩ := hk
      obtain ⟨b, off, e', c⟩ := c4 j u hu
      subst e'
      simp only [Value.slice.injEq, Option.some.injEq, Addr.mk.injEq, and_true, true_and] at e
      obtain ⟨⟨rfl, rfl⟩, _⟩ := e
      rwa [Nat.zero_add] at c

theorem ints_cuts {W : World} {B : Nat} {v : Value} {xs : List Int} (h : SL .i64 3 W B v xs) (hp : 0 < xs.length) : ∃ g q, v = .slice (some ⟨g, 0, none⟩) xs.length q ∧ xs.length ≤ q ∧ q ≤ 9223372036854775807 ∧ (∀ k, k ≤ xs.length → SL .i64 3 W B (.slice (some ⟨g, 0, none⟩) k q) (xs.take k)) := by
  obtain ⟨h1, h2⟩ := h
  rcases h2 with ⟨_, h0⟩ | ⟨g, cap, cur, rfl, b1, b2, b3, b4, b5, b6⟩
  · omega
  · refine ⟨g, cap, rfl, b3, by simpa [maxLen] using b4, fun k hk => ?_⟩
    have hl : (xs.take k).length = k := by rw [List.length_take, Nat.min_eq_left hk]
    unfold By.SL
    rw [hl]
    refine ⟨by rw [List.length_map, hl, Nat.mul_one], .inr ⟨g, cap, cur, rfl, b1, b2, by omega, b4, b5, ?_⟩⟩
    rw [List.map_take, ← b6, List.take_take, Nat.mul_one, Nat.min_eq_left (by omega)]

/-- append of windows that lie wherever, to windows that are owned: a step of a region that draws. -/
theorem step_append_wins {w : World} {ops : Array Oper} {o : Oper} {a : Act} {K : Act → World → Prop} {Q : Exit → Act → World → Prop} {E : Prop} (hg : o.guard = none) (s x : Operand)
    (ho : o.op = .call { callee := .builtin .append, args := #[s, x], argTypes := #[31, 31] })
    (B : Nat) (v : Value) (ad : Addr) (m cap : Nat) (xs ys : List Wn) (hs : a.eval s = v) (hx : a.eval x = .slice (some ad) m cap) (hown : WL w B v xs)
    (hy : ∀ j u, (fl ys)[j]? = some u → w.cell? (ad.add j) = some u) (hm : ys.length = m) (hb : xs.length + ys.length ≤ 100000) (hB : B ≤ w.heap.size)
    (hK : ∀ v' w', WL w' B v' (xs ++ ys) → w.grownBy w' v.ownBlock → K (a.put o.dst v') w') : if Region.wanted o (yielded ops a.tmps) = true then Oper.wp Try.prog o a w K Q else E := by
  have hw : Region.wanted o (yielded ops a.tmps) = true := by simp [Region.wanted, hg]
  rw [if_pos hw]
  subst hm
  obtain ⟨i0, hi, hz0, hz1, hz2⟩ := info_parts info_win
  refine wp_append_own w s x 31 ho B 35 i0 _ 7 56 Try.underlying31 hi hz0 hz1 hz2 rfl (by decide) v _ _ hs hown ad ys.length cap (fl ys) hx (fl_len ys) hy (fl_cell ys) (by simp only [maxLen]; omega) (by omega) hB ?_
  intro v' w' h1 h2 _
  refine hK v' w' ?_ h2
  unfold WL
  rw [List.length_append, fl_app]
  exact h1

/-- A configuration's stops are cut. -/
theorem cut_done {w0 W : World} {B gD : Nat} {G : Array Value} {c : Cg} {u v u' : Value} {l : List Int} (hG : G = cc c u v) (hs : SL .i64 3 W B u' l) (hw : WL W B v c.ws) (hR : Row gD 33 G W) (hL : Later w0 W) (hB : w0.heap.size ≤ gD) :
    Row gD 33 (G.setIfInBounds 3 u') (W.setCell ⟨gD, 3, none⟩ u') ∧ Own (W.setCell ⟨gD, 3, none⟩ u') B (G.setIfInBounds 3 u') (ct c l) ∧ Later w0 (W.setCell ⟨gD, 3, none⟩ u') := by
  refine ⟨hR.set 3 u', ⟨u', v, by rw [hG]; exact cc_stops c u v u' l, ?_, ?_⟩, hL.setCell hB _⟩
  · exact owns_set' hs (own_apart hs hR (by decide)) _ _
  · exact owns_set' hw (own_apart hw hR (by decide)) _ _

theorem fl_rest (xs : List Wn) (k j : Nat) (u : Value) (h : (fl (xs.drop k))[j]? = some u) : (fl xs)[k * 7 + j]? = some u := by
  rw [fl_drop, List.getElem?_drop] at h
  exact h

end Go.Proofs.Ythbgllbbliijlaa.Conf
