/-
  What any spans come to: the law's walk; rows of spans as long as memory holds.  Conditions: as each theorem states.
-/
import Derived.Test.YtmjedpaiccaddaaXs
import Derived.Test.YtmjedpaiccaddaaXt
import Derived.SizedLaws
namespace Go.Proofs.Ytmjedpaiccaddaa.Span
set_option maxRecDepth 100000
open Go.ChangeShapes Go.WideShapes Go.ChangeAt Go.RowKit
open Go.Proofs.Ytmjedpaiccaddaa.Divs Go.Proofs.Ytmjedpaiccaddaa.Grow
open Go.Proofs.Ytmjedpaiccaddaa.By (Sk SL)
open Go.Proofs.Ytmjedpaiccaddaa.Sp

/-- The appending of spans, whatever memory holds of them. -/
theorem append_big {w : World} {ops : Array Oper} {rest : List Oper} {o : Oper} {a : Act} {Q : Exit → Act → World → Prop} (hgd : o.guard = none) (s x : Operand)
    (ho : o.op = .call { callee := .builtin .append, args := #[s, x], argTypes := #[22, 22] })
    (W0 : World) (hl : Later W0 w) (v : Value) (xs : List Sp) (hs : a.eval s = v) (hown : WL w W0.heap.size v xs)
    (u : Value) (ys : List Sp) (hx : a.eval x = u) (hy : Ws w u ys) (hb : (xs.length + ys.length) * 32 ≤ 140737488355328)
    (h : ∀ v' w', WL w' W0.heap.size v' (xs ++ ys) → Later W0 w' → w.grownBy w' v.ownBlock → wpList Try.prog ops Q rest (a.put o.dst v') w') : wpList Try.prog ops Q (o :: rest) a w := by
  obtain ⟨i0, hi, hz0, hz1, hz2⟩ := info_parts info_span
  rcases hy.src with ⟨rfl, rfl⟩ | ⟨ad, cap, rfl, hc⟩
  · refine wpList_append_own_none hgd s x 22 ho W0.heap.size 31 i0 4 Try.underlying22 hi v _ _ hs hown hx ?_
    exact h v w (by rw [List.append_nil]; exact hown) hl ⟨rfl, rfl, rfl, Nat.le_refl _, fun _ _ _ => rfl⟩
  · refine wpList_append_own w hgd s x 22 ho W0.heap.size 31 i0 _ 4 32 Try.underlying22 hi hz0 hz1 hz2 rfl (by decide) v _ _ hs hown ad ys.length cap (sf ys) hx (sf_len ys) hc (sf_cell ys) (by simp only [maxLen]; omega) (by omega) hl.size ?_
    intro v' w' h1 h2 _
    refine h v' w' ?_ (own_later hl hown h2) h2
    unfold WL
    rw [List.length_append, sf_app]
    exact h1

theorem own_big (v : Value) (l : List Sp) (w : World) (h : Ws w v l) (hb : l.length * 32 ≤ 140737488355328) :
    Calls Try.prog 11 #[v] w fun e w' => ∃ v', e = .returned v' ∧ WL w' w.heap.size v' l ∧ Later w w' := by
  have HS := Lib.hid (h.later ((Later.refl w).alloc #[] 31))
  clear h
  go_enter Try.func11, Try.ntmps11
  go_wp2_with (refine append_big rfl (.tmp 3) (.tmp 4) rfl w ((Later.refl w).alloc _ _) _ [] rfl (WL.made w w (Later.refl w)) v l rfl HS.out (by simpa using hb) ?_; intro v' w1 hw hl _; have HW := Lib.hid hw; have HL := Lib.hid hl; clear hw hl)
  go_ret
  exact ⟨_, rfl, by simpa using HW.out, HL.out⟩

theorem mb_many {l : List Sp} (h : 500 < l.length) : mb l = false := by
  cases e : mb l
  · rfl
  · have := mb_len e; omega

set_option maxHeartbeats 4000000 in
theorem resolves_core (w : World) (v : Value) (l : List Sp) (h : Ws w v l) (hb : l.length * 32 ≤ 140737488355328) : Calls Try.prog 3 #[v] w fun e w' => e = .returned (.bool true) ∧ Later w w' := by
  have A := Lib.hid awake_any
  have HB := Lib.hid hb
  clear hb
  have HG0 := Lib.hid (Later.refl w)
  obtain ⟨ad, cap, e0, _⟩ := h.form
  obtain ⟨n, hn⟩ : ∃ n, l.length = n := ⟨_, rfl⟩
  rw [hn] at e0
  subst e0
  have HS := Lib.hid h
  have HN := Lib.hid hn
  by_cases h1 : 60 < n
  · have t1 : (n : Int) > 60 := by omega
    by_cases h2 : n ≤ 500
    · have t2 : (n : Int) ≤ 500 := by omega
      clear h hn h1 h2
      go_enter Try.func3, Try.ntmps3
      go_wp2_with fail
      refine (A.out _).mono ?_
      rintro e w9 ⟨rfl, hg9⟩
      go_wp2_with fail
      go_ret
      exact ⟨rfl, gtrans HG0.out hg9⟩
    · have t2 : ¬ (n : Int) ≤ 500 := by omega
      have HM : Hid (500 < l.length) := Lib.hid (by omega)
      clear h2
      clear h hn h1
      go_enter Try.func3, Try.ntmps3
      go_wp2_with fail
      refine (own_big _ l _ HS.out HB.out).mono ?_
      rintro e w1 ⟨v1, rfl, hv1, hg1⟩
      obtain ⟨a1, c1, rfl⟩ := hv1.lit HN.out
      have HW1 := Lib.hid hv1.ws
      have HG1 := Lib.hid (gtrans HG0.out hg1)
      clear hv1 hg1
      go_wp2_with fail
      have hmb : mb l = false := mb_many HM.out
      refine (resolve_no _ l _ HW1.out hmb).mono ?_
      rintro e w2 ⟨rfl, hg2⟩
      have HG2 := Lib.hid (gtrans HG1.out hg2)
      have M := Lib.hid (rmay_any _ l _ (HS.out.later HG2.out))
      rw [hmb] at M
      clear hg2 hmb
      go_wp2_with fail
      refine (M.out).mono ?_
      rintro e w3 ⟨rfl, hg3⟩
      have HG3 := Lib.hid (gtrans HG2.out hg3)
      clear hg3
      go_wp2_with fail
      refine (A.out _).mono ?_
      rintro e w4 ⟨rfl, hg4⟩
      go_wp2_with fail
      go_ret
      exact ⟨rfl, gtrans HG3.out hg4⟩
  · have t1 : ¬ (n : Int) > 60 := by omega
    clear h hn h1
    go_enter Try.func3, Try.ntmps3
    go_wp2_with fail
    refine (own_big _ l _ HS.out HB.out).mono ?_
    rintro e w1 ⟨v1, rfl, hv1, hg1⟩
    obtain ⟨a1, c1, rfl⟩ := hv1.lit HN.out
    have HW1 := Lib.hid hv1.ws
    have HG1 := Lib.hid (gtrans HG0.out hg1)
    clear hv1 hg1
    go_wp2_with fail
    cases hmb : mb l with
    | false =>
      refine (resolve_no _ l _ HW1.out hmb).mono ?_
      rintro e w2 ⟨rfl, hg2⟩
      have HG2 := Lib.hid (gtrans HG1.out hg2)
      have M := Lib.hid (rmay_any _ l _ (HS.out.later HG2.out))
      rw [hmb] at M
      clear hg2 hmb
      go_wp2_with fail
      refine (M.out).mono ?_
      rintro e w3 ⟨rfl, hg3⟩
      have HG3 := Lib.hid (gtrans HG2.out hg3)
      clear hg3
      go_wp2_with fail
      refine (A.out _).mono ?_
      rintro e w4 ⟨rfl, hg4⟩
      go_wp2_with fail
      go_ret
      exact ⟨rfl, gtrans HG3.out hg4⟩
    | true =>
      refine (res_yes _ l _ HW1.out hmb).mono ?_
      rintro e w2 ⟨⟨v2, R, rfl, hR, hv2⟩, hg2⟩
      obtain ⟨a2, c2, rfl⟩ := hv2.lit rfl
      have HX2 := Lib.hid hv2.ws
      have HG2 := Lib.hid (gtrans HG1.out hg2)
      have HR := Lib.hid hR
      have HL5 := Lib.hid (mb_len hmb)
      have M := Lib.hid (rmay_any _ l _ (HS.out.later HG2.out))
      rw [hmb] at M
      clear hg2 hmb hR hv2
      go_wp2_with fail
      refine (M.out).mono ?_
      rintro e w3 ⟨rfl, hg3⟩
      have HG3 := Lib.hid (gtrans HG2.out hg3)
      have HX3 := Lib.hid (HX2.out.later hg3)
      clear hg3
      go_wp2_with fail
      refine (A.out _).mono ?_
      rintro e w4 ⟨rfl, hg4⟩
      have HG4 := Lib.hid (gtrans HG3.out hg4)
      have HX4 := Lib.hid (HX3.out.later hg4)
      clear hg4
      go_wp2_with fail
      refine (rresolve_any _ l _ (HS.out.later HG4.out) HL5.out).mono ?_
      rintro e w5 ⟨v5, rfl, ⟨S, hS, hv5⟩, hg5⟩
      obtain rfl := uniq hS HR.out
      obtain ⟨a5, c5, rfl⟩ := hv5.lit rfl
      have HG5 := Lib.hid (gtrans HG4.out hg5)
      have Z := Lib.hid (same_any _ _ S S w5 (HX4.out.later hg5) hv5.ws)
      rw [decide_eq_true rfl] at Z
      clear hg5 hv5 hS
      go_wp2_with fail
      refine (Z.out).mono ?_
      rintro e w6 ⟨rfl, hg6⟩
      go_wp2_with fail
      go_ret
      exact ⟨rfl, gtrans HG5.out hg6⟩

end Go.Proofs.Ytmjedpaiccaddaa.Span
namespace Go.Proofs.Ytmjedpaiccaddaa.Conf
open Go.ChangeShapes Go.WideShapes Go.ChangeAt Go.RowKit
open Go.Proofs.Ytmjedpaiccaddaa.Divs Go.Proofs.Ytmjedpaiccaddaa.Grow
open Go.Proofs.Ytmjedpaiccaddaa.Sp Go.Proofs.Ytmjedpaiccaddaa.Span

section
variable {H : Type} {enc : TypeId × Value → H} {w : World} {base : Nat} {spare : Nat → Bool} {held : Bool}

/-- A row is no longer than what it is read as. -/
theorem row_read {r : Reach} {b0 : Nat} {v : Value} {d : DataW H} {p : List MemPlace} {xs : List Sp} (hv : Value.okWide Try.prog w r b0 22 v) (h : DataW.Trod enc Try.prog w base spare held 22 v d p) (hs : Ws w v xs) :
    xs.length = 0 ∨ ∃ elems rest, d = .slice elems rest ∧ elems.length = xs.length := by
  obtain ⟨ad, cap, e, _⟩ := hs.form
  subst e
  obtain ⟨fuel, hf⟩ := h
  simp [Value.cells] at hf
  rcases DataW.trod_slice Try.underlying22 hf with ⟨hcs, _⟩ | ⟨a, len, cap', elems, rest, m, _, hcs, hx, _, _, _, he, _⟩
  · simp only [List.cons.injEq, and_true, Value.slice.injEq] at hcs
    exact .inl hcs.2.1
  · simp only [List.cons.injEq, and_true, Value.slice.injEq] at hcs
    simp only [Prod.mk.injEq] at hx
    exact .inr ⟨_, _, hx.1, by rw [List.length_map, he, hcs.2.1]⟩

theorem bytesX : Try.prog.bytesOf 31 = 32 := by kernel_rfl

end

end Go.Proofs.Ytmjedpaiccaddaa.Conf
