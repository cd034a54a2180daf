/-
  Spans, rows of them, and pieces as arguments: their cells.  No condition but those that each theorem states.
-/
import Derived.Test.YtmjedpaiccaddaaXr
import Derived.ProofKit
import Derived.OpenShut
import Derived.ShutString
import Derived.ChangeOld
import Derived.Below
import Derived.Carry
import Derived.Lib.SmallJoins
namespace Go.Proofs.Ytmjedpaiccaddaa.Conf
set_option maxRecDepth 100000
open Go.ChangeShapes Go.WideShapes Go.ChangeAt Go.RowKit
open Go.Proofs.Ytmjedpaiccaddaa.Divs Go.Proofs.Ytmjedpaiccaddaa.Grow
open Go.Proofs.Ytmjedpaiccaddaa.Sp Go.Proofs.Ytmjedpaiccaddaa.Span

theorem own : ownKnob Try.prog.godebug = none := by kernel_rfl
theorem laidOut : laidOutB Try.prog = true := by kernel_rfl
theorem cellsI : Try.prog.cellsOf 3 = 1 := by kernel_rfl
theorem cellsX : Try.prog.cellsOf 31 = 4 := by kernel_rfl
theorem cellsV : Try.prog.cellsOf 22 = 1 := by kernel_rfl
theorem cellsP : Try.prog.cellsOf 38 = 4 := by kernel_rfl

/-- A number that fits. -/
def In (a : Int) : Prop := -9223372036854775808 ≤ a ∧ a ≤ 9223372036854775807
/-- A span of such. -/
def InS (x : Sp) : Prop := In x.f ∧ In x.t ∧ In x.m ∧ In x.p

section
variable {H : Type} {enc : TypeId × Value → H} {w : World} {base : Nat} {spare : Nat → Bool} {held : Bool}

theorem part {t : TypeId} {fs : Array Field} {fuel : Nat} {cs : List Value} {x : DataW H × List MemPlace} (ht : Try.prog.underlying t = some (.struct fs)) (h : DataW.trod enc Try.prog w base spare held fuel t cs = some x) (i : Nat) (f : Field) (hf : fs[i]? = some f) :
    ∃ n y, DataW.trod enc Try.prog w base spare held n f.type ((cs.drop f.offset).take (Try.prog.cellsOf f.type)) = some y := by
  obtain ⟨xs, n, _, _, _, hl, hall⟩ := DataW.trod_struct ht h
  have hi : i < fs.size := (Array.getElem?_eq_some_iff.1 hf).1
  exact ⟨n, xs[i]'(by omega), by rw [hall i f hf]; exact List.getElem?_eq_getElem (by omega)⟩

theorem cell_int {n : Nat} {c : Value} {y : DataW H × List MemPlace} (h : DataW.trod enc Try.prog w base spare held n 3 [c] = some y) : ∃ a, c = .int .i64 a ∧ In a := by
  obtain ⟨a, e, b, b2⟩ := DataW.trod_int Try.underlying3 h
  simp only [List.cons.injEq, and_true] at e
  refine ⟨a, e, ?_⟩
  exact bounds_i64 (by assumption)

theorem open_sp {n : Nat} {c0 c1 c2 c3 : Value} {x : DataW H × List MemPlace} (h : DataW.trod enc Try.prog w base spare held n 31 [c0, c1, c2, c3] = some x) :
    ∃ s : Sp, c0 = .int .i64 s.f ∧ c1 = .int .i64 s.t ∧ c2 = .int .i64 s.m ∧ c3 = .int .i64 s.p ∧ InS s := by
  obtain ⟨n0, y0, h0⟩ := part Try.underlying31 h 0 _ rfl
  obtain ⟨n1, y1, h1⟩ := part Try.underlying31 h 1 _ rfl
  obtain ⟨n2, y2, h2⟩ := part Try.underlying31 h 2 _ rfl
  obtain ⟨n3, y3, h3⟩ := part Try.underlying31 h 3 _ rfl
  simp [cellsI] at h0 h1 h2 h3
  obtain ⟨a0, e0, b0⟩ := cell_int h0
  obtain ⟨a1, e1, b1⟩ := cell_int h1
  obtain ⟨a2, e2, b2⟩ := cell_int h2
  obtain ⟨a3, e3, b3⟩ := cell_int h3
  exact ⟨⟨a0, a1, a2, a3⟩, e0, e1, e2, e3, b0, b1, b2, b3⟩

theorem list4 {α : Type} (l : List α) (h : l.length = 4) : ∃ c0 c1 c2 c3, l = [c0, c1, c2, c3] := by
  match l, h with
  | [c0, c1, c2, c3], _ => exact ⟨c0, c1, c2, c3, rfl⟩

/-- The spans behind cells. -/
theorem spans_of (a : Addr) (len : Nat) (h : ∀ i, i < len → ∃ x : Sp, InS x ∧ w.cells? base (a.add (i * 4)) 4 = some (sc x)) : ∃ xs : List Sp, xs.length = len ∧ (∀ x ∈ xs, InS x) ∧ ∀ i x, xs[i]? = some x → w.cells? base (a.add (i * 4)) 4 = some (sc x) := by
  induction len with
  | zero => exact ⟨[], rfl, by simp, by simp⟩
  | succ k ih =>
    obtain ⟨xs, hl, hb, hx⟩ := ih (fun i hi => h i (by omega))
    obtain ⟨x, hxb, hk⟩ := h k (by omega)
    refine ⟨xs ++ [x], by simp [hl], fun y hy => ?_, fun i y hy => ?_⟩
    · rcases List.mem_append.1 hy with hy | hy
      · exact hb y hy
      · rw [List.mem_singleton.1 hy]; exact hxb
    by_cases e : i < k
    · rw [List.getElem?_append_left (by omega)] at hy
      exact hx i y hy
    · rw [List.getElem?_append_right (by omega)] at hy
      have hi : i - xs.length = 0 := by
        have := (List.getElem?_eq_some_iff.1 hy).1
        simp at this
        omega
      rw [hi] at hy
      have ei : i = k := by omega
      simp only [List.getElem?_cons_zero, Option.some.injEq] at hy
      subst hy ei
      exact hk

theorem sf_get' {xs : List Sp} {q r : Nat} {x : Sp} (h : xs[q]? = some x) (hr : r < 4) : (sf xs)[q * 4 + r]? = (sc x)[r]? := by
  induction xs generalizing q with
  | nil => simp at h
  | cons y ys ih =>
    have e : sf (y :: ys) = sc y ++ sf ys := rfl
    rw [e]
    cases q with
    | zero =>
      simp only [List.getElem?_cons_zero, Option.some.injEq] at h
      subst h
      rw [Nat.zero_mul, Nat.zero_add, List.getElem?_append_left (by simpa [sc] using hr)]
    | succ q =>
      rw [List.getElem?_append_right (by simp only [sc, List.length_cons, List.length_nil]; omega)]
      have : (q + 1) * 4 + r - (sc y).length = q * 4 + r := by simp only [sc, List.length_cons, List.length_nil]; omega
      rw [this]
      exact ih (by simpa using h)

theorem open_spans {n : Nat} {v : Value} {x : DataW H × List MemPlace} (h : DataW.trod enc Try.prog w base spare held n 22 [v] = some x) : ∃ xs : List Sp, Ws w v xs ∧ ∀ y ∈ xs, InS y := by
  rcases DataW.trod_slice Try.underlying22 h with ⟨hcs, _⟩ | ⟨a, len, cap, elems, rest, m, _, hcs, _, hb, hl, hm, he, hall, _, _⟩
  · simp only [List.cons.injEq, and_true] at hcs
    subst hcs
    exact ⟨[], ws_nil w, by simp⟩
  · simp only [List.cons.injEq, and_true] at hcs
    subst hcs
    rw [cellsX] at hall
    obtain ⟨xs, hxl, hxb, hx⟩ := spans_of (w := w) (base := base) a len (fun i hi => by
      have h1 := hall i hi
      rw [List.getElem?_eq_getElem (by omega), Option.bind_eq_some_iff] at h1
      obtain ⟨cs, hc, ht⟩ := h1
      obtain ⟨c0, c1, c2, c3, rfl⟩ := list4 cs (World.cells?_some hc).2.1
      obtain ⟨s, rfl, rfl, rfl, rfl, hs⟩ := open_sp ht
      exact ⟨s, hs, hc⟩)
    subst hxl
    refine ⟨xs, ⟨some a, cap, rfl, hl, by simpa [maxLen] using hm, by simp, fun i y hy => ?_⟩, hxb⟩
    have hi : i < xs.length * 4 := by
      have := (List.getElem?_eq_some_iff.1 hy).1
      rwa [sf_len] at this
    have hq : i / 4 < xs.length := by omega
    have hr : i % 4 < 4 := by omega
    have hxi : xs[i / 4]? = some (xs[i / 4]) := List.getElem?_eq_getElem hq
    have e1 : i = i / 4 * 4 + i % 4 := by omega
    rw [e1, sf_get' hxi hr] at hy
    have hc := (World.cells?_some (hx _ _ hxi)).2.2 (i % 4) hr
    rw [hy] at hc
    obtain ⟨b, off, spot⟩ := a
    have hspot : spot = none := by
      have h0 : xs[0]? = some (xs[0]'(by omega)) := List.getElem?_eq_getElem (by omega)
      have := (World.cells?_some (hx _ _ h0)).2.2 0 (by omega)
      exact World.cell?_spot (this.trans (show (sc _)[0]? = some _ from rfl))
    subst hspot
    refine ⟨b, off, rfl, ?_⟩
    rw [Go.WideShapes.add_plain, Go.WideShapes.add_plain] at hc
    rw [e1, ← Nat.add_assoc]
    exact hc

theorem open_row {r : Reach} {b0 : Nat} {v : Value} {d : DataW H} {p : List MemPlace} (hv : Value.okWide Try.prog w r b0 22 v) (h : DataW.Trod enc Try.prog w base spare held 22 v d p) : ∃ xs : List Sp, Ws w v xs ∧ ∀ y ∈ xs, InS y := by
  obtain ⟨ad, l0, c0, rfl⟩ := okWide_slice Try.underlying22 hv
  obtain ⟨fuel, hf⟩ := h
  simp [Value.cells] at hf
  exact open_spans hf

theorem open_span {r : Reach} {b0 : Nat} {v : Value} {d : DataW H} {p : List MemPlace} (hv : Value.okWide Try.prog w r b0 31 v) (h : DataW.Trod enc Try.prog w base spare held 31 v d p) :
    ∃ x : Sp, v = .agg (sc x).toArray ∧ InS x := by
  obtain ⟨cs, rfl, hsz⟩ := okWide_struct Try.underlying31 hv
  obtain ⟨l⟩ := cs
  obtain ⟨c0, c1, c2, c3, rfl⟩ := list4 l (hsz.trans cellsX)
  obtain ⟨fuel, hf⟩ := h
  obtain ⟨s, rfl, rfl, rfl, rfl, hs⟩ := open_sp hf
  exact ⟨s, rfl, hs⟩

theorem open_pieces {r : Reach} {b0 : Nat} {v : Value} {d : DataW H} {p : List MemPlace} (hv : Value.okWide Try.prog w r b0 38 v) (h : DataW.Trod enc Try.prog w base spare held 38 v d p) :
    ∃ (x : Value) (xs : List Sp) (a b c : Int), v = .agg #[x, .int .i64 a, .int .i64 b, .int .i64 c] ∧ Ws w x xs := by
  obtain ⟨cs, rfl, hsz⟩ := okWide_struct Try.underlying38 hv
  obtain ⟨l⟩ := cs
  obtain ⟨c0, c1, c2, c3, rfl⟩ := list4 l (hsz.trans cellsP)
  obtain ⟨fuel, hf⟩ := h
  obtain ⟨n0, y0, h0⟩ := part Try.underlying38 hf 0 _ rfl
  obtain ⟨n1, y1, h1⟩ := part Try.underlying38 hf 1 _ rfl
  obtain ⟨n2, y2, h2⟩ := part Try.underlying38 hf 2 _ rfl
  obtain ⟨n3, y3, h3⟩ := part Try.underlying38 hf 3 _ rfl
  simp [cellsV, Value.cells] at h0
  simp [cellsI, Value.cells] at h1
  simp [cellsI, Value.cells] at h2
  simp [cellsI, Value.cells] at h3
  obtain ⟨a1, rfl, _⟩ := cell_int h1
  obtain ⟨a2, rfl, _⟩ := cell_int h2
  obtain ⟨a3, rfl, _⟩ := cell_int h3
  obtain ⟨xs, hs, _⟩ := open_spans h0
  exact ⟨_, xs, a1, a2, a3, rfl, hs⟩

end

end Go.Proofs.Ytmjedpaiccaddaa.Conf
