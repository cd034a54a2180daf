/-
  The cells of windows and of configurations, and rows of windows, wherever they lie. No condition but those that each theorem states.
-/
import Derived.Test.YthbgllbbliijlaaBy
import Derived.Test.YthbgllbbliijlaaCf
import Derived.Test.YthbgllbbliijlaaSk
import Derived.Deep.MidRow
namespace Go.Proofs.Ythbgllbbliijlaa.Conf
open Go.ChangeShapes Go.WideShapes Go.ChangeAt Go.RowKit
open Go.Proofs.Ythbgllbbliijlaa.Divs Go.Proofs.Ythbgllbbliijlaa.Grow Go.Proofs.Ythbgllbbliijlaa.Zone
open Go.Proofs.Ythbgllbbliijlaa.By (Sk SL)
open Go.Proofs.Ythbgllbbliijlaa.Zo Go.Proofs.Ythbgllbbliijlaa.Su Go.Proofs.Ythbgllbbliijlaa.Cf

/-- A window's cells. -/
def wc (x : Wn) : List Value := [.int .i64 x.k, .int .i64 x.m, .int .i64 x.p, .int .i64 x.a, .int .i64 x.h, .int .i64 x.u, .int .i64 x.l]

/-- The cells of windows in a row. -/
def fl (xs : List Wn) : List Value := xs.flatMap wc

theorem fl_len (xs : List Wn) : (fl xs).length = xs.length * 7 := by
  induction xs with
  | nil => rfl
  | cons x r ih =>
    have : fl (x :: r) = wc x ++ fl r := rfl
    rw [this, List.length_append, ih]
    simp only [wc, List.length_cons, List.length_nil]
    omega

theorem fl_app (xs ys : List Wn) : fl (xs ++ ys) = fl xs ++ fl ys := by simp [fl]

theorem fl_one (x : Wn) : fl [x] = wc x := by simp [fl]

theorem fl_take (xs : List Wn) (k : Nat) : fl (xs.take k) = (fl xs).take (k * 7) := by
  induction xs generalizing k with
  | nil => simp [fl]
  | cons x r ih =>
    cases k with
    | zero => simp [fl]
    | succ j =>
      have e : fl (x :: r) = wc x ++ fl r := rfl
      have e' : fl ((x :: r).take (j + 1)) = wc x ++ fl (r.take j) := rfl
      have l : (wc x).length = 7 := rfl
      rw [e, e', ih, List.take_append, l, List.take_of_length_le (l := wc x) (by omega), show (j + 1) * 7 - 7 = j * 7 by omega]

theorem fl_drop (xs : List Wn) (k : Nat) : fl (xs.drop k) = (fl xs).drop (k * 7) := by
  induction xs generalizing k with
  | nil => simp [fl]
  | cons x r ih =>
    cases k with
    | zero => simp [fl]
    | succ j =>
      have e : fl (x :: r) = wc x ++ fl r := rfl
      have e' : fl ((x :: r).drop (j + 1)) = fl (r.drop j) := rfl
      have l : (wc x).length = 7 := rfl
      rw [e, e', ih, List.drop_append, l, List.drop_of_length_le (l := wc x) (by omega), show (j + 1) * 7 - 7 = j * 7 by omega, List.nil_append]

theorem fl_get {xs : List Wn} {i : Nat} {x : Wn} (h : xs[i]? = some x) {j : Nat} (hj : j < 7) : (fl xs)[i * 7 + j]? = (wc x)[j]? := by
  have e : xs.drop i = x :: xs.drop (i + 1) := by
    obtain ⟨hi, rfl⟩ := List.getElem?_eq_some_iff.1 h
    exact List.drop_eq_getElem_cons hi
  have d := fl_drop xs i
  rw [e] at d
  have e2 : fl (x :: xs.drop (i + 1)) = wc x ++ fl (xs.drop (i + 1)) := rfl
  rw [← List.getElem?_drop, ← d, e2, List.getElem?_append_left (by simpa [wc] using hj)]

/-- v is a slice of these windows. -/
def Wk (W : World) (v : Value) (xs : List Wn) : Prop :=
  ∃ (ad : Option Addr) (cap : Nat), v = .slice ad xs.length cap ∧ xs.length ≤ cap ∧ cap ≤ 9223372036854775807 ∧ (ad = none → cap = 0) ∧
    ∀ (i : Nat) (x : Value), (fl xs)[i]? = some x → ∃ b off, ad = some ⟨b, off, none⟩ ∧ W.cell? ⟨b, off + i, none⟩ = some x

theorem Wk.later {W W' : World} {v : Value} {xs : List Wn} (h : Wk W v xs) (g : Later W W') : Wk W' v xs := by
  obtain ⟨ad, cap, rfl, h1, h2, h3, h4⟩ := h
  refine ⟨ad, cap, rfl, h1, h2, h3, fun i x hx => ?_⟩
  obtain ⟨b, off, e, c⟩ := h4 i x hx
  exact ⟨b, off, e, gsome g c⟩

theorem Wk.len {W : World} {v : Value} {xs : List Wn} (h : Wk W v xs) : ∃ ad cap, v = .slice ad xs.length cap ∧ xs.length ≤ 9223372036854775807 := by
  obtain ⟨ad, cap, rfl, h1, h2, _⟩ := h
  exact ⟨ad, cap, rfl, by omega⟩

/-- The cells of a slice of windows that has some. -/
theorem Wk.has {W : World} {v : Value} {xs : List Wn} (h : Wk W v xs) (hp : 0 < xs.length) :
    ∃ b off cap, v = .slice (some ⟨b, off, none⟩) xs.length cap ∧ xs.length ≤ 9223372036854775807 ∧ b < W.heap.size ∧ ∀ i x, xs[i]? = some x → W.rangeAt b (off + i * 7) (wc x) := by
  obtain ⟨ad, cap, rfl, h1, h2, h3, h4⟩ := h
  have hl := fl_len xs
  obtain ⟨c, hc⟩ : ∃ c, (fl xs)[0]? = some c := ⟨_, List.getElem?_eq_getElem (by omega)⟩
  obtain ⟨b, off, rfl, c0⟩ := h4 0 c hc
  refine ⟨b, off, cap, rfl, by omega, World.block_lt_of_cell? _ _ c0, fun i x hx j y hy => ?_⟩
  have hj : j < 7 := by
    have := (List.getElem?_eq_some_iff.1 hy).1
    simpa [wc] using this
  obtain ⟨b', off', e, c⟩ := h4 (i * 7 + j) y (by rw [fl_get hx hj]; exact hy)
  simp only [Option.some.injEq, Addr.mk.injEq, and_true] at e
  obtain ⟨rfl, rfl⟩ := e
  rw [Nat.add_assoc]
  exact c

/-- A configuration's cells, by its two slices. -/
def cc (c : Cg) (u v : Value) : Array Value := #[.int .i64 c.f, .int .i64 c.n, .int .i64 c.p, u, .int .i64 c.t, .int .i64 c.l, .int .i64 c.o, .int .i64 c.d, .int .i64 c.e, .int .i64 c.c, .int .i64 c.h, .int .i64 c.r, .int .i64 c.q,
  .int .i64 c.z.b, .int .i64 c.z.s, .int .i64 c.z.p.m, .int .i64 c.z.p.k, .int .i64 c.z.p.v, .int .i64 c.z.p.u, .int .i64 c.z.q.m, .int .i64 c.z.q.k, .int .i64 c.z.q.v, .int .i64 c.z.q.u,
  .int .i64 (c.s 0), .int .i64 (c.s 1), .int .i64 (c.s 2), .int .i64 (c.s 3), .int .i64 (c.s 4), .int .i64 (c.s 5), .int .i64 (c.s 6), .int .i64 (c.s 7), .int .i64 (c.s 8), .int .i64 (c.s 9), .int .i64 (c.s 10), .int .i64 (c.s 11), .bool c.ab, v]

end Go.Proofs.Ythbgllbbliijlaa.Conf
