/-
  The cells of spans, slices of spans wherever they lie, and slices that own them. No condition but those that each theorem states.
-/
import Derived.Test.YtmjedpaiccaddaaBy
import Derived.Test.YtmjedpaiccaddaaSr
import Derived.Deep.MidRow
namespace Go.Proofs.Ytmjedpaiccaddaa.Span
set_option maxRecDepth 100000
open Go.ChangeShapes Go.WideShapes Go.ChangeAt Go.RowKit
open Go.Proofs.Ytmjedpaiccaddaa.Divs Go.Proofs.Ytmjedpaiccaddaa.Grow
open Go.Proofs.Ytmjedpaiccaddaa.By (Sk SL)
open Go.Proofs.Ytmjedpaiccaddaa.Sp

/-- A span's cells. -/
def sc (x : Sp) : List Value := [.int .i64 x.f, .int .i64 x.t, .int .i64 x.m, .int .i64 x.p]

/-- The cells of spans in a row. -/
def sf (xs : List Sp) : List Value := xs.flatMap sc

theorem sf_len (xs : List Sp) : (sf xs).length = xs.length * 4 := by
  induction xs with
  | nil => rfl
  | cons x r ih =>
    have : sf (x :: r) = sc x ++ sf r := rfl
    rw [this, List.length_append, ih]
    simp only [sc, List.length_cons, List.length_nil]
    omega

theorem sf_app (xs ys : List Sp) : sf (xs ++ ys) = sf xs ++ sf ys := by simp [sf]

theorem sf_one (x : Sp) : sf [x] = sc x := by simp [sf]

theorem sf_drop (xs : List Sp) (k : Nat) : sf (xs.drop k) = (sf xs).drop (k * 4) := by
  induction xs generalizing k with
  | nil => simp [sf]
  | cons x r ih =>
    cases k with
    | zero => simp [sf]
    | succ j =>
      have e : sf (x :: r) = sc x ++ sf r := rfl
      have e' : sf ((x :: r).drop (j + 1)) = sf (r.drop j) := rfl
      have l : (sc x).length = 4 := rfl
      rw [e, e', ih, List.drop_append, l, List.drop_of_length_le (l := sc x) (by omega), show (j + 1) * 4 - 4 = j * 4 by omega, List.nil_append]

theorem sf_get {xs : List Sp} {i : Nat} {x : Sp} (h : xs[i]? = some x) {j : Nat} (hj : j < 4) : (sf xs)[i * 4 + j]? = (sc x)[j]? := by
  have e : xs.drop i = x :: xs.drop (i + 1) := by
    obtain ⟨hi, rfl⟩ := List.getElem?_eq_some_iff.1 h
    exact List.drop_eq_getElem_cons hi
  have d := sf_drop xs i
  rw [e] at d
  have e2 : sf (x :: xs.drop (i + 1)) = sc x ++ sf (xs.drop (i + 1)) := rfl
  rw [← List.getElem?_drop, ← d, e2, List.getElem?_append_left (by simpa [sc] using hj)]

theorem sf_cell (xs : List Sp) : ∀ u ∈ sf xs, u.oneCell' = true := by
  intro u hu
  obtain ⟨x, _, hx⟩ := List.mem_flatMap.1 hu
  simp only [sc, List.mem_cons, List.not_mem_nil, or_false] at hx
  rcases hx with rfl | rfl | rfl | rfl <;> rfl

/-- v is a slice of these spans. -/
def Ws (W : World) (v : Value) (xs : List Sp) : Prop :=
  ∃ (ad : Option Addr) (cap : Nat), v = .slice ad xs.length cap ∧ xs.length ≤ cap ∧ cap ≤ 9223372036854775807 ∧ (ad = none → cap = 0) ∧
    ∀ (i : Nat) (x : Value), (sf xs)[i]? = some x → ∃ b off, ad = some ⟨b, off, none⟩ ∧ W.cell? ⟨b, off + i, none⟩ = some x

theorem Ws.later {W W' : World} {v : Value} {xs : List Sp} (h : Ws W v xs) (g : Later W W') : Ws W' v xs := by
  obtain ⟨ad, cap, rfl, h1, h2, h3, h4⟩ := h
  refine ⟨ad, cap, rfl, h1, h2, h3, fun i x hx => ?_⟩
  obtain ⟨b, off, e, c⟩ := h4 i x hx
  exact ⟨b, off, e, gsome g c⟩

theorem ws_nil (W : World) : Ws W (.slice none 0 0) [] := ⟨none, 0, rfl, by simp, by omega, by simp, by simp [sf]⟩

theorem Ws.len {W : World} {v : Value} {xs : List Sp} (h : Ws W v xs) : ∃ ad cap, v = .slice ad xs.length cap ∧ xs.length ≤ 9223372036854775807 := by
  obtain ⟨ad, cap, rfl, h1, h2, _⟩ := h
  exact ⟨ad, cap, rfl, by omega⟩

theorem Ws.bare {W : World} {v : Value} (h : Ws W v []) : ∃ ad cap, v = .slice ad 0 cap ∧ (ad = none → cap = 0) ∧ cap ≤ 9223372036854775807 := by
  obtain ⟨ad, cap, rfl, _, h2, h3, _⟩ := h
  exact ⟨ad, cap, rfl, h3, h2⟩

/-- The cells of a slice of spans, one span's after the other's. -/
def At (W : World) (b off : Nat) (x : Sp) : Prop :=
  W.cell? ⟨b, off, none⟩ = some (.int .i64 x.f) ∧ W.cell? ⟨b, off + 1, none⟩ = some (.int .i64 x.t) ∧ W.cell? ⟨b, off + 2, none⟩ = some (.int .i64 x.m) ∧ W.cell? ⟨b, off + 3, none⟩ = some (.int .i64 x.p)

theorem At.later {W W' : World} {b off : Nat} {x : Sp} (h : At W b off x) (g : Later W W') : At W' b off x := ⟨gsome g h.1, gsome g h.2.1, gsome g h.2.2.1, gsome g h.2.2.2⟩

theorem Ws.has {W : World} {v : Value} {xs : List Sp} (h : Ws W v xs) (hp : 0 < xs.length) :
    ∃ b off cap, v = .slice (some ⟨b, off, none⟩) xs.length cap ∧ xs.length ≤ cap ∧ cap ≤ 9223372036854775807 ∧ b < W.heap.size ∧ ∀ i x, xs[i]? = some x → At W b (off + i * 4) x := by
  obtain ⟨ad, cap, rfl, h1, h2, h3, h4⟩ := h
  have hl := sf_len xs
  obtain ⟨c, hc⟩ : ∃ c, (sf xs)[0]? = some c := ⟨_, List.getElem?_eq_getElem (by omega)⟩
  obtain ⟨b, off, rfl, c0⟩ := h4 0 c hc
  refine ⟨b, off, cap, rfl, h1, h2, World.block_lt_of_cell? _ _ c0, fun i x hx => ?_⟩
  have go : ∀ j y, j < 4 → (sc x)[j]? = some y → W.cell? ⟨b, off + i * 4 + j, none⟩ = some y := fun j y hj hy => by
    obtain ⟨b', off', e, c⟩ := h4 (i * 4 + j) y (by rw [sf_get hx hj]; exact hy)
    simp only [Option.some.injEq, Addr.mk.injEq, and_true] at e
    obtain ⟨rfl, rfl⟩ := e
    rw [Nat.add_assoc]
    exact c
  exact ⟨go 0 _ (by omega) rfl, go 1 _ (by omega) rfl, go 2 _ (by omega) rfl, go 3 _ (by omega) rfl⟩

theorem Ws.src {W : World} {v : Value} {xs : List Sp} (h : Ws W v xs) :
    (v = .slice none 0 0 ∧ xs = []) ∨ ∃ a cap, v = .slice (some a) xs.length cap ∧ ∀ j u, (sf xs)[j]? = some u → W.cell? (a.add j) = some u := by
  obtain ⟨ad, cap, rfl, h1, h2, h3, h4⟩ := h
  cases ad with
  | none =>
    obtain rfl := h3 rfl
    obtain rfl := List.length_eq_zero_iff.1 (Nat.le_zero.1 h1)
    exact .inl ⟨rfl, rfl⟩
  | some a =>
    refine .inr ⟨a, cap, rfl, fun j u hu => ?_⟩
    obtain ⟨b, off, e, c⟩ := h4 j u hu
    obtain rfl := Option.some.inj e
    rw [Addr.add_mid]
    exact c

/-- A slice that owns these spans. -/
def WL (W : World) (b : Nat) (v : Value) (xs : List Sp) : Prop := W.ownsRow b 31 4 v xs.length (sf xs)

theorem WL.later {W W' : World} {b : Nat} {v : Value} {xs : List Sp} (h : WL W b v xs) (g : Later W W') : WL W' b v xs :=
  World.ownsRow.kept h g.grownBy (by cases v.ownBlock <;> simp)

theorem WL.base {W : World} {b c : Nat} {v : Value} {xs : List Sp} (h : WL W b v xs) (hb : c ≤ b) : WL W c v xs :=
  ⟨h.1, h.2.imp id (fun ⟨g, cap, cur, y1, y2, y3⟩ => ⟨g, cap, cur, y1, by omega, y3⟩)⟩

theorem own_later {w a b : World} {v : Value} {xs : List Sp} (g : Later w a) (f : WL a w.heap.size v xs) (h : a.grownBy b v.ownBlock) : Later w b :=
  Later.of_below (g.below.grown h g.size (fun j e => (World.ownsRow.lt f j e).1))

theorem WL.ws {W : World} {b : Nat} {v : Value} {xs : List Sp} (h : WL W b v xs) : Ws W v xs := by
  rcases h.2 with ⟨hv, h0⟩ | ⟨g, cap, cur, rfl, _, _, h1, h2, _⟩
  · obtain rfl : xs = [] := List.length_eq_zero_iff.1 h0
    exact ⟨none, 0, hv, by simp, by omega, by simp, by simp [sf]⟩
  · refine ⟨_, cap, rfl, h1, by simpa [maxLen] using h2, by simp, fun i x hx => ⟨g, 0, rfl, ?_⟩⟩
    have c := World.ownsRow.cells h (g := g) rfl i x hx
    rw [By.add_zero] at c
    rw [Nat.zero_add]
    exact c

theorem WL.nil (W : World) (b : Nat) : WL W b (.slice none 0 0) [] := World.ownsRow_nil _ _ _ _

theorem WL.made (W0 w : World) (h : Later W0 w) : WL (w.alloc (.cells #[] 31)) W0.heap.size (.slice (some ⟨w.heap.size, 0, none⟩) 0 0) [] := by
  refine ⟨rfl, .inr ⟨w.heap.size, 0, #[], rfl, h.size, heap_alloc_new _ _, by simp, by simp, by simp, by simp [sf]⟩⟩

theorem info_span : (Try.prog.info? 31).map (fun i => (i.zero, i.size, i.bytes)) = some (some (.agg #[.int .i64 0, .int .i64 0, .int .i64 0, .int .i64 0]), 4, 32) := by kernel_rfl

theorem append_spans {w : World} {ops : Array Oper} {rest : List Oper} {o : Oper} {a : Act} {Q : Exit → Act → World → Prop} (hgd : o.guard = none) (s x : Operand)
    (ho : o.op = .call { callee := .builtin .append, args := #[s, x], argTypes := #[22, 22] })
    (W0 : World) (hl : Later W0 w) (v : Value) (xs : List Sp) (hs : a.eval s = v) (hown : WL w W0.heap.size v xs)
    (u : Value) (ys : List Sp) (hx : a.eval x = u) (hy : Ws w u ys) (hb : xs.length + ys.length ≤ 100000)
    (h : ∀ v' w', WL w' W0.heap.size v' (xs ++ ys) → Later W0 w' → w.grownBy w' v.ownBlock → wpList Try.prog ops Q rest (a.put o.dst v') w') : wpList Try.prog ops Q (o :: rest) a w := by
  obtain ⟨i0, hi, hz0, hz1, hz2⟩ := info_parts info_span
  rcases hy.src with ⟨rfl, rfl⟩ | ⟨ad, cap, rfl, hc⟩
  · refine wpList_append_own_none hgd s x 22 ho W0.heap.size 31 i0 4 Try.underlying22 hi v _ _ hs hown hx ?_
    exact h v w (by rw [List.append_nil]; exact hown) hl ⟨rfl, rfl, rfl, Nat.le_refl _, fun _ _ _ => rfl⟩
  · refine wpList_append_own w hgd s x 22 ho W0.heap.size 31 i0 _ 4 32 Try.underlying22 hi hz0 hz1 hz2 rfl (by decide) v _ _ hs hown ad ys.length cap (sf ys) hx (sf_len ys) hc (sf_cell ys) (by simp only [maxLen]; omega) (by omega) hl.size ?_
    intro v' w' h1 h2 _
    refine h v' w' ?_ (own_later hl hown h2) h2
    unfold WL
    rw [List.length_append, sf_app]
    exact h1

end Go.Proofs.Ytmjedpaiccaddaa.Span
