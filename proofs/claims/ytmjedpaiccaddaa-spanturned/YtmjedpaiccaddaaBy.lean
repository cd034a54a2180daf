/-
  Slices of bytes and of numbers, wherever they lie: cut, appended, made, compared. No condition but those that each theorem states.
-/
import Derived.Test.YtmjedpaiccaddaaGrow
import Derived.Laws.CopyOwn
import Derived.Laws.AppendOwnNone
import Derived.Laws.OwnMore
import Derived.Maps.AppendAt
import Derived.RangeFuncBox
namespace Go.Proofs.Ytmjedpaiccaddaa.By
open Go.ChangeShapes Go.WideShapes Go.ChangeAt Go.RowKit
open Go.Proofs.Ytmjedpaiccaddaa.Divs Go.Proofs.Ytmjedpaiccaddaa.Grow

theorem info_byte : (Try.prog.info? 5).map (fun i => (i.zero, i.size, i.bytes)) = some (some (.int .u8 0), 1, 1) := by kernel_rfl

theorem info_int : (Try.prog.info? 3).map (fun i => (i.zero, i.size, i.bytes)) = some (some (.int .i64 0), 1, 8) := by kernel_rfl

/-- v is a slice of these numbers. -/
def Sk (k : IntKind) (W : World) (v : Value) (xs : List Int) : Prop :=
  ∃ (ad : Option Addr) (cap : Nat), v = .slice ad xs.length cap ∧ xs.length ≤ cap ∧ cap ≤ 9223372036854775807 ∧ (ad = none → cap = 0) ∧
    ∀ (i : Nat) (x : Int), xs[i]? = some x → ∃ b off, ad = some ⟨b, off, none⟩ ∧ W.cell? ⟨b, off + i, none⟩ = some (.int k x)

theorem Sk.later {k : IntKind} {W W' : World} {v : Value} {xs : List Int} (h : Sk k W v xs) (g : Later W W') : Sk k W' v xs := by
  obtain ⟨ad, cap, rfl, h1, h2, h3, h4⟩ := h
  refine ⟨ad, cap, rfl, h1, h2, h3, fun i x hx => ?_⟩
  obtain ⟨b, off, e, c⟩ := h4 i x hx
  exact ⟨b, off, e, gsome g c⟩

/-- The cells of a slice that has some. -/
theorem Sk.has {k : IntKind} {W : World} {v : Value} {xs : List Int} (h : Sk k W v xs) (hp : 0 < xs.length) :
    ∃ b off cap, v = .slice (some ⟨b, off, none⟩) xs.length cap ∧ xs.length ≤ cap ∧ cap ≤ 9223372036854775807 ∧ b < W.heap.size ∧ ∀ i, i < xs.length → W.cell? ⟨b, off + i, none⟩ = some (.int k (xs.getD i 0)) := by
  obtain ⟨ad, cap, rfl, h1, h2, h3, h4⟩ := h
  obtain ⟨b, off, rfl, c0⟩ := h4 0 (xs.getD 0 0) (by simp [hp])
  refine ⟨b, off, cap, rfl, h1, h2, World.block_lt_of_cell? _ _ c0, fun i hi => ?_⟩
  obtain ⟨b', off', e, c⟩ := h4 i (xs.getD i 0) (by simp [hi])
  simp at e
  obtain ⟨rfl, rfl⟩ := e
  exact c

theorem Sk.bare {k : IntKind} {W : World} {v : Value} (h : Sk k W v []) : ∃ ad cap, v = .slice ad 0 cap ∧ cap ≤ 9223372036854775807 ∧ (ad = none → cap = 0) := by
  obtain ⟨ad, cap, rfl, _, h2, h3, _⟩ := h
  exact ⟨ad, cap, rfl, h2, h3⟩

theorem Sk.len {k : IntKind} {W : World} {v : Value} {xs : List Int} (h : Sk k W v xs) : ∃ ad cap, v = .slice ad xs.length cap ∧ xs.length ≤ 9223372036854775807 := by
  obtain ⟨ad, cap, rfl, h1, h2, _⟩ := h
  exact ⟨ad, cap, rfl, by omega⟩

/-- A row that lies whole. -/
theorem Sk.row {k : IntKind} {W : World} {g : Nat} {t : TypeId} {fr : Nat × Nat} {xs : List Int} {cap : Nat} {cs : Array Value} (h : W.heap[g]? = some (.cells cs t fr)) (hc : ∀ (i : Nat) (x : Int), xs[i]? = some x → cs[i]? = some (.int k x)) (h1 : xs.length ≤ cap) (h2 : cap ≤ 9223372036854775807) :
    Sk k W (.slice (some ⟨g, 0, none⟩) xs.length cap) xs := by
  refine ⟨_, cap, rfl, h1, h2, by simp, fun i x hx => ⟨g, 0, rfl, ?_⟩⟩
  rw [Nat.zero_add]
  have := hc i x hx
  simp [World.cell?, h, this]

/-- Bytes that are 0. -/
def zb (n : Nat) : List Value := List.replicate n (.int .u8 0)

theorem add_zero (g j : Nat) : (⟨g, 0, none⟩ : Addr).add j = ⟨g, j, none⟩ := by
  unfold Addr.add
  split
  · rename_i h
    rw [h]
  · simp

/-- v is a slice of these numbers, its cells laid since the world had b blocks. -/
def SL (k : IntKind) (e : TypeId) (W : World) (b : Nat) (v : Value) (xs : List Int) : Prop := W.ownsRow b e 1 v xs.length (xs.map (Value.int k))

theorem SL.later {k : IntKind} {e : TypeId} {W W' : World} {b : Nat} {v : Value} {xs : List Int} (h : SL k e W b v xs) (g : Later W W') : SL k e W' b v xs :=
  World.ownsRow.kept h g.grownBy (by cases v.ownBlock <;> simp)

theorem later_grown {k : IntKind} {e : TypeId} {w a b : World} {v : Value} {xs : List Int} (g : Later w a) (f : SL k e a w.heap.size v xs) (h : a.grownBy b v.ownBlock) : Later w b :=
  Later.of_below (g.below.grown h g.size (fun j e => (World.ownsRow.lt f j e).1))

theorem SL.sk {k : IntKind} {e : TypeId} {W : World} {b : Nat} {v : Value} {xs : List Int} (h : SL k e W b v xs) : Sk k W v xs := by
  rcases h.2 with ⟨hv, h0⟩ | ⟨g, cap, cur, rfl, _, _, h1, h2, _⟩
  · obtain rfl : xs = [] := List.length_eq_zero_iff.1 h0
    exact ⟨none, 0, hv, by simp, by omega, by simp, by simp⟩
  · refine ⟨_, cap, rfl, h1, by simpa [maxLen] using h2, by simp, fun i x hx => ⟨g, 0, rfl, ?_⟩⟩
    have c := World.ownsRow.cells h (g := g) rfl i (.int k x) (by rw [List.getElem?_map, hx]; rfl)
    rw [add_zero] at c
    rw [Nat.zero_add]
    exact c

theorem SL.nil (k : IntKind) (e : TypeId) (W : World) (b : Nat) : SL k e W b (.slice none 0 0) [] := World.ownsRow_nil _ _ _ _

theorem sk_nil (k : IntKind) (W : World) : Sk k W (.slice none 0 0) [] := ⟨none, 0, rfl, by simp, by omega, by simp, by simp⟩

/-- A slice that owns bytes begins somewhere. -/
theorem SL.has {k : IntKind} {e : TypeId} {W : World} {b : Nat} {v : Value} {xs : List Int} (h : SL k e W b v xs) (hp : 0 < xs.length) :
    ∃ g cap, v = .slice (some ⟨g, 0, none⟩) xs.length cap ∧ ∀ j u, (xs.map (Value.int k))[j]? = some u → W.cell? ((⟨g, 0, none⟩ : Addr).add j) = some u := by
  rcases h.2 with ⟨_, h0⟩ | ⟨g, cap, cur, rfl, _⟩
  · omega
  · exact ⟨g, cap, rfl, World.ownsRow.cells h (g := g) rfl⟩

theorem SL.base {k : IntKind} {e : TypeId} {W : World} {b c : Nat} {v : Value} {xs : List Int} (h : SL k e W b v xs) (hb : c ≤ b) : SL k e W c v xs := by
  refine ⟨h.1, ?_⟩
  rcases h.2 with h | ⟨g, cap, cur, hv, h1, h2⟩
  · exact .inl h
  · exact .inr ⟨g, cap, cur, hv, Nat.le_trans hb h1, h2⟩

def IRel (xs ys : List Int) (w : World) (x : Value) (wr : World) : Prop := ∃ i k : Nat, i ≤ xs.length ∧ x = .int .i64 (i : Int) ∧ xs.take i = ys.take i ∧ wr = w.drewN k

theorem take_all (xs ys : List Int) (n : Nat) (hx : n = xs.length) (hl : xs.length = ys.length) (h : xs.take n = ys.take n) : xs = ys := by
  rw [List.take_of_length_le (by omega), List.take_of_length_le (by omega)] at h
  exact h

theorem take_on (xs ys : List Int) (i : Nat) (a : Int) (hx : xs[i]? = some a) (hy : ys[i]? = some a) (h : xs.take i = ys.take i) : xs.take (i + 1) = ys.take (i + 1) := by
  rw [List.take_add_one, List.take_add_one, h, hx, hy]

theorem bool_no {b : Bool} (h : ¬ b = true) : Ending.returned (.bool false) = .returned (.bool b) := by
  cases b
  · rfl
  · exact absurd rfl h

theorem bool_yes {b : Bool} (h : b = true) : Ending.returned (.bool true) = .returned (.bool b) := by rw [h]

/-- A row that has just been laid. -/
theorem sk_new (k : IntKind) (t : TypeId) (xs : List Int) (w : World) (hn : xs.length ≤ 1000) : Sk k (w.alloc (.cells (xs.map (Value.int k)).toArray t)) (.slice (some ⟨w.heap.size, 0, none⟩) xs.length xs.length) xs :=
  Sk.row (heap_alloc_new _ _) (fun i x hx => by simp [hx]) (Nat.le_refl _) (by omega)

/-- A slice as a source of cells: none, or they lie one behind the other. -/
theorem Sk.src {k : IntKind} {W : World} {v : Value} {xs : List Int} (h : Sk k W v xs) :
    (v = .slice none 0 0 ∧ xs = []) ∨ ∃ a cap, v = .slice (some a) xs.length cap ∧ ∀ j u, (xs.map (Value.int k))[j]? = some u → W.cell? (a.add j) = some u := by
  obtain ⟨ad, cap, rfl, h1, h2, h3, h4⟩ := h
  cases ad with
  | none =>
    obtain rfl := h3 rfl
    obtain rfl := List.length_eq_zero_iff.1 (Nat.le_zero.1 h1)
    exact .inl ⟨rfl, rfl⟩
  | some a =>
    refine .inr ⟨a, cap, rfl, fun j u hu => ?_⟩
    rw [List.getElem?_map] at hu
    cases e : xs[j]? with
    | none => rw [e] at hu; simp at hu
    | some x =>
      obtain ⟨b, off, ea, c⟩ := h4 j x e
      simp only [Option.some.injEq] at ea
      rw [e] at hu
      rw [ea, Go.WideShapes.add_plain, c]
      exact hu

/-- An empty slice that has just been made. -/
theorem SL.made (W0 w : World) (h : Later W0 w) : SL .u8 5 (w.alloc (.cells #[] 5)) W0.heap.size (.slice (some ⟨w.heap.size, 0, none⟩) 0 0) [] := by
  refine ⟨rfl, .inr ⟨w.heap.size, 0, #[], rfl, h.size, heap_alloc_new _ _, by simp, by simp, by simp, by simp⟩⟩

/-- A slice that begins its block, one of its numbers turned. -/
theorem Sk.set {k : IntKind} {W : World} {g n cap : Nat} {xs : List Int} (h : Sk k W (.slice (some ⟨g, 0, none⟩) n cap) xs) (i : Nat) (x : Int) (hi : i < xs.length) : Sk k (W.setCell ⟨g, i, none⟩ (.int k x)) (.slice (some ⟨g, 0, none⟩) n cap) (xs.set i x) := by
  obtain ⟨ad, cap', e, h1, h2, h3, h4⟩ := h
  simp only [Value.slice.injEq] at e
  obtain ⟨rfl, rfl, rfl⟩ := e
  refine ⟨_, _, by rw [List.length_set], by rw [List.length_set]; exact h1, h2, by simp, fun j y hy => ?_⟩
  refine ⟨g, 0, rfl, ?_⟩
  rw [Nat.zero_add]
  by_cases hj : j = i
  · subst hj
    obtain ⟨b, off, e, c⟩ := h4 j (xs.getD j 0) (by simp [hi])
    simp only [Option.some.injEq, Addr.mk.injEq, and_true] at e
    obtain ⟨rfl, rfl⟩ := e
    rw [Nat.zero_add] at c
    rw [World.cell?_setCell_same (h := c)]
    rw [List.getElem?_set_self hi] at hy
    simpa using hy
  · rw [List.getElem?_set_ne (by omega)] at hy
    obtain ⟨b, off, e, c⟩ := h4 j y hy
    simp only [Option.some.injEq, Addr.mk.injEq, and_true] at e
    obtain ⟨rfl, rfl⟩ := e
    rw [Nat.zero_add] at c
    rw [World.cell?_setCell_other (h := by intro e; simp only [Addr.mk.injEq, and_true, true_and] at e; omega)]
    exact c

/-- Bytes that have just been made. -/
theorem sk_made (W : World) (n : Nat) (h : n ≤ 100000) : Sk .u8 (W.alloc (.cells (zb n).toArray 5)) (.slice (some ⟨W.heap.size, 0, none⟩) n n) (List.replicate n 0) := by
  have := Sk.row (k := .u8) (xs := List.replicate n 0) (cap := n) (heap_alloc_new W (.cells (zb n).toArray 5)) (fun i x hx => by
    rw [List.getElem?_replicate] at hx
    split at hx
    · rename_i hi
      simp at hx
      subst hx
      simp [zb, hi]
    · simp at hx) (by simp) (by omega)
  simpa using this

end Go.Proofs.Ytmjedpaiccaddaa.By
