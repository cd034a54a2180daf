/-
  A table of sunsets as an argument: read off its cells, and read again behind the call. No condition.
-/
import Derived.Test.YtepaiolhflpmeaaDoorLift
namespace Go.Proofs.YtepaiolhflpmeaaDoor.Sun
open Go.ChangeShapes Go.WideShapes Go.ChangeAt Go.RowKit Go.Joins
open Go.Proofs.YtepaiolhflpmeaaDoor.Su

/-- A table's numbers are ints. -/
def Swf (s : Nat → Int) : Prop := ∀ i, i < 12 → (Lit.int .i64 (s i)).wf = true

/-- A table's datum. -/
def sd {H : Type} (s : Nat → Int) : DataW H := .agg [.lit (.int .i64 (s 0)), .lit (.int .i64 (s 1)), .lit (.int .i64 (s 2)), .lit (.int .i64 (s 3)), .lit (.int .i64 (s 4)), .lit (.int .i64 (s 5)), .lit (.int .i64 (s 6)), .lit (.int .i64 (s 7)), .lit (.int .i64 (s 8)), .lit (.int .i64 (s 9)), .lit (.int .i64 (s 10)), .lit (.int .i64 (s 11))]

theorem cellsI : Tryd.prog.cellsOf 3 = 1 := by kernel_rfl
theorem cellsS : Tryd.prog.cellsOf 23 = 12 := by kernel_rfl

/-- In a context of its own: the match inside the main proof would carry all that speaks of l. -/
theorem list12 {α : Type} (l : List α) (h : l.length = 12) : ∃ c0 c1 c2 c3 c4 c5 c6 c7 c8 c9 c10 c11, l = [c0, c1, c2, c3, c4, c5, c6, c7, c8, c9, c10, c11] := by
  match l, h with
  | [c0, c1, c2, c3, c4, c5, c6, c7, c8, c9, c10, c11], _ => exact ⟨_, _, _, _, _, _, _, _, _, _, _, _, rfl⟩

section
variable {H : Type} {enc : TypeId × Value → H} {w : World} {base : Nat} {spare : Nat → Bool} {held : Bool}

set_option maxHeartbeats 1000000 in
theorem open_tab {r : Reach} {b0 : Nat} {v : Value} {d : DataW H} {p : List MemPlace} (hv : Value.okWide Tryd.prog w r b0 23 v) (h : DataW.Trod enc Tryd.prog w base spare held 23 v d p) :
    ∃ s : Nat → Int, v = .agg (sc s) ∧ d = sd s ∧ p = [] ∧ Swf s := by
  obtain ⟨cs, rfl, hsz, _⟩ : ∃ cs, v = .agg cs ∧ cs.size = Tryd.prog.cellsOf 23 ∧ Row.okWide Tryd.prog w r b0 23 cs := by
    simpa [Value.okWide, Tryd.underlying23] using hv
  rw [cellsS] at hsz
  obtain ⟨l⟩ := cs
  obtain ⟨c0, c1, c2, c3, c4, c5, c6, c7, c8, c9, c10, c11, rfl⟩ := list12 l (by simpa using hsz)
  obtain ⟨fuel, hf⟩ := h
  obtain ⟨xs, m, _, ex, _, hl, hel⟩ := DataW.trod_array Tryd.underlying23 hf
  obtain ⟨y0, y1, y2, y3, y4, y5, y6, y7, y8, y9, y10, y11, rfl⟩ := list12 xs hl
  have int_of : ∀ (c : Value) (y : DataW H × List MemPlace), DataW.trod enc Tryd.prog w base spare held m 3 [c] = some y → ∃ a : Int, c = .int .i64 a ∧ y = (.lit (.int .i64 a), []) ∧ (Lit.int .i64 a).wf = true := by
    intro c y hy
    obtain ⟨a, e, rfl, w0⟩ := DataW.trod_int Tryd.underlying3 hy
    simp only [List.cons.injEq, and_true] at e
    exact ⟨a, e, rfl, w0⟩
  obtain ⟨a0, rfl, rfl, w0⟩ := int_of c0 y0 (by have := hel 0 (by omega); simpa [Value.cells, cellsI] using this)
  obtain ⟨a1, rfl, rfl, w1⟩ := int_of c1 y1 (by have := hel 1 (by omega); simpa [Value.cells, cellsI] using this)
  obtain ⟨a2, rfl, rfl, w2⟩ := int_of c2 y2 (by have := hel 2 (by omega); simpa [Value.cells, cellsI] using this)
  obtain ⟨a3, rfl, rfl, w3⟩ := int_of c3 y3 (by have := hel 3 (by omega); simpa [Value.cells, cellsI] using this)
  obtain ⟨a4, rfl, rfl, w4⟩ := int_of c4 y4 (by have := hel 4 (by omega); simpa [Value.cells, cellsI] using this)
  obtain ⟨a5, rfl, rfl, w5⟩ := int_of c5 y5 (by have := hel 5 (by omega); simpa [Value.cells, cellsI] using this)
  obtain ⟨a6, rfl, rfl, w6⟩ := int_of c6 y6 (by have := hel 6 (by omega); simpa [Value.cells, cellsI] using this)
  obtain ⟨a7, rfl, rfl, w7⟩ := int_of c7 y7 (by have := hel 7 (by omega); simpa [Value.cells, cellsI] using this)
  obtain ⟨a8, rfl, rfl, w8⟩ := int_of c8 y8 (by have := hel 8 (by omega); simpa [Value.cells, cellsI] using this)
  obtain ⟨a9, rfl, rfl, w9⟩ := int_of c9 y9 (by have := hel 9 (by omega); simpa [Value.cells, cellsI] using this)
  obtain ⟨a10, rfl, rfl, w10⟩ := int_of c10 y10 (by have := hel 10 (by omega); simpa [Value.cells, cellsI] using this)
  obtain ⟨a11, rfl, rfl, w11⟩ := int_of c11 y11 (by have := hel 11 (by omega); simpa [Value.cells, cellsI] using this)
  simp only [Prod.mk.injEq] at ex
  obtain ⟨rfl, rfl⟩ := ex
  refine ⟨fun i => [a0, a1, a2, a3, a4, a5, a6, a7, a8, a9, a10, a11].getD i 0, rfl, rfl, rfl, ?_⟩
  intro i hi
  obtain rfl | rfl | rfl | rfl | rfl | rfl | rfl | rfl | rfl | rfl | rfl | rfl : i = 0 ∨ i = 1 ∨ i = 2 ∨ i = 3 ∨ i = 4 ∨ i = 5 ∨ i = 6 ∨ i = 7 ∨ i = 8 ∨ i = 9 ∨ i = 10 ∨ i = 11 := by omega
  all_goals assumption

theorem shut_tab (s : Nat → Int) (h : Swf s) : DataW.Trod enc Tryd.prog w base spare held 23 (.agg (sc s)) (sd s) [] := by
  have w0 := h 0 (by omega)
  have w1 := h 1 (by omega)
  have w2 := h 2 (by omega)
  have w3 := h 3 (by omega)
  have w4 := h 4 (by omega)
  have w5 := h 5 (by omega)
  have w6 := h 6 (by omega)
  have w7 := h 7 (by omega)
  have w8 := h 8 (by omega)
  have w9 := h 9 (by omega)
  have w10 := h 10 (by omega)
  have w11 := h 11 (by omega)
  exact ⟨2, by simp [DataW.trod, Value.cells, sc, sd, Tryd.underlying23, Tryd.underlying3, cellsS, cellsI, w0, w1, w2, w3, w4, w5, w6, w7, w8, w9, w10, w11, show List.range 12 = [0, 1, 2, 3, 4, 5, 6, 7, 8, 9, 10, 11] from rfl]⟩

end

end Go.Proofs.YtepaiolhflpmeaaDoor.Sun
