/-
  Bytes that are appended to bytes of the call's own; and what Get and GetRow answer of what was put. Conditions: the numbers are ints, the bytes are bytes; at most 1000 numbers.
-/
import Derived.Test.YtmpmkjoabplfoaaWw
namespace Go.Proofs.Ytmpmkjoabplfoaa.Wire
open Go.ChangeShapes Go.WideShapes Go.ChangeAt Go.RowKit
open Go.Proofs.Ytmpmkjoabplfoaa.Divs Go.Proofs.Ytmpmkjoabplfoaa.Grow Go.Proofs.Ytmpmkjoabplfoaa.Wi

theorem append_sk {w : World} {ops : Array Oper} {rest : List Oper} {o : Oper} {a : Act} {Q : Exit → Act → World → Prop} (hgd : o.guard = none) (s x : Operand)
    (ho : o.op = .call { callee := .builtin .append, args := #[s, x], argTypes := #[25, 25] })
    (W0 : World) (hl : Later W0 w) (v : Value) (xs : List Int) (hs : a.eval s = v) (hown : SL .u8 5 w W0.heap.size v xs)
    (u : Value) (ys : List Int) (hx : a.eval x = u) (hy : Sk .u8 w u ys) (hb : xs.length + ys.length ≤ 100000)
    (h : ∀ v' w', SL .u8 5 w' W0.heap.size v' (xs ++ ys) → Later W0 w' → wpList Try.prog ops Q rest (a.put o.dst v') w') : wpList Try.prog ops Q (o :: rest) a w := by
  obtain ⟨i0, hi, hz0, hz1, hz2⟩ := info_parts info_byte
  rcases hy.src with ⟨rfl, rfl⟩ | ⟨ad, cap, rfl, hc⟩
  · refine wpList_append_own_none hgd s x 25 ho W0.heap.size 5 i0 1 Try.underlying25 hi v _ _ hs hown hx ?_
    exact h v w (by rw [List.append_nil]; exact hown) hl
  · refine wpList_append_own w hgd s x 25 ho W0.heap.size 5 i0 (.int .u8 0) 1 1 Try.underlying25 hi hz0 hz1 hz2 rfl (by decide) v _ _ hs hown ad ys.length cap (ys.map (Value.int .u8)) hx (by simp) hc (by intro u hu; obtain ⟨y, _, rfl⟩ := List.mem_map.1 hu; rfl) (by simp only [maxLen]; omega) (by omega) hl.size ?_
    intro v' w' h1 h2 _
    refine h v' w' ?_ (later_grown hl hown h2)
    unfold SL
    rw [List.length_append, List.map_append]
    exact h1

/-- An empty slice that has just been made. -/
theorem SL.made (W0 w : World) (h : Later W0 w) : SL .u8 5 (w.alloc (.cells #[] 5)) W0.heap.size (.slice (some ⟨w.heap.size, 0, none⟩) 0 0) [] := by
  refine ⟨rfl, .inr ⟨w.heap.size, 0, #[], rfl, h.size, heap_alloc_new _ _, by simp, by simp, by simp, by simp⟩⟩

theorem get_put (x : Int) (t : List Int) (v : Value) (w : World) (hx : In x) (ht : ∀ n ∈ t, 0 ≤ n ∧ n ≤ 255) (hs : Sk .u8 w v (pu x ++ t)) :
    Calls Try.prog 16 #[v, .int .i64 0] w fun e w' => e = .returned (.tuple #[.int .i64 x, .int .i64 ((pu x).length : Int), .int .i64 0]) ∧ w = w' := by
  have g := get_any (pu x ++ t) 0 v w hs (fun n hn => by
    rcases List.mem_append.1 hn with h | h
    · exact pu_byte x hx n h
    · exact ht n h)
  obtain ⟨a, b, c⟩ := g_at (pu x ++ t) 0 x t hx (by omega) (by simp)
  rw [Int.natCast_zero] at a b c
  rw [a, b, c, Int.zero_add] at g
  exact g

theorem rowt_byte (l t : List Int) (hl : ∀ n ∈ l, In n) (hn : l.length ≤ 1000) (ht : ∀ n ∈ t, 0 ≤ n ∧ n ≤ 255) : ∀ n ∈ ro l ++ t, 0 ≤ n ∧ n ≤ 255 := by
  intro n h
  rcases List.mem_append.1 h with h | h
  · exact ro_byte l hl (by omega) n h
  · exact ht n h

theorem getrow_row (l t : List Int) (v : Value) (w : World) (hl : ∀ n ∈ l, In n) (hn : l.length ≤ 1000) (ht : ∀ n ∈ t, 0 ≤ n ∧ n ≤ 255) (hs : Sk .u8 w v (ro l ++ t)) :
    Calls Try.prog 14 #[v, .int .i64 0, .int .i64 (l.length : Int)] w fun e w' => ∃ u, e = .returned (.tuple #[u, .int .i64 ((ro l).length : Int), .int .i64 0]) ∧ Sk .i64 w' u l ∧ Later w w' := by
  have g := getrow_any (ro l ++ t) 0 l.length v w hs (rowt_byte l t hl hn ht) (by omega)
  rw [grow_row l t l.length hl (by omega) (by omega)] at g
  exact g

theorem getrow_less (l t : List Int) (v : Value) (w : World) (hl : ∀ n ∈ l, In n) (hn : l.length ≤ 1000) (ht : ∀ n ∈ t, 0 ≤ n ∧ n ≤ 255) (hs : Sk .u8 w v (ro l ++ t)) :
    Calls Try.prog 14 #[v, .int .i64 0, .int .i64 ((l.length : Int) - 1)] w fun e w' => ∃ u, e = .returned (.tuple #[u, .int .i64 0, .int .i64 83]) ∧ Sk .i64 w' u [] ∧ Later w w' := by
  have g := getrow_any (ro l ++ t) 0 ((l.length : Int) - 1) v w hs (rowt_byte l t hl hn ht) (by omega)
  rw [grow_many l t ((l.length : Int) - 1) (by omega) (by omega)] at g
  exact g

end Go.Proofs.Ytmpmkjoabplfoaa.Wire
