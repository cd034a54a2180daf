/-
  The chapter's example, played by the program; and cuts of slices. No condition but those that each theorem states.
-/
import Derived.Test.YtmpmkjoabplfoaaWf
namespace Go.Proofs.Ytmpmkjoabplfoaa.Wire
open Go.ChangeShapes Go.WideShapes Go.ChangeAt Go.RowKit
open Go.Proofs.Ytmpmkjoabplfoaa.Divs Go.Proofs.Ytmpmkjoabplfoaa.Grow Go.Proofs.Ytmpmkjoabplfoaa.Wi

theorem ex_get : gN [216, 4, 1] 0 = 300 ∧ gP [216, 4, 1] 0 = 2 ∧ gE [216, 4, 1] 0 = 0 := by decide +kernel

theorem ex_row : grow [2, 1] 0 9 = ([-1], 2, 0) := by decide +kernel

theorem ex_put : pu 300 = [216, 4] ∧ pu (-1) = [1] := by decide +kernel

/-- A row that has just been laid. -/
theorem sk_new (k : IntKind) (t : TypeId) (xs : List Int) (w : World) (hn : xs.length ≤ 1000) : Sk k (w.alloc (.cells (xs.map (Value.int k)).toArray t)) (.slice (some ⟨w.heap.size, 0, none⟩) xs.length xs.length) xs :=
  Sk.row (heap_alloc_new _ _) (fun i x hx => by simp [hx]) (Nat.le_refl _) (by omega)

theorem ex1 (W : World) : Calls Try.prog 16 #[.slice (some ⟨W.heap.size, 0, none⟩) 3 3, .int .i64 0] (W.alloc (.cells #[.int .u8 216, .int .u8 4, .int .u8 1] 5)) fun e w' => e = .returned (.tuple #[.int .i64 300, .int .i64 2, .int .i64 0]) ∧ Later (W.alloc (.cells #[.int .u8 216, .int .u8 4, .int .u8 1] 5)) w' := by
  have := get_any [216, 4, 1] 0 _ _ (sk_new .u8 5 [216, 4, 1] W (by decide)) (by decide)
  rw [ex_get.1, ex_get.2.1, ex_get.2.2] at this
  exact same_g this

theorem ex2 (W : World) : Calls Try.prog 14 #[.slice (some ⟨W.heap.size, 0, none⟩) 2 2, .int .i64 0, .int .i64 9] (W.alloc (.cells #[.int .u8 2, .int .u8 1] 5)) fun e w' => ∃ u, e = .returned (.tuple #[u, .int .i64 2, .int .i64 0]) ∧ Sk .i64 w' u [-1] ∧ Later (W.alloc (.cells #[.int .u8 2, .int .u8 1] 5)) w' := by
  have := getrow_any [2, 1] 0 9 _ _ (sk_new .u8 5 [2, 1] W (by decide)) (by decide) (by omega)
  rw [ex_row] at this
  exact this

theorem ex3 (W : World) (v : Value) (h : Sk .u8 W v [216, 4]) : Calls Try.prog 9 #[v, .slice (some ⟨W.heap.size, 0, none⟩) 2 2] (W.alloc (.cells #[.int .u8 216, .int .u8 4] 5)) fun e w' => e = .returned (.bool true) ∧ Later (W.alloc (.cells #[.int .u8 216, .int .u8 4] 5)) w' := by
  have := bsame_any [216, 4] [216, 4] v _ _ (h.later ((Later.refl W).put _)) (sk_new .u8 5 [216, 4] W (by decide))
  simpa using this

theorem ex4 (W : World) (v : Value) (h : Sk .u8 W v [1]) : Calls Try.prog 9 #[v, .slice (some ⟨W.heap.size, 0, none⟩) 1 1] (W.alloc (.cells #[.int .u8 1] 5)) fun e w' => e = .returned (.bool true) ∧ Later (W.alloc (.cells #[.int .u8 1] 5)) w' := by
  have := bsame_any [1] [1] v _ _ (h.later ((Later.refl W).put _)) (sk_new .u8 5 [1] W (by decide))
  simpa using this

theorem ex5 (W : World) (v : Value) (h : Sk .i64 W v [-1]) : Calls Try.prog 15 #[v, .slice (some ⟨W.heap.size, 0, none⟩) 1 1] (W.alloc (.cells #[.int .i64 (-1)] 3)) fun e w' => e = .returned (.bool true) ∧ Later (W.alloc (.cells #[.int .i64 (-1)] 3)) w' := by
  have := isame_any [-1] [-1] v _ _ (h.later ((Later.refl W).put _)) (sk_new .i64 3 [-1] W (by decide))
  simpa using this

set_option maxHeartbeats 1000000 in
theorem awake_any (w : World) : Calls Try.prog 8 #[] w fun e w' => e = .returned (.bool true) ∧ Later w w' := by
  have G := Lib.hid ex1
  have R := Lib.hid ex2
  have P := Lib.hid (fun (W : World) => put_any 300 W ⟨by omega, by omega⟩)
  have Q := Lib.hid (fun (W : World) => put_any (-1) W ⟨by omega, by omega⟩)
  rw [ex_put.1] at P
  rw [ex_put.2] at Q
  have S1 := Lib.hid ex3
  have S2 := Lib.hid ex4
  have S3 := Lib.hid ex5
  go_enter Try.func8, Try.ntmps8
  go_wp2_with fail
  refine (G.out _).mono ?_
  rintro e w1 ⟨rfl, hg1⟩
  have HG1 := Lib.hid (gtrans ((Later.refl w).put _) hg1)
  clear hg1
  go_wp2_with fail
  refine (R.out _).mono ?_
  rintro e w2 ⟨u, rfl, hu, hg2⟩
  have HU := Lib.hid hu
  have HG2 := Lib.hid (gtrans (HG1.out.put _) hg2)
  clear hu hg2
  go_wp2_with fail
  refine (P.out _).mono ?_
  rintro e w3 ⟨v, rfl, hv, hg3⟩
  have HV := Lib.hid hv
  have HU3 := Lib.hid (HU.out.later hg3)
  have HG3 := Lib.hid (gtrans HG2.out hg3)
  clear hv hg3
  go_wp2_with fail
  refine (S1.out _ _ HV.out).mono ?_
  rintro e w4 ⟨rfl, hg4⟩
  have HU4 := Lib.hid (HU3.out.later (gtrans ((Later.refl _).put _) hg4))
  have HG4 := Lib.hid (gtrans HG3.out (gtrans ((Later.refl _).put _) hg4))
  clear hg4
  go_wp2_with fail
  refine (Q.out _).mono ?_
  rintro e w5 ⟨v', rfl, hv, hg5⟩
  have HV5 := Lib.hid hv
  have HU5 := Lib.hid (HU4.out.later hg5)
  have HG5 := Lib.hid (gtrans HG4.out hg5)
  clear hv hg5
  go_wp2_with fail
  refine (S2.out _ _ HV5.out).mono ?_
  rintro e w6 ⟨rfl, hg6⟩
  have HU6 := Lib.hid (HU5.out.later (gtrans ((Later.refl _).put _) hg6))
  have HG6 := Lib.hid (gtrans HG5.out (gtrans ((Later.refl _).put _) hg6))
  clear hg6
  go_wp2_with fail
  refine (S3.out _ _ HU6.out).mono ?_
  rintro e w7 ⟨rfl, hg7⟩
  go_wp2_with fail
  go_ret
  exact ⟨rfl, gtrans HG6.out (gtrans ((Later.refl _).put _) hg7)⟩

theorem bsame_yes (xs : List Int) (u v : Value) (w : World) (hu : Sk .u8 w u xs) (hv : Sk .u8 w v xs) : Calls Try.prog 9 #[u, v] w fun e w' => e = .returned (.bool true) ∧ Later w w' := by
  have := bsame_any xs xs u v w hu hv
  rwa [decide_eq_true rfl] at this

theorem isame_yes (xs : List Int) (u v : Value) (w : World) (hu : Sk .i64 w u xs) (hv : Sk .i64 w v xs) : Calls Try.prog 15 #[u, v] w fun e w' => e = .returned (.bool true) ∧ Later w w' := by
  have := isame_any xs xs u v w hu hv
  rwa [decide_eq_true rfl] at this

theorem bsame_no (xs ys : List Int) (u v : Value) (w : World) (hn : xs ≠ ys) (hu : Sk .u8 w u xs) (hv : Sk .u8 w v ys) : Calls Try.prog 9 #[u, v] w fun e w' => e = .returned (.bool false) ∧ Later w w' := by
  have := bsame_any xs ys u v w hu hv
  rwa [decide_eq_false hn] at this

/-- A slice as a source of cells: none, or they lie one behind the other. -/
theorem Sk.src {k : IntKind} {W : World} {v : Value} {xs : List Int} (h : Sk k W v xs) :
    (v = .slice none 0 0 ∧ xs = []) ∨ ∃ a cap, v = .slice (some a) xs.length cap ∧ ∀ j u, (xs.map (Value.int k))[j]? = some u → W.cell? (a.add j) = some u := by
  obtain ⟨ad, cap, rfl, h1, h2, h3, h4⟩ := h
  cases ad with
  | none =>
    obtain rfl := h3 rfl
    obtain rfl := List.length_eq_zero_iff.1 (Nat.le_zero.1 h1)
    exact .inl ⟨rfl, rfl⟩
  | some a =>
    refine .inr ⟨a, cap, rfl, fun j u hu => ?_⟩
    rw [List.getElem?_map] at hu
    cases e : xs[j]? with
    | none => rw [e] at hu; simp at hu
    | some x =>
      obtain ⟨b, off, ea, c⟩ := h4 j x e
      simp only [Option.some.injEq] at ea
      rw [e] at hu
      rw [ea, Go.WideShapes.add_plain, c]
      exact hu

/-- A slice cut at both ends. -/
theorem cut_lh {bs : List Int} {v : Value} {w : World} (hs : Sk .u8 w v bs) (l h : Nat) (hl : l ≤ h) (hh : h ≤ bs.length) :
    ∃ ad cap u, v = .slice ad bs.length cap ∧ (∀ W : World, (Instr.slice 25 (.slice ad bs.length cap) (some (.int .i64 (l : Int))) (some (.int .i64 (h : Int))) none).run Try.prog W = .ok u W) ∧ Sk .u8 w u ((bs.drop l).take (h - l)) := by
  obtain ⟨ad, cap, rfl, h1, h2, h3, h4⟩ := hs
  refine ⟨ad, cap, sliced ad l h cap 1, rfl, fun W => ?_, ?_⟩
  · have := run_slice_lh (P := Try.prog) W 25 ad bs.length cap (by kernel_rfl) .i64 .i64 l h (by omega) (by omega) (by omega)
    rw [this]
    go_simp
  · unfold sliced
    refine ⟨if cap = l then ad else ad.map (·.add (l * 1)), cap - l, ?_, ?_, by omega, ?_, ?_⟩
    · rw [show ((bs.drop l).take (h - l)).length = h - l by rw [List.length_take, List.length_drop]; omega]
    · rw [List.length_take, List.length_drop]; omega
    · intro hn
      by_cases e : cap = l
      · omega
      · rw [if_neg e] at hn
        have := h3 (by cases ad with
          | none => rfl
          | some a => simp at hn)
        omega
    · intro i x hx
      have hi : i < h - l := by
        have := (List.getElem?_eq_some_iff.1 hx).1
        rw [List.length_take] at this
        omega
      rw [List.getElem?_take_of_lt hi, List.getElem?_drop] at hx
      obtain ⟨b, off, rfl, c⟩ := h4 (l + i) x hx
      refine ⟨b, off + l, ?_, ?_⟩
      · rw [if_neg (by omega)]
        simp [Addr.add]
      · rw [Nat.add_assoc]; exact c

/-- A slice cut at its end. -/
theorem cut_h {bs : List Int} {v : Value} {w : World} (hs : Sk .u8 w v bs) (h : Nat) (hh : h ≤ bs.length) :
    ∃ ad cap u, v = .slice ad bs.length cap ∧ (∀ W : World, (Instr.slice 25 (.slice ad bs.length cap) none (some (.int .i64 (h : Int))) none).run Try.prog W = .ok u W) ∧ Sk .u8 w u (bs.take h) := by
  obtain ⟨ad, cap, rfl, h1, h2, h3, h4⟩ := hs
  refine ⟨ad, cap, .slice ad h cap, rfl, fun W => ?_, ?_⟩
  · have := run_slice_h (P := Try.prog) W 25 ad bs.length cap (by kernel_rfl) .i64 h (by omega) (by omega)
    rw [this]
    go_simp
  · refine ⟨ad, cap, ?_, by rw [List.length_take]; omega, h2, h3, ?_⟩
    · rw [show (bs.take h).length = h by rw [List.length_take]; omega]
    · intro i x hx
      have hi : i < h := by
        have := (List.getElem?_eq_some_iff.1 hx).1
        rw [List.length_take] at this
        omega
      rw [List.getElem?_take_of_lt hi] at hx
      exact h4 i x hx
end Go.Proofs.Ytmpmkjoabplfoaa.Wire
