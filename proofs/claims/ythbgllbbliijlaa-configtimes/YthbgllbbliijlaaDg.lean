/-
  A configuration that is small, and rows of stops and of windows that are appended. Conditions: as each theorem states.
-/
import Derived.Test.YthbgllbbliijlaaDf
namespace Go.Proofs.Ythbgllbbliijlaa.Conf
open Go.ChangeShapes Go.WideShapes Go.ChangeAt Go.RowKit
open Go.Proofs.Ythbgllbbliijlaa.Divs Go.Proofs.Ythbgllbbliijlaa.Grow Go.Proofs.Ythbgllbbliijlaa.Zone
open Go.Proofs.Ythbgllbbliijlaa.By (Sk SL bool_no bool_yes)
open Go.Proofs.Ythbgllbbliijlaa.Each
open Go.Proofs.Ythbgllbbliijlaa.Zo Go.Proofs.Ythbgllbbliijlaa.Su Go.Proofs.Ythbgllbbliijlaa.Cf

/-- Has one few stops and windows? -/
def fw (c : Cg) : Bool := decide (c.st.length ≤ 80 ∧ c.ws.length ≤ 20)

theorem fw_iff (c : Cg) : fw c = true ↔ c.st.length ≤ 80 ∧ c.ws.length ≤ 20 := by simp [fw]

set_option maxHeartbeats 1000000 in
theorem few_any (c : Cg) (u v : Value) (w : World) (hu : Sk .i64 w u c.st) (hv : Wk w v c.ws) : Calls Try.prog 9 #[.agg (cc c u v)] w fun e w' => e = .returned (.bool (fw c)) ∧ Later w w' := by
  have HR := Lib.hid (fw_iff c)
  generalize fw c = R at *
  have HG := Lib.hid ((Later.refl w).alloc (cc c u v) 33)
  obtain ⟨d1, p1, rfl, m1, _⟩ := sk_form hu
  obtain ⟨d2, p2, rfl, m2, _⟩ := wk_form hv
  clear hu hv
  unfold cc at *
  generalize c.st.length = m at *
  generalize c.ws.length = n at *
  by_cases h1 : m ≤ 80
  · have t1 : decide ((m : Int) ≤ 80) = true := by simp; omega
    by_cases h2 : n ≤ 20
    · have t2 : decide ((n : Int) ≤ 20) = true := by simp; omega
      have HV : Hid (R = true) := Lib.hid (HR.out.2 ⟨h1, h2⟩)
      clear h1 h2 HR
      go_enter Try.func9, Try.ntmps9
      go_wp2_with fail
      go_ret
      exact ⟨retb HV.out.symm, HG.out⟩
    · have t2 : decide ((n : Int) ≤ 20) = false := by simp; omega
      have HV : Hid (R = false) := Lib.hid (by
        cases e : R with
        | false => rfl
        | true => exact absurd (HR.out.1 e).2 h2)
      clear h1 h2 HR
      go_enter Try.func9, Try.ntmps9
      go_wp2_with fail
      go_ret
      exact ⟨retb HV.out.symm, HG.out⟩
  · have t1 : decide ((m : Int) ≤ 80) = false := by simp; omega
    have HV : Hid (R = false) := Lib.hid (by
      cases e : R with
      | false => rfl
      | true => exact absurd (HR.out.1 e).1 h1)
    clear h1 HR
    go_enter Try.func9, Try.ntmps9
    go_wp2_with fail
    go_ret
    exact ⟨retb HV.out.symm, HG.out⟩

/-- A slice that owns these windows. -/
def WL (W : World) (b : Nat) (v : Value) (xs : List Wn) : Prop := W.ownsRow b 35 7 v xs.length (fl xs)

theorem WL.later {W W' : World} {b : Nat} {v : Value} {xs : List Wn} (h : WL W b v xs) (g : Later W W') : WL W' b v xs :=
  World.ownsRow.kept h g.grownBy (by cases v.ownBlock <;> simp)

theorem win_grown {w a b : World} {v : Value} {xs : List Wn} (g : Later w a) (f : WL a w.heap.size v xs) (h : a.grownBy b v.ownBlock) : Later w b :=
  Later.of_below (g.below.grown h g.size (fun j e => (World.ownsRow.lt f j e).1))

theorem WL.wk {W : World} {b : Nat} {v : Value} {xs : List Wn} (h : WL W b v xs) : Wk W v xs := by
  rcases h.2 with ⟨hv, h0⟩ | ⟨g, cap, cur, rfl, _, _, h1, h2, _⟩
  · obtain rfl : xs = [] := List.length_eq_zero_iff.1 h0
    exact ⟨none, 0, hv, by simp, by omega, by simp, by simp [fl]⟩
  · refine ⟨_, cap, rfl, h1, by simpa [maxLen] using h2, by simp, fun i x hx => ⟨g, 0, rfl, ?_⟩⟩
    have c := World.ownsRow.cells h (g := g) rfl i x hx
    rw [By.add_zero] at c
    rw [Nat.zero_add]
    exact c

theorem WL.made (W0 w : World) (h : Later W0 w) : WL (w.alloc (.cells #[] 35)) W0.heap.size (.slice (some ⟨w.heap.size, 0, none⟩) 0 0) [] := by
  refine ⟨rfl, .inr ⟨w.heap.size, 0, #[], rfl, h.size, heap_alloc_new _ _, by simp, by simp, by simp, by simp [fl]⟩⟩

theorem ints_made (W0 w : World) (h : Later W0 w) : SL .i64 3 (w.alloc (.cells #[] 3)) W0.heap.size (.slice (some ⟨w.heap.size, 0, none⟩) 0 0) [] := by
  refine ⟨rfl, .inr ⟨w.heap.size, 0, #[], rfl, h.size, heap_alloc_new _ _, by simp, by simp, by simp, by simp⟩⟩

theorem append_ints {w : World} {ops : Array Oper} {rest : List Oper} {o : Oper} {a : Act} {Q : Exit → Act → World → Prop} (hgd : o.guard = none) (s x : Operand)
    (ho : o.op = .call { callee := .builtin .append, args := #[s, x], argTypes := #[22, 22] })
    (W0 : World) (hl : Later W0 w) (v : Value) (xs : List Int) (hs : a.eval s = v) (hown : SL .i64 3 w W0.heap.size v xs)
    (u : Value) (ys : List Int) (hx : a.eval x = u) (hy : Sk .i64 w u ys) (hb : xs.length + ys.length ≤ 100000)
    (h : ∀ v' w', SL .i64 3 w' W0.heap.size v' (xs ++ ys) → Later W0 w' → wpList Try.prog ops Q rest (a.put o.dst v') w') : wpList Try.prog ops Q (o :: rest) a w := by
  obtain ⟨i0, hi, hz0, hz1, hz2⟩ := info_parts By.info_int
  rcases hy.src with ⟨rfl, rfl⟩ | ⟨ad, cap, rfl, hc⟩
  · refine wpList_append_own_none hgd s x 22 ho W0.heap.size 3 i0 1 Try.underlying22 hi v _ _ hs hown hx ?_
    exact h v w (by rw [List.append_nil]; exact hown) hl
  · refine wpList_append_own w hgd s x 22 ho W0.heap.size 3 i0 (.int .i64 0) 1 8 Try.underlying22 hi hz0 hz1 hz2 rfl (by decide) v _ _ hs hown ad ys.length cap (ys.map (Value.int .i64)) hx (by simp) hc (by intro u hu; obtain ⟨y, _, rfl⟩ := List.mem_map.1 hu; rfl) (by simp only [maxLen]; omega) (by omega) hl.size ?_
    intro v' w' h1 h2 _
    refine h v' w' ?_ (By.later_grown hl hown h2)
    unfold By.SL
    rw [List.length_append, List.map_append]
    exact h1

theorem info_win : (Try.prog.info? 35).map (fun i => (i.zero, i.size, i.bytes)) = some (some (.agg #[.int .i64 0, .int .i64 0, .int .i64 0, .int .i64 0, .int .i64 0, .int .i64 0, .int .i64 0]), 7, 56) := by kernel_rfl

theorem Wk.src {W : World} {v : Value} {xs : List Wn} (h : Wk W v xs) :
    (v = .slice none 0 0 ∧ xs = []) ∨ ∃ a cap, v = .slice (some a) xs.length cap ∧ ∀ j u, (fl xs)[j]? = some u → W.cell? (a.add j) = some u := by
  obtain ⟨ad, cap, rfl, h1, h2, h3, h4⟩ := h
  cases ad with
  | none =>
    obtain rfl := h3 rfl
    obtain rfl := List.length_eq_zero_iff.1 (Nat.le_zero.1 h1)
    exact .inl ⟨rfl, rfl⟩
  | some a =>
    refine .inr ⟨a, cap, rfl, fun j u hu => ?_⟩
    obtain ⟨b, off, e, c⟩ := h4 j u hu
    obtain rfl := Option.some.inj e
    rw [Addr.add_mid]
    exact c

theorem fl_cell (xs : List Wn) : ∀ u ∈ fl xs, u.oneCell' = true := by
  intro u hu
  obtain ⟨x, _, hx⟩ := List.mem_flatMap.1 hu
  simp only [wc, List.mem_cons, List.not_mem_nil, or_false] at hx
  rcases hx with rfl | rfl | rfl | rfl | rfl | rfl | rfl <;> rfl

theorem append_wins {w : World} {ops : Array Oper} {rest : List Oper} {o : Oper} {a : Act} {Q : Exit → Act → World → Prop} (hgd : o.guard = none) (s x : Operand)
    (ho : o.op = .call { callee := .builtin .append, args := #[s, x], argTypes := #[31, 31] })
    (W0 : World) (hl : Later W0 w) (v : Value) (xs : List Wn) (hs : a.eval s = v) (hown : WL w W0.heap.size v xs)
    (u : Value) (ys : List Wn) (hx : a.eval x = u) (hy : Wk w u ys) (hb : xs.length + ys.length ≤ 100000)
    (h : ∀ v' w', WL w' W0.heap.size v' (xs ++ ys) → Later W0 w' → wpList Try.prog ops Q rest (a.put o.dst v') w') : wpList Try.prog ops Q (o :: rest) a w := by
  obtain ⟨i0, hi, hz0, hz1, hz2⟩ := info_parts info_win
  rcases hy.src with ⟨rfl, rfl⟩ | ⟨ad, cap, rfl, hc⟩
  · refine wpList_append_own_none hgd s x 31 ho W0.heap.size 35 i0 7 Try.underlying31 hi v _ _ hs hown hx ?_
    exact h v w (by rw [List.append_nil]; exact hown) hl
  · refine wpList_append_own w hgd s x 31 ho W0.heap.size 35 i0 _ 7 56 Try.underlying31 hi hz0 hz1 hz2 rfl (by decide) v _ _ hs hown ad ys.length cap (fl ys) hx (fl_len ys) hc (fl_cell ys) (by simp only [maxLen]; omega) (by omega) hl.size ?_
    intro v' w' h1 h2 _
    refine h v' w' ?_ (win_grown hl hown h2)
    unfold WL
    rw [List.length_append, fl_app]
    exact h1

end Go.Proofs.Ythbgllbbliijlaa.Conf
