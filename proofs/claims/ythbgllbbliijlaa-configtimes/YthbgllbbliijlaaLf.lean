/-
  Configurations and windows as arguments: their cells. No condition but those that each theorem states.
-/
import Derived.Test.YthbgllbbliijlaaRows
import Derived.Test.YthbgllbbliijlaaDj
import Derived.ProofKit
import Derived.OpenShut
import Derived.ShutString
import Derived.ChangeOld
import Derived.Below
import Derived.Carry
import Derived.Lib.SmallJoins
namespace Go.Proofs.Ythbgllbbliijlaa.Conf
open Go.ChangeShapes Go.WideShapes Go.ChangeAt Go.RowKit
open Go.Proofs.Ythbgllbbliijlaa.Divs Go.Proofs.Ythbgllbbliijlaa.Grow Go.Proofs.Ythbgllbbliijlaa.Zone
open Go.Proofs.Ythbgllbbliijlaa.By (Sk SL sk_nil)
open Go.Proofs.Ythbgllbbliijlaa.Zo Go.Proofs.Ythbgllbbliijlaa.Su Go.Proofs.Ythbgllbbliijlaa.Cf

theorem own : ownKnob Try.prog.godebug = none := by kernel_rfl
theorem laidOut : laidOutB Try.prog = true := by kernel_rfl
theorem cellsI : Try.prog.cellsOf 3 = 1 := by kernel_rfl
theorem cellsB : Try.prog.cellsOf 4 = 1 := by kernel_rfl
theorem cellsC : Try.prog.cellsOf 33 = 37 := by kernel_rfl
theorem cellsW : Try.prog.cellsOf 35 = 7 := by kernel_rfl
theorem cellsT : Try.prog.cellsOf 24 = 7 := by kernel_rfl
theorem cellsZ : Try.prog.cellsOf 28 = 10 := by kernel_rfl
theorem cellsU : Try.prog.cellsOf 26 = 4 := by kernel_rfl
theorem cellsS : Try.prog.cellsOf 30 = 12 := by kernel_rfl
theorem cellsL : Try.prog.cellsOf 22 = 1 := by kernel_rfl
theorem cellsV : Try.prog.cellsOf 31 = 1 := by kernel_rfl

section
variable {H : Type} {enc : TypeId × Value → H} {w : World} {base : Nat} {spare : Nat → Bool} {held : Bool}

theorem part {t : TypeId} {fs : Array Field} {fuel : Nat} {cs : List Value} {x : DataW H × List MemPlace} (ht : Try.prog.underlying t = some (.struct fs)) (h : DataW.trod enc Try.prog w base spare held fuel t cs = some x) (i : Nat) (f : Field) (hf : fs[i]? = some f) :
    ∃ n y, DataW.trod enc Try.prog w base spare held n f.type ((cs.drop f.offset).take (Try.prog.cellsOf f.type)) = some y := by
  obtain ⟨xs, n, _, _, _, hl, hall⟩ := DataW.trod_struct ht h
  have hi : i < fs.size := (Array.getElem?_eq_some_iff.1 hf).1
  exact ⟨n, xs[i]'(by omega), by rw [hall i f hf]; exact List.getElem?_eq_getElem (by omega)⟩

theorem cell_int {n : Nat} {c : Value} {y : DataW H × List MemPlace} (h : DataW.trod enc Try.prog w base spare held n 3 [c] = some y) : ∃ a, c = .int .i64 a := by
  obtain ⟨a, e, _, _⟩ := DataW.trod_int Try.underlying3 h
  simp only [List.cons.injEq, and_true] at e
  exact ⟨a, e⟩

theorem cell_bool {n : Nat} {c : Value} {y : DataW H × List MemPlace} (h : DataW.trod enc Try.prog w base spare held n 4 [c] = some y) : ∃ a, c = .bool a := by
  obtain ⟨a, e, _⟩ := DataW.trod_bool Try.underlying4 h
  simp only [List.cons.injEq, and_true] at e
  exact ⟨a, e⟩

theorem open_turn {n : Nat} {c0 c1 c2 c3 : Value} {x : DataW H × List MemPlace} (h : DataW.trod enc Try.prog w base spare held n 26 [c0, c1, c2, c3] = some x) :
    ∃ a0 a1 a2 a3 : Int, c0 = .int .i64 a0 ∧ c1 = .int .i64 a1 ∧ c2 = .int .i64 a2 ∧ c3 = .int .i64 a3 := by
  obtain ⟨n0, y0, h0⟩ := part Try.underlying26 h 0 _ rfl
  obtain ⟨n1, y1, h1⟩ := part Try.underlying26 h 1 _ rfl
  obtain ⟨n2, y2, h2⟩ := part Try.underlying26 h 2 _ rfl
  obtain ⟨n3, y3, h3⟩ := part Try.underlying26 h 3 _ rfl
  simp [cellsI] at h0 h1 h2 h3
  obtain ⟨a0, e0⟩ := cell_int h0
  obtain ⟨a1, e1⟩ := cell_int h1
  obtain ⟨a2, e2⟩ := cell_int h2
  obtain ⟨a3, e3⟩ := cell_int h3
  exact ⟨a0, a1, a2, a3, e0, e1, e2, e3⟩

theorem open_times {n : Nat} {c0 c1 c2 c3 c4 c5 c6 : Value} {x : DataW H × List MemPlace} (h : DataW.trod enc Try.prog w base spare held n 24 [c0, c1, c2, c3, c4, c5, c6] = some x) :
    ∃ a0 a1 a2 a3 a4 a5 a6 : Int, c0 = .int .i64 a0 ∧ c1 = .int .i64 a1 ∧ c2 = .int .i64 a2 ∧ c3 = .int .i64 a3 ∧ c4 = .int .i64 a4 ∧ c5 = .int .i64 a5 ∧ c6 = .int .i64 a6 := by
  obtain ⟨n0, y0, h0⟩ := part Try.underlying24 h 0 _ rfl
  obtain ⟨n1, y1, h1⟩ := part Try.underlying24 h 1 _ rfl
  obtain ⟨n2, y2, h2⟩ := part Try.underlying24 h 2 _ rfl
  obtain ⟨n3, y3, h3⟩ := part Try.underlying24 h 3 _ rfl
  obtain ⟨n4, y4, h4⟩ := part Try.underlying24 h 4 _ rfl
  obtain ⟨n5, y5, h5⟩ := part Try.underlying24 h 5 _ rfl
  obtain ⟨n6, y6, h6⟩ := part Try.underlying24 h 6 _ rfl
  simp [cellsI] at h0 h1 h2 h3 h4 h5 h6
  obtain ⟨a0, e0⟩ := cell_int h0
  obtain ⟨a1, e1⟩ := cell_int h1
  obtain ⟨a2, e2⟩ := cell_int h2
  obtain ⟨a3, e3⟩ := cell_int h3
  obtain ⟨a4, e4⟩ := cell_int h4
  obtain ⟨a5, e5⟩ := cell_int h5
  obtain ⟨a6, e6⟩ := cell_int h6
  exact ⟨a0, a1, a2, a3, a4, a5, a6, e0, e1, e2, e3, e4, e5, e6⟩

theorem open_wn {n : Nat} {c0 c1 c2 c3 c4 c5 c6 : Value} {x : DataW H × List MemPlace} (h : DataW.trod enc Try.prog w base spare held n 35 [c0, c1, c2, c3, c4, c5, c6] = some x) :
    ∃ a0 a1 a2 a3 a4 a5 a6 : Int, c0 = .int .i64 a0 ∧ c1 = .int .i64 a1 ∧ c2 = .int .i64 a2 ∧ c3 = .int .i64 a3 ∧ c4 = .int .i64 a4 ∧ c5 = .int .i64 a5 ∧ c6 = .int .i64 a6 := by
  obtain ⟨n0, y0, h0⟩ := part Try.underlying35 h 0 _ rfl
  obtain ⟨n1, y1, h1⟩ := part Try.underlying35 h 1 _ rfl
  obtain ⟨n2, y2, h2⟩ := part Try.underlying35 h 2 _ rfl
  obtain ⟨n3, y3, h3⟩ := part Try.underlying35 h 3 _ rfl
  obtain ⟨n4, y4, h4⟩ := part Try.underlying35 h 4 _ rfl
  obtain ⟨n5, y5, h5⟩ := part Try.underlying35 h 5 _ rfl
  obtain ⟨n6, y6, h6⟩ := part Try.underlying35 h 6 _ rfl
  simp [cellsI] at h0 h1 h2 h3 h4 h5 h6
  obtain ⟨a0, e0⟩ := cell_int h0
  obtain ⟨a1, e1⟩ := cell_int h1
  obtain ⟨a2, e2⟩ := cell_int h2
  obtain ⟨a3, e3⟩ := cell_int h3
  obtain ⟨a4, e4⟩ := cell_int h4
  obtain ⟨a5, e5⟩ := cell_int h5
  obtain ⟨a6, e6⟩ := cell_int h6
  exact ⟨a0, a1, a2, a3, a4, a5, a6, e0, e1, e2, e3, e4, e5, e6⟩

theorem open_zone {n : Nat} {c0 c1 c2 c3 c4 c5 c6 c7 c8 c9 : Value} {x : DataW H × List MemPlace} (h : DataW.trod enc Try.prog w base spare held n 28 [c0, c1, c2, c3, c4, c5, c6, c7, c8, c9] = some x) :
    ∃ z : Zn, c0 = .int .i64 z.b ∧ c1 = .int .i64 z.s ∧ c2 = .int .i64 z.p.m ∧ c3 = .int .i64 z.p.k ∧ c4 = .int .i64 z.p.v ∧ c5 = .int .i64 z.p.u ∧ c6 = .int .i64 z.q.m ∧ c7 = .int .i64 z.q.k ∧ c8 = .int .i64 z.q.v ∧ c9 = .int .i64 z.q.u := by
  obtain ⟨n0, y0, h0⟩ := part Try.underlying28 h 0 _ rfl
  obtain ⟨n1, y1, h1⟩ := part Try.underlying28 h 1 _ rfl
  obtain ⟨n2, y2, h2⟩ := part Try.underlying28 h 2 _ rfl
  obtain ⟨n3, y3, h3⟩ := part Try.underlying28 h 3 _ rfl
  simp [cellsI] at h0 h1
  simp [cellsU] at h2 h3
  obtain ⟨b, e0⟩ := cell_int h0
  obtain ⟨s, e1⟩ := cell_int h1
  obtain ⟨a0, a1, a2, a3, e2, e3, e4, e5⟩ := open_turn h2
  obtain ⟨b0, b1, b2, b3, e6, e7, e8, e9⟩ := open_turn h3
  exact ⟨⟨b, s, ⟨a0, a1, a2, a3⟩, ⟨b0, b1, b2, b3⟩⟩, e0, e1, e2, e3, e4, e5, e6, e7, e8, e9⟩

theorem open_sn {n : Nat} {c0 c1 c2 c3 c4 c5 c6 c7 c8 c9 c10 c11 : Value} {x : DataW H × List MemPlace} (h : DataW.trod enc Try.prog w base spare held n 30 [c0, c1, c2, c3, c4, c5, c6, c7, c8, c9, c10, c11] = some x) :
    ∃ s : Nat → Int, c0 = .int .i64 (s 0) ∧ c1 = .int .i64 (s 1) ∧ c2 = .int .i64 (s 2) ∧ c3 = .int .i64 (s 3) ∧ c4 = .int .i64 (s 4) ∧ c5 = .int .i64 (s 5) ∧ c6 = .int .i64 (s 6) ∧ c7 = .int .i64 (s 7) ∧ c8 = .int .i64 (s 8) ∧ c9 = .int .i64 (s 9) ∧ c10 = .int .i64 (s 10) ∧ c11 = .int .i64 (s 11) := by
  obtain ⟨xs, m, _, _, _, hl, hall⟩ := DataW.trod_array Try.underlying30 h
  have go : ∀ i, i < 12 → ∃ y, DataW.trod enc Try.prog w base spare held m 3 (([c0, c1, c2, c3, c4, c5, c6, c7, c8, c9, c10, c11].drop (i * Try.prog.cellsOf 3)).take (Try.prog.cellsOf 3)) = some y := fun i hi => ⟨xs[i]'(by omega), by rw [hall i hi]; exact List.getElem?_eq_getElem (by omega)⟩
  obtain ⟨y0, h0⟩ := go 0 (by omega)
  obtain ⟨y1, h1⟩ := go 1 (by omega)
  obtain ⟨y2, h2⟩ := go 2 (by omega)
  obtain ⟨y3, h3⟩ := go 3 (by omega)
  obtain ⟨y4, h4⟩ := go 4 (by omega)
  obtain ⟨y5, h5⟩ := go 5 (by omega)
  obtain ⟨y6, h6⟩ := go 6 (by omega)
  obtain ⟨y7, h7⟩ := go 7 (by omega)
  obtain ⟨y8, h8⟩ := go 8 (by omega)
  obtain ⟨y9, h9⟩ := go 9 (by omega)
  obtain ⟨y10, h10⟩ := go 10 (by omega)
  obtain ⟨y11, h11⟩ := go 11 (by omega)
  simp [cellsI] at h0 h1 h2 h3 h4 h5 h6 h7 h8 h9 h10 h11
  obtain ⟨a0, e0⟩ := cell_int h0
  obtain ⟨a1, e1⟩ := cell_int h1
  obtain ⟨a2, e2⟩ := cell_int h2
  obtain ⟨a3, e3⟩ := cell_int h3
  obtain ⟨a4, e4⟩ := cell_int h4
  obtain ⟨a5, e5⟩ := cell_int h5
  obtain ⟨a6, e6⟩ := cell_int h6
  obtain ⟨a7, e7⟩ := cell_int h7
  obtain ⟨a8, e8⟩ := cell_int h8
  obtain ⟨a9, e9⟩ := cell_int h9
  obtain ⟨a10, e10⟩ := cell_int h10
  obtain ⟨a11, e11⟩ := cell_int h11
  exact ⟨fun i => [a0, a1, a2, a3, a4, a5, a6, a7, a8, a9, a10, a11].getD i 0, e0, e1, e2, e3, e4, e5, e6, e7, e8, e9, e10, e11⟩

/-- A slice of ints. -/
theorem open_st {n : Nat} {v : Value} {x : DataW H × List MemPlace} (h : DataW.trod enc Try.prog w base spare held n 22 [v] = some x) : ∃ xs : List Int, Sk .i64 w v xs := by
  rcases open_ints Try.underlying22 Try.underlying3 (by kernel_rfl) h with ⟨hcs, _⟩ | ⟨x, len, cap, zs, hcs, _, hl, hm, hz, _, hcell, hwz⟩
  · simp only [List.cons.injEq, and_true] at hcs
    subst hcs
    exact ⟨[], sk_nil _ _⟩
  · simp only [List.cons.injEq, and_true] at hcs
    subst hcs
    have h2 : zs.length = if spare x.block = true then cap else len := by simpa using hz
    have hz' : len ≤ zs.length := by rw [h2]; split <;> omega
    have he : (zs.take len).length = len := by rw [List.length_take]; omega
    refine ⟨zs.take len, some x, cap, by rw [he], by rw [he]; exact hl, by simpa [maxLen] using hm, by simp, fun i y hy => ?_⟩
    have hi : i < len := by
      have := (List.getElem?_eq_some_iff.1 hy).1
      omega
    obtain ⟨b, off, rfl, hc⟩ := ints_at hcell (by omega)
    refine ⟨b, off, rfl, ?_⟩
    rw [List.getElem?_take_of_lt hi] at hy
    have := hc i (by omega)
    rwa [List.getD_eq_getElem?_getD, hy] at this

theorem list7 {α : Type} (l : List α) (h : l.length = 7) : ∃ c0 c1 c2 c3 c4 c5 c6, l = [c0, c1, c2, c3, c4, c5, c6] := by
  match l, h with
  | [c0, c1, c2, c3, c4, c5, c6], _ => exact ⟨c0, c1, c2, c3, c4, c5, c6, rfl⟩

/-- The windows behind cells. -/
theorem wins_of (a : Addr) (len : Nat) (h : ∀ i, i < len → ∃ x : Wn, w.cells? base (a.add (i * 7)) 7 = some (wc x)) : ∃ xs : List Wn, xs.length = len ∧ ∀ i x, xs[i]? = some x → w.cells? base (a.add (i * 7)) 7 = some (wc x) := by
  induction len with
  | zero => exact ⟨[], rfl, by simp⟩
  | succ k ih =>
    obtain ⟨xs, hl, hx⟩ := ih (fun i hi => h i (by omega))
    obtain ⟨x, hk⟩ := h k (by omega)
    refine ⟨xs ++ [x], by simp [hl], fun i y hy => ?_⟩
    by_cases e : i < k
    · rw [List.getElem?_append_left (by omega)] at hy
      exact hx i y hy
    · rw [List.getElem?_append_right (by omega)] at hy
      have hi : i - xs.length = 0 := by
        have := (List.getElem?_eq_some_iff.1 hy).1
        simp at this
        omega
      rw [hi] at hy
      have ei : i = k := by omega
      simp only [List.getElem?_cons_zero, Option.some.injEq] at hy
      subst hy ei
      exact hk

theorem open_wins {n : Nat} {v : Value} {x : DataW H × List MemPlace} (h : DataW.trod enc Try.prog w base spare held n 31 [v] = some x) : ∃ xs : List Wn, Wk w v xs := by
  rcases DataW.trod_slice Try.underlying31 h with ⟨hcs, _⟩ | ⟨a, len, cap, elems, rest, m, _, hcs, _, hb, hl, hm, he, hall, _, _⟩
  · simp only [List.cons.injEq, and_true] at hcs
    subst hcs
    exact ⟨[], none, 0, rfl, by simp, by omega, by simp, by simp [fl]⟩
  · simp only [List.cons.injEq, and_true] at hcs
    subst hcs
    rw [cellsW] at hall
    obtain ⟨xs, hxl, hx⟩ := wins_of (w := w) (base := base) a len (fun i hi => by
      have h1 := hall i hi
      rw [List.getElem?_eq_getElem (by omega), Option.bind_eq_some_iff] at h1
      obtain ⟨cs, hc, ht⟩ := h1
      obtain ⟨c0, c1, c2, c3, c4, c5, c6, rfl⟩ := list7 cs (World.cells?_some hc).2.1
      obtain ⟨a0, a1, a2, a3, a4, a5, a6, rfl, rfl, rfl, rfl, rfl, rfl, rfl⟩ := open_wn ht
      exact ⟨⟨a0, a1, a2, a3, a4, a5, a6⟩, hc⟩)
    subst hxl
    refine ⟨xs, some a, cap, rfl, hl, by simpa [maxLen] using hm, by simp, fun i y hy => ?_⟩
    have hi : i < xs.length * 7 := by
      have := (List.getElem?_eq_some_iff.1 hy).1
      rwa [fl_len] at this
    have hq : i / 7 < xs.length := by omega
    have hr : i % 7 < 7 := by omega
    have hxi : xs[i / 7]? = some (xs[i / 7]) := List.getElem?_eq_getElem hq
    have e1 : i = i / 7 * 7 + i % 7 := by omega
    rw [e1, fl_get hxi hr] at hy
    have hc := (World.cells?_some (hx _ _ hxi)).2.2 (i % 7) hr
    rw [hy] at hc
    obtain ⟨b, off, spot⟩ := a
    have hspot : spot = none := by
      have h0 : xs[0]? = some (xs[0]'(by omega)) := List.getElem?_eq_getElem (by omega)
      have := (World.cells?_some (hx _ _ h0)).2.2 0 (by omega)
      exact World.cell?_spot (this.trans (show (wc _)[0]? = some _ from rfl))
    subst hspot
    refine ⟨b, off, rfl, ?_⟩
    rw [Go.WideShapes.add_plain, Go.WideShapes.add_plain] at hc
    rw [e1, ← Nat.add_assoc]
    exact hc

theorem open_win {r : Reach} {b0 : Nat} {v : Value} {d : DataW H} {p : List MemPlace} (hv : Value.okWide Try.prog w r b0 35 v) (h : DataW.Trod enc Try.prog w base spare held 35 v d p) :
    ∃ x : Wn, v = .agg (wc x).toArray := by
  obtain ⟨cs, rfl, hsz⟩ := okWide_struct Try.underlying35 hv
  obtain ⟨l⟩ := cs
  obtain ⟨c0, c1, c2, c3, c4, c5, c6, rfl⟩ := list7 l (hsz.trans cellsW)
  obtain ⟨fuel, hf⟩ := h
  obtain ⟨a0, a1, a2, a3, a4, a5, a6, rfl, rfl, rfl, rfl, rfl, rfl, rfl⟩ := open_wn hf
  exact ⟨⟨a0, a1, a2, a3, a4, a5, a6⟩, rfl⟩

theorem list37 {α : Type} (l : List α) (h : l.length = 37) : ∃ c0 c1 c2 c3 c4 c5 c6 c7 c8 c9 c10 c11 c12 c13 c14 c15 c16 c17 c18 c19 c20 c21 c22 c23 c24 c25 c26 c27 c28 c29 c30 c31 c32 c33 c34 c35 c36, l = [c0, c1, c2, c3, c4, c5, c6, c7, c8, c9, c10, c11, c12, c13, c14, c15, c16, c17, c18, c19, c20, c21, c22, c23, c24, c25, c26, c27, c28, c29, c30, c31, c32, c33, c34, c35, c36] := by
  match l, h with
  | c0 :: c1 :: c2 :: c3 :: c4 :: c5 :: c6 :: c7 :: c8 :: c9 :: c10 :: c11 :: c12 :: c13 :: c14 :: c15 :: c16 :: c17 :: c18 :: c19 :: c20 :: c21 :: c22 :: c23 :: c24 :: c25 :: c26 :: c27 :: c28 :: c29 :: c30 :: c31 :: c32 :: c33 :: c34 :: c35 :: c36 :: [], _ => exact ⟨c0, c1, c2, c3, c4, c5, c6, c7, c8, c9, c10, c11, c12, c13, c14, c15, c16, c17, c18, c19, c20, c21, c22, c23, c24, c25, c26, c27, c28, c29, c30, c31, c32, c33, c34, c35, c36, rfl⟩

theorem open_cfg {r : Reach} {b0 : Nat} {v : Value} {d : DataW H} {p : List MemPlace} (hv : Value.okWide Try.prog w r b0 33 v) (h : DataW.Trod enc Try.prog w base spare held 33 v d p) :
    ∃ (c : Cg) (x y : Value), v = .agg (cc c x y) ∧ Sk .i64 w x c.st ∧ Wk w y c.ws := by
  obtain ⟨cs, rfl, hsz⟩ := okWide_struct Try.underlying33 hv
  obtain ⟨l⟩ := cs
  obtain ⟨c0, c1, c2, c3, c4, c5, c6, c7, c8, c9, c10, c11, c12, c13, c14, c15, c16, c17, c18, c19, c20, c21, c22, c23, c24, c25, c26, c27, c28, c29, c30, c31, c32, c33, c34, c35, c36, rfl⟩ := list37 l (hsz.trans cellsC)
  obtain ⟨fuel, hf⟩ := h
  obtain ⟨n0, y0, h0⟩ := part Try.underlying33 hf 0 _ rfl
  obtain ⟨n1, y1, h1⟩ := part Try.underlying33 hf 1 _ rfl
  obtain ⟨n2, y2, h2⟩ := part Try.underlying33 hf 2 _ rfl
  obtain ⟨n3, y3, h3⟩ := part Try.underlying33 hf 3 _ rfl
  obtain ⟨n4, y4, h4⟩ := part Try.underlying33 hf 4 _ rfl
  obtain ⟨n5, y5, h5⟩ := part Try.underlying33 hf 5 _ rfl
  obtain ⟨n6, y6, h6⟩ := part Try.underlying33 hf 6 _ rfl
  obtain ⟨n7, y7, h7⟩ := part Try.underlying33 hf 7 _ rfl
  obtain ⟨n8, y8, h8⟩ := part Try.underlying33 hf 8 _ rfl
  obtain ⟨n9, y9, h9⟩ := part Try.underlying33 hf 9 _ rfl
  obtain ⟨n10, y10, h10⟩ := part Try.underlying33 hf 10 _ rfl
  simp [cellsI, Value.cells] at h0
  simp [cellsI, Value.cells] at h1
  simp [cellsI, Value.cells] at h2
  simp [cellsL, Value.cells] at h3
  simp [cellsT, Value.cells] at h4
  simp [cellsI, Value.cells] at h5
  simp [cellsI, Value.cells] at h6
  simp [cellsZ, Value.cells] at h7
  simp [cellsS, Value.cells] at h8
  simp [cellsB, Value.cells] at h9
  simp [cellsV, Value.cells] at h10
  obtain ⟨a0, rfl⟩ := cell_int h0
  obtain ⟨a1, rfl⟩ := cell_int h1
  obtain ⟨a2, rfl⟩ := cell_int h2
  obtain ⟨st, hs⟩ := open_st h3
  obtain ⟨t0, t1, t2, t3, t4, t5, t6, rfl, rfl, rfl, rfl, rfl, rfl, rfl⟩ := open_times h4
  obtain ⟨a5, rfl⟩ := cell_int h5
  obtain ⟨a6, rfl⟩ := cell_int h6
  obtain ⟨z, rfl, rfl, rfl, rfl, rfl, rfl, rfl, rfl, rfl, rfl⟩ := open_zone h7
  obtain ⟨s, rfl, rfl, rfl, rfl, rfl, rfl, rfl, rfl, rfl, rfl, rfl, rfl⟩ := open_sn h8
  obtain ⟨ab, rfl⟩ := cell_bool h9
  obtain ⟨ws, hw⟩ := open_wins h10
  exact ⟨⟨a0, a1, a2, st, t0, t1, t2, t3, t4, t5, t6, a5, a6, z, s, ab, ws⟩, _, _, rfl, hs, hw⟩

end

end Go.Proofs.Ythbgllbbliijlaa.Conf
