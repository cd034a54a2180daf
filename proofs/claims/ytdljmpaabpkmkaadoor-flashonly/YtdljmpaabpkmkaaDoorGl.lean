/-
  Records, flashes, rows of records and rows of numbers as arguments: their cells. No condition but those that each theorem states.
-/
import Derived.Test.YtdljmpaabpkmkaaDoorLift
import Derived.Test.YtdljmpaabpkmkaaDoorGb
import Derived.Carry
namespace Go.Proofs.YtdljmpaabpkmkaaDoor.Fls
set_option maxRecDepth 100000
open Go.ChangeShapes Go.WideShapes Go.ChangeAt Go.RowKit
open Go.Proofs.YtdljmpaabpkmkaaDoor.Divs Go.Proofs.YtdljmpaabpkmkaaDoor.Grow Go.Proofs.YtdljmpaabpkmkaaDoor.By Go.Proofs.YtdljmpaabpkmkaaDoor.Wi Go.Proofs.YtdljmpaabpkmkaaDoor.Fa

theorem cellsI : Tryd.prog.cellsOf 3 = 1 := by kernel_rfl
theorem cellsL : Tryd.prog.cellsOf 22 = 1 := by kernel_rfl
theorem cellsR : Tryd.prog.cellsOf 26 = 4 := by kernel_rfl
theorem cellsF : Tryd.prog.cellsOf 24 = 2 := by kernel_rfl

section
variable {H : Type} {enc : TypeId × Value → H} {w : World} {base : Nat} {spare : Nat → Bool} {held : Bool}

theorem part {t : TypeId} {fs : Array Field} {fuel : Nat} {cs : List Value} {x : DataW H × List MemPlace} (ht : Tryd.prog.underlying t = some (.struct fs)) (h : DataW.trod enc Tryd.prog w base spare held fuel t cs = some x) (i : Nat) (f : Field) (hf : fs[i]? = some f) :
    ∃ n y, DataW.trod enc Tryd.prog w base spare held n f.type ((cs.drop f.offset).take (Tryd.prog.cellsOf f.type)) = some y := by
  obtain ⟨xs, n, _, _, _, hl, hall⟩ := DataW.trod_struct ht h
  have hi : i < fs.size := (Array.getElem?_eq_some_iff.1 hf).1
  exact ⟨n, xs[i]'(by omega), by rw [hall i f hf]; exact List.getElem?_eq_getElem (by omega)⟩

theorem cell_int {n : Nat} {c : Value} {y : DataW H × List MemPlace} (h : DataW.trod enc Tryd.prog w base spare held n 3 [c] = some y) : ∃ a, c = .int .i64 a ∧ In a := by
  obtain ⟨a, e, _, hw⟩ := DataW.trod_int Tryd.underlying3 h
  simp only [List.cons.injEq, and_true] at e
  exact ⟨a, e, bounds_i64 hw⟩

theorem open_is {n : Nat} {v : Value} {x : DataW H × List MemPlace} (k : IntKind) (t e : TypeId) (ht : Tryd.prog.underlying t = some (.slice e)) (he : Tryd.prog.underlying e = some (.int k)) (hc1 : Tryd.prog.cellsOf e = 1) (h : DataW.trod enc Tryd.prog w base spare held n t [v] = some x) : ∃ xs : List Int, Sk k w v xs ∧ ∀ y ∈ xs, (Lit.int k y).wf = true := by
  rcases open_ints ht he hc1 h with ⟨hcs, _⟩ | ⟨x, len, cap, zs, hcs, _, hl, hm, hz, _, hcell, hwz⟩
  · simp only [List.cons.injEq, and_true] at hcs
    subst hcs
    exact ⟨[], sk_nil _ _, by simp⟩
  · simp only [List.cons.injEq, and_true] at hcs
    subst hcs
    have h2 : zs.length = if spare x.block = true then cap else len := by simpa using hz
    have hz' : len ≤ zs.length := by rw [h2]; split <;> omega
    have he : (zs.take len).length = len := by rw [List.length_take]; omega
    refine ⟨zs.take len, ⟨some x, cap, by rw [he], by rw [he]; exact hl, by simpa [maxLen] using hm, by simp, fun i y hy => ?_⟩, fun y hy => hwz y (List.mem_of_mem_take hy)⟩
    have hi : i < len := by
      have := (List.getElem?_eq_some_iff.1 hy).1
      omega
    obtain ⟨b, off, rfl, hc⟩ := ints_at hcell (by omega)
    refine ⟨b, off, rfl, ?_⟩
    rw [List.getElem?_take_of_lt hi] at hy
    have := hc i (by omega)
    rwa [List.getD_eq_getElem?_getD, hy] at this

theorem open_bs {n : Nat} {v : Value} {x : DataW H × List MemPlace} (h : DataW.trod enc Tryd.prog w base spare held n 22 [v] = some x) : ∃ xs : List Int, Sk .u8 w v xs ∧ By xs := by
  obtain ⟨xs, h1, h2⟩ := open_is .u8 22 5 Tryd.underlying22 Tryd.underlying5 (by kernel_rfl) h
  exact ⟨xs, h1, fun y hy => bounds_u8 (h2 y hy)⟩

theorem open_rc {n : Nat} {c0 c1 c2 c3 : Value} {x : DataW H × List MemPlace} (h : DataW.trod enc Tryd.prog w base spare held n 26 [c0, c1, c2, c3] = some x) :
    ∃ r : Rc, c0 = .int .i64 r.g ∧ c1 = .int .i64 r.c ∧ c2 = .int .i64 r.m ∧ Sk .u8 w c3 r.b ∧ Fit r := by
  obtain ⟨n0, y0, h0⟩ := part Tryd.underlying26 h 0 _ rfl
  obtain ⟨n1, y1, h1⟩ := part Tryd.underlying26 h 1 _ rfl
  obtain ⟨n2, y2, h2⟩ := part Tryd.underlying26 h 2 _ rfl
  obtain ⟨n3, y3, h3⟩ := part Tryd.underlying26 h 3 _ rfl
  simp [cellsI] at h0 h1 h2
  simp [cellsL] at h3
  obtain ⟨a0, e0, _⟩ := cell_int h0
  obtain ⟨a1, e1, i1⟩ := cell_int h1
  obtain ⟨a2, e2, _⟩ := cell_int h2
  obtain ⟨xs, hs, hb⟩ := open_bs h3
  exact ⟨⟨a0, a1, a2, xs⟩, e0, e1, e2, hs, i1, hb⟩

theorem list4 {α : Type} (l : List α) (h : l.length = 4) : ∃ c0 c1 c2 c3, l = [c0, c1, c2, c3] := by
  match l, h with
  | [c0, c1, c2, c3], _ => exact ⟨c0, c1, c2, c3, rfl⟩

theorem list2 {α : Type} (l : List α) (h : l.length = 2) : ∃ c0 c1, l = [c0, c1] := by
  match l, h with
  | [c0, c1], _ => exact ⟨c0, c1, rfl⟩

theorem open_rec {r : Reach} {b0 : Nat} {v : Value} {d : DataW H} {p : List MemPlace} (hv : Value.okWide Tryd.prog w r b0 26 v) (h : DataW.Trod enc Tryd.prog w base spare held 26 v d p) :
    ∃ r : Rc, Rk w v r ∧ Fit r := by
  obtain ⟨cs, rfl, hsz⟩ := okWide_struct Tryd.underlying26 hv
  obtain ⟨l⟩ := cs
  obtain ⟨c0, c1, c2, c3, rfl⟩ := list4 l (hsz.trans cellsR)
  obtain ⟨fuel, hf⟩ := h
  obtain ⟨r, rfl, rfl, rfl, hs, hfit⟩ := open_rc hf
  exact ⟨r, ⟨_, rfl, hs⟩, hfit⟩

theorem open_fl {r : Reach} {b0 : Nat} {v : Value} {d : DataW H} {p : List MemPlace} (hv : Value.okWide Tryd.prog w r b0 24 v) (h : DataW.Trod enc Tryd.prog w base spare held 24 v d p) :
    ∃ a b : List Int, Fv w v a b ∧ By a ∧ By b := by
  obtain ⟨cs, rfl, hsz⟩ := okWide_struct Tryd.underlying24 hv
  obtain ⟨l⟩ := cs
  obtain ⟨c0, c1, rfl⟩ := list2 l (hsz.trans cellsF)
  obtain ⟨fuel, hf⟩ := h
  obtain ⟨n0, y0, h0⟩ := part Tryd.underlying24 hf 0 _ rfl
  obtain ⟨n1, y1, h1⟩ := part Tryd.underlying24 hf 1 _ rfl
  simp [cellsL, Value.cells] at h0 h1
  obtain ⟨a, ha, ba⟩ := open_bs h0
  obtain ⟨b, hb, bb⟩ := open_bs h1
  exact ⟨a, b, ⟨_, _, rfl, ha, hb⟩, ba, bb⟩

/-- v is a slice of these records. -/
def Rs (W : World) (v : Value) (rs : List Rc) : Prop := ∃ (ad : Option Addr) (cap : Nat), v = .slice ad rs.length cap ∧ rs.length ≤ cap ∧ cap ≤ 9223372036854775807 ∧
  ∀ (i : Nat) (r : Rc), rs[i]? = some r → ∃ b off u, ad = some ⟨b, off, none⟩ ∧ W.cell? ⟨b, off + i * 4, none⟩ = some (.int .i64 r.g) ∧ W.cell? ⟨b, off + i * 4 + 1, none⟩ = some (.int .i64 r.c) ∧ W.cell? ⟨b, off + i * 4 + 2, none⟩ = some (.int .i64 r.m) ∧ W.cell? ⟨b, off + i * 4 + 3, none⟩ = some u ∧ Sk .u8 W u r.b

/-- The records behind cells. -/
theorem recs_of (a : Addr) (len : Nat) (h : ∀ i, i < len → ∃ (r : Rc) (u : Value), w.cells? base (a.add (i * 4)) 4 = some [.int .i64 r.g, .int .i64 r.c, .int .i64 r.m, u] ∧ Sk .u8 w u r.b ∧ Fit r) :
    ∃ rs : List Rc, rs.length = len ∧ (∀ r ∈ rs, Fit r) ∧ ∀ i r, rs[i]? = some r → ∃ u, w.cells? base (a.add (i * 4)) 4 = some [.int .i64 r.g, .int .i64 r.c, .int .i64 r.m, u] ∧ Sk .u8 w u r.b := by
  induction len with
  | zero => exact ⟨[], rfl, by simp, by simp⟩
  | succ k ih =>
    obtain ⟨rs, hl, hf, hx⟩ := ih (fun i hi => h i (by omega))
    obtain ⟨r, u, hk, hs, hft⟩ := h k (by omega)
    refine ⟨rs ++ [r], by simp [hl], ?_, fun i y hy => ?_⟩
    · intro q hq
      rcases List.mem_append.1 hq with g | g
      · exact hf q g
      · simp only [List.mem_singleton] at g
        subst g
        exact hft
    · by_cases e : i < k
      · rw [List.getElem?_append_left (by omega)] at hy
        exact hx i y hy
      · rw [List.getElem?_append_right (by omega)] at hy
        have hi : i - rs.length = 0 := by
          have := (List.getElem?_eq_some_iff.1 hy).1
          simp at this
          omega
        rw [hi] at hy
        have ei : i = k := by omega
        simp only [List.getElem?_cons_zero, Option.some.injEq] at hy
        subst hy ei
        exact ⟨u, hk, hs⟩

theorem open_recs {r : Reach} {b0 : Nat} {v : Value} {d : DataW H} {p : List MemPlace} (hv : Value.okWide Tryd.prog w r b0 51 v) (h : DataW.Trod enc Tryd.prog w base spare held 51 v d p) : ∃ rs : List Rc, Rs w v rs ∧ ∀ r ∈ rs, Fit r := by
  obtain ⟨ad, l0, c0, rfl⟩ := okWide_slice Tryd.underlying51 hv
  obtain ⟨fuel, hf⟩ := h
  rcases DataW.trod_slice Tryd.underlying51 hf with ⟨hcs, _⟩ | ⟨a, len, cap, elems, rest, m, _, hcs, _, hb, hl, hm, he, hall, _, _⟩
  · simp [Value.cells] at hcs
    obtain ⟨rfl, rfl, rfl⟩ := hcs
    exact ⟨[], ⟨none, 0, rfl, by simp, by omega, by simp⟩, by simp⟩
  · simp [Value.cells] at hcs
    obtain ⟨rfl, rfl, rfl⟩ := hcs
    rw [cellsR] at hall
    obtain ⟨rs, hxl, hfit, hx⟩ := recs_of (w := w) (base := base) a l0 (fun i hi => by
      have h1 := hall i hi
      rw [List.getElem?_eq_getElem (by omega), Option.bind_eq_some_iff] at h1
      obtain ⟨cs, hc, ht⟩ := h1
      obtain ⟨c0, c1, c2, c3, rfl⟩ := list4 cs (World.cells?_some hc).2.1
      obtain ⟨r, rfl, rfl, rfl, hs, hfit⟩ := open_rc ht
      exact ⟨r, c3, hc, hs, hfit⟩)
    subst hxl
    refine ⟨rs, ⟨some a, _, rfl, hl, by simpa [maxLen] using hm, fun i r hr => ?_⟩, hfit⟩
    obtain ⟨u, hc, hs⟩ := hx i r hr
    have k0 := (World.cells?_some hc).2.2 0 (by omega)
    have k1 := (World.cells?_some hc).2.2 1 (by omega)
    have k2 := (World.cells?_some hc).2.2 2 (by omega)
    have k3 := (World.cells?_some hc).2.2 3 (by omega)
    obtain ⟨b, off, spot⟩ := a
    have hspot : spot = none := by
      have hi := (List.getElem?_eq_some_iff.1 hr).1
      have h0 : rs[0]? = some (rs[0]'(by omega)) := List.getElem?_eq_getElem (by omega)
      obtain ⟨u0, hc0, _⟩ := hx 0 _ h0
      have := (World.cells?_some hc0).2.2 0 (by omega)
      exact World.cell?_spot (this.trans (show ([_, _, _, _] : List Value)[0]? = some _ from rfl))
    subst hspot
    rw [Go.WideShapes.add_plain, Go.WideShapes.add_plain] at k0 k1 k2 k3
    exact ⟨b, off, u, rfl, k0, k1, k2, k3, hs⟩

theorem open_nums {r : Reach} {b0 : Nat} {v : Value} {d : DataW H} {p : List MemPlace} (hv : Value.okWide Tryd.prog w r b0 52 v) (h : DataW.Trod enc Tryd.prog w base spare held 52 v d p) : ∃ xs : List Int, Sk .i64 w v xs ∧ ∀ x ∈ xs, In x := by
  obtain ⟨ad, l0, c0, rfl⟩ := okWide_slice Tryd.underlying52 hv
  obtain ⟨fuel, hf⟩ := h
  simp [Value.cells] at hf
  obtain ⟨xs, h1, h2⟩ := open_is .i64 52 3 Tryd.underlying52 Tryd.underlying3 (by kernel_rfl) hf
  exact ⟨xs, h1, fun y hy => bounds_i64 (h2 y hy)⟩

theorem Rs.later {W W' : World} {v : Value} {rs : List Rc} (h : Rs W v rs) (g : Later W W') : Rs W' v rs := by
  obtain ⟨ad, cap, rfl, h1, h2, h3⟩ := h
  refine ⟨ad, cap, rfl, h1, h2, fun i r hr => ?_⟩
  obtain ⟨b, off, u, e, k0, k1, k2, k3, hs⟩ := h3 i r hr
  exact ⟨b, off, u, e, gsome g k0, gsome g k1, gsome g k2, gsome g k3, hs.later g⟩

end

end Go.Proofs.YtdljmpaabpkmkaaDoor.Fls
