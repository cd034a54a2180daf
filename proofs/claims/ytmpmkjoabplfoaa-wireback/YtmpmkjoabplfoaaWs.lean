/-
  Slices of numbers and of bytes, wherever they lie; and what Put answers, by the program. Condition: the number is an int.
-/
import Derived.Test.YtmpmkjoabplfoaaWd
import Derived.Laws.CopyOwn
import Derived.Laws.AppendOwnNone
import Derived.Laws.OwnMore
namespace Go.Proofs.Ytmpmkjoabplfoaa.Wire
open Go.ChangeShapes Go.WideShapes Go.ChangeAt Go.RowKit
open Go.Proofs.Ytmpmkjoabplfoaa.Divs Go.Proofs.Ytmpmkjoabplfoaa.Grow Go.Proofs.Ytmpmkjoabplfoaa.Wi

theorem info_byte : (Try.prog.info? 5).map (fun i => (i.zero, i.size, i.bytes)) = some (some (.int .u8 0), 1, 1) := by kernel_rfl

theorem info_int : (Try.prog.info? 3).map (fun i => (i.zero, i.size, i.bytes)) = some (some (.int .i64 0), 1, 8) := by kernel_rfl

/-- v is a slice of these numbers. -/
def Sk (k : IntKind) (W : World) (v : Value) (xs : List Int) : Prop :=
  ∃ (ad : Option Addr) (cap : Nat), v = .slice ad xs.length cap ∧ xs.length ≤ cap ∧ cap ≤ 9223372036854775807 ∧ (ad = none → cap = 0) ∧
    ∀ (i : Nat) (x : Int), xs[i]? = some x → ∃ b off, ad = some ⟨b, off, none⟩ ∧ W.cell? ⟨b, off + i, none⟩ = some (.int k x)

theorem Sk.later {k : IntKind} {W W' : World} {v : Value} {xs : List Int} (h : Sk k W v xs) (g : Later W W') : Sk k W' v xs := by
  obtain ⟨ad, cap, rfl, h1, h2, h3, h4⟩ := h
  refine ⟨ad, cap, rfl, h1, h2, h3, fun i x hx => ?_⟩
  obtain ⟨b, off, e, c⟩ := h4 i x hx
  exact ⟨b, off, e, gsome g c⟩

/-- The cells of a slice that has some. -/
theorem Sk.has {k : IntKind} {W : World} {v : Value} {xs : List Int} (h : Sk k W v xs) (hp : 0 < xs.length) :
    ∃ b off cap, v = .slice (some ⟨b, off, none⟩) xs.length cap ∧ xs.length ≤ cap ∧ cap ≤ 9223372036854775807 ∧ b < W.heap.size ∧ ∀ i, i < xs.length → W.cell? ⟨b, off + i, none⟩ = some (.int k (xs.getD i 0)) := by
  obtain ⟨ad, cap, rfl, h1, h2, h3, h4⟩ := h
  obtain ⟨b, off, rfl, c0⟩ := h4 0 (xs.getD 0 0) (by simp [hp])
  refine ⟨b, off, cap, rfl, h1, h2, World.block_lt_of_cell? _ _ c0, fun i hi => ?_⟩
  obtain ⟨b', off', e, c⟩ := h4 i (xs.getD i 0) (by simp [hi])
  simp at e
  obtain ⟨rfl, rfl⟩ := e
  exact c

theorem Sk.bare {k : IntKind} {W : World} {v : Value} (h : Sk k W v []) : ∃ ad cap, v = .slice ad 0 cap ∧ cap ≤ 9223372036854775807 ∧ (ad = none → cap = 0) := by
  obtain ⟨ad, cap, rfl, _, h2, h3, _⟩ := h
  exact ⟨ad, cap, rfl, h2, h3⟩

theorem Sk.len {k : IntKind} {W : World} {v : Value} {xs : List Int} (h : Sk k W v xs) : ∃ ad cap, v = .slice ad xs.length cap ∧ xs.length ≤ 9223372036854775807 := by
  obtain ⟨ad, cap, rfl, h1, h2, _⟩ := h
  exact ⟨ad, cap, rfl, by omega⟩

/-- A row that lies whole. -/
theorem Sk.row {k : IntKind} {W : World} {g : Nat} {t : TypeId} {fr : Nat × Nat} {xs : List Int} {cap : Nat} {cs : Array Value} (h : W.heap[g]? = some (.cells cs t fr)) (hc : ∀ (i : Nat) (x : Int), xs[i]? = some x → cs[i]? = some (.int k x)) (h1 : xs.length ≤ cap) (h2 : cap ≤ 9223372036854775807) :
    Sk k W (.slice (some ⟨g, 0, none⟩) xs.length cap) xs := by
  refine ⟨_, cap, rfl, h1, h2, by simp, fun i x hx => ⟨g, 0, rfl, ?_⟩⟩
  rw [Nat.zero_add]
  have := hc i x hx
  simp [World.cell?, h, this]

/-- Bytes that are 0. -/
def zb (n : Nat) : List Value := List.replicate n (.int .u8 0)

theorem make_any (n : Nat) (h : n ≤ 100000) : ∀ W : World, (Instr.makeSlice 25 (.int .i64 (n : Int)) (.int .i64 (n : Int))).run Try.prog W = .ok (.slice (some ⟨W.heap.size, 0, none⟩) n n) (W.alloc (.cells (zb n).toArray 5)) := by
  intro W
  obtain ⟨i0, hi, hz0, hz1, hz2⟩ := info_parts info_byte
  have := run_make (P := Try.prog) W 25 5 i0 (.int .u8 0) Try.underlying25 hi hz0 .i64 .i64 n n (by omega) (by omega) (by rw [hz2]; omega) (by omega)
  rw [hz1] at this
  rw [this]
  have e : madeCells (Value.int .u8 0).cells ((n : Int).toNat * 1) = (zb n).toArray := by
    rw [show (n : Int).toNat * 1 = n by simp]
    apply Array.ext'
    rw [show (Value.int .u8 0).cells = #[.int .u8 0] from rfl, toList_madeCells_one]
    rfl
  rw [e]
  simp

theorem cut_ten (k : Nat) (h : k ≤ 10) : ∀ (W : World) (a : Addr), (Instr.sliceAt 39 (.pointer (some a)) none (some (.int .i64 (k : Int))) none).run Try.prog W = .ok (.slice (some a) k 10) W := by
  intro W a
  have al : Try.prog.arrayLen 39 = 10 := by kernel_rfl
  have := run_sliceAt_array_h (P := Try.prog) W 39 a (by kernel_rfl) .i64 k (by omega) (by rw [al]; omega)
  rw [this]
  go_simp

theorem add_zero (g j : Nat) : (⟨g, 0, none⟩ : Addr).add j = ⟨g, j, none⟩ := by
  unfold Addr.add
  split
  · rename_i h
    rw [h]
  · simp

/-- A number's bytes, as they lie in an array of ten. -/
theorem src_ten {W : World} {g : Nat} {t : TypeId} {fr : Nat × Nat} (l : List Int) (hl : l.length ≤ 10) (h : W.heap[g]? = some (.cells (arr l) t fr)) (j : Nat) (v : Value) (hv : (l.map (Value.int .u8))[j]? = some v) :
    W.cell? ((⟨g, 0, none⟩ : Addr).add j) = some v := by
  rw [List.getElem?_map] at hv
  cases e : l[j]? with
  | none => rw [e] at hv; simp at hv
  | some x =>
    have hj : j < l.length := (List.getElem?_eq_some_iff.1 e).1
    rw [e] at hv
    have a := arr_get l j (by omega)
    have d : l.getD j 0 = x := by rw [List.getD_eq_getElem?_getD, e]; rfl
    rw [d] at a
    rw [add_zero]
    simp [World.cell?, h, a]
    simpa using hv

theorem splice_all (k : Nat) (cs : List Value) (h : cs.length = k) : splice (zb k) 0 cs = cs := by
  unfold splice zb
  simp [h]

theorem put_any (n : Int) (w : World) (h : In n) : Calls Try.prog 10 #[.int .i64 n] w fun e w' => ∃ v, e = .returned v ∧ Sk .u8 w' v (pu n) ∧ Later w w' := by
  have D := Lib.hid (fun W => digits_any n W h)
  have l0 := pu_pos n
  have l1 := pu_len n
  obtain ⟨k, hk⟩ : ∃ k, k = (pu n).length := ⟨_, rfl⟩
  obtain ⟨cs, hcs⟩ : ∃ cs, cs = (pu n).map (Value.int .u8) := ⟨_, rfl⟩
  have L := Lib.hid l1
  rw [← hk] at l0 l1
  have mk := make_any k (by omega)
  have sl := cut_ten k l1
  obtain ⟨y0, y1, y2, y3, y4, y5, y6, y7, y8, y9, hy⟩ := arr_ten (pu n)
  rw [hy, ← hk] at D
  have HK := Lib.hid hk
  have HY := Lib.hid hy
  have HC := Lib.hid hcs
  have hlen : cs.length = k := by rw [hcs, hk, List.length_map]
  have HL := Lib.hid hlen
  have HO : Hid (∀ v ∈ cs, v.oneCell' = true) := by
    have : ∀ v ∈ cs, v.oneCell' = true := by
      intro v hv
      rw [hcs] at hv
      obtain ⟨x, _, rfl⟩ := List.mem_map.1 hv
      rfl
    exact this
  clear hk hy hcs hlen
  go_enter Try.func10, Try.ntmps10
  go_wp2_with fail
  refine (D.out _).mono ?_
  rintro e w1 ⟨rfl, hg1⟩
  have HG := Lib.hid hg1
  clear hg1
  have HS : Hid (∀ j v, cs[j]? = some v → ((w1.alloc (.cells #[.int .u8 y0, .int .u8 y1, .int .u8 y2, .int .u8 y3, .int .u8 y4, .int .u8 y5, .int .u8 y6, .int .u8 y7, .int .u8 y8, .int .u8 y9] 39)).alloc (.cells (zb k).toArray 5)).cell? ((⟨w1.heap.size, 0, none⟩ : Addr).add j) = some v) := by
    have : ∀ j v, cs[j]? = some v → ((w1.alloc (.cells #[.int .u8 y0, .int .u8 y1, .int .u8 y2, .int .u8 y3, .int .u8 y4, .int .u8 y5, .int .u8 y6, .int .u8 y7, .int .u8 y8, .int .u8 y9] 39)).alloc (.cells (zb k).toArray 5)).cell? ((⟨w1.heap.size, 0, none⟩ : Addr).add j) = some v := by
      intro j v hv
      rw [HC.out] at hv
      refine src_ten (fr := (0, 0)) (t := 39) (pu n) L.out ?_ j v hv
      rw [HY.out]
      exact (Below.heap_alloc _ _ _ (by simp)).trans (heap_alloc_new _ _)
    exact this
  have HB := Lib.hid ((((HG.out.alloc #[.int .u8 y0, .int .u8 y1, .int .u8 y2, .int .u8 y3, .int .u8 y4, .int .u8 y5, .int .u8 y6, .int .u8 y7, .int .u8 y8, .int .u8 y9] 39)).alloc (zb k).toArray 5).below)
  go_wp2_with (with_reducible refine wpList_copy_splice rfl (.tmp 13) (.tmp 15) 25 25 rfl 5 Try.underlying25 (by kernel_rfl) _ _ _ _ _ _ rfl rfl (w1.heap.size + 1) 0 (zb k) 5 (by rw [← World.size_alloc]; exact heap_alloc_new _ _) cs (by rw [HL.out]; simp) (fun _ => ⟨rfl, _, rfl, HS.out⟩) (by rw [HL.out]; simp [zb]) HO.out w.heap.size w HB.out (by have := HG.out.size; omega) ?_; intro w2 HG2 hB2)
  go_ret
  refine ⟨_, rfl, ?_, Later.of_below hB2⟩
  rw [HK.out]
  refine Sk.row HG2.out (fun i x hx => ?_) (Nat.le_refl _) (by have := L.out; omega)
  rw [splice_all k cs HL.out, HC.out]
  simp [hx]
end Go.Proofs.Ytmpmkjoabplfoaa.Wire
