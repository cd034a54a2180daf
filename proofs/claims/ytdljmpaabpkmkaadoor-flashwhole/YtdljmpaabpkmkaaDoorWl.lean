/-
  Slices of numbers and of bytes, wherever they lie; and what Put answers, by the program. Condition: the number is an int.
-/
import Derived.Test.YtdljmpaabpkmkaaDoorWd
import Derived.Laws.CopyOwn
import Derived.Laws.AppendOwnNone
import Derived.Laws.OwnMore
namespace Go.Proofs.YtdljmpaabpkmkaaDoor.Wire
open Go.ChangeShapes Go.WideShapes Go.ChangeAt Go.RowKit
open Go.Proofs.YtdljmpaabpkmkaaDoor.Divs Go.Proofs.YtdljmpaabpkmkaaDoor.Grow Go.Proofs.YtdljmpaabpkmkaaDoor.By Go.Proofs.YtdljmpaabpkmkaaDoor.Wi

theorem cut_ten (k : Nat) (h : k ≤ 10) : ∀ (W : World) (a : Addr), (Instr.sliceAt 88 (.pointer (some a)) none (some (.int .i64 (k : Int))) none).run Tryd.prog W = .ok (.slice (some a) k 10) W := by
  intro W a
  have al : Tryd.prog.arrayLen 88 = 10 := by kernel_rfl
  have := run_sliceAt_array_h (P := Tryd.prog) W 88 a (by kernel_rfl) .i64 k (by omega) (by rw [al]; omega)
  rw [this]
  go_simp

/-- A number's bytes, as they lie in an array of ten. -/
theorem src_ten {W : World} {g : Nat} {t : TypeId} {fr : Nat × Nat} (l : List Int) (hl : l.length ≤ 10) (h : W.heap[g]? = some (.cells (arr l) t fr)) (j : Nat) (v : Value) (hv : (l.map (Value.int .u8))[j]? = some v) :
    W.cell? ((⟨g, 0, none⟩ : Addr).add j) = some v := by
  rw [List.getElem?_map] at hv
  cases e : l[j]? with
  | none => rw [e] at hv; simp at hv
  | some x =>
    have hj : j < l.length := (List.getElem?_eq_some_iff.1 e).1
    rw [e] at hv
    have a := arr_get l j (by omega)
    have d : l.getD j 0 = x := by rw [List.getD_eq_getElem?_getD, e]; rfl
    rw [d] at a
    rw [add_zero]
    simp [World.cell?, h, a]
    simpa using hv

theorem splice_all (k : Nat) (cs : List Value) (h : cs.length = k) : splice (zb k) 0 cs = cs := by
  unfold splice zb
  simp [h]

theorem put_any (n : Int) (w : World) (h : In n) : Calls Tryd.prog 32 #[.int .i64 n] w fun e w' => ∃ v, e = .returned v ∧ Sk .u8 w' v (pu n) ∧ Later w w' := by
  have D := Lib.hid (fun W => digits_any n W h)
  have l0 := pu_pos n
  have l1 := pu_len n
  obtain ⟨k, hk⟩ : ∃ k, k = (pu n).length := ⟨_, rfl⟩
  obtain ⟨cs, hcs⟩ : ∃ cs, cs = (pu n).map (Value.int .u8) := ⟨_, rfl⟩
  have L := Lib.hid l1
  rw [← hk] at l0 l1
  have mk := make_any k (by omega)
  have sl := cut_ten k l1
  obtain ⟨y0, y1, y2, y3, y4, y5, y6, y7, y8, y9, hy⟩ := arr_ten (pu n)
  rw [hy, ← hk] at D
  have HK := Lib.hid hk
  have HY := Lib.hid hy
  have HC := Lib.hid hcs
  have hlen : cs.length = k := by rw [hcs, hk, List.length_map]
  have HL := Lib.hid hlen
  have HO : Hid (∀ v ∈ cs, v.oneCell' = true) := by
    have : ∀ v ∈ cs, v.oneCell' = true := by
      intro v hv
      rw [hcs] at hv
      obtain ⟨x, _, rfl⟩ := List.mem_map.1 hv
      rfl
    exact this
  clear hk hy hcs hlen
  go_enter Tryd.func32, Tryd.ntmps32
  go_wp2_with fail
  refine (D.out _).mono ?_
  rintro e w1 ⟨rfl, hg1⟩
  have HG := Lib.hid hg1
  clear hg1
  have HS : Hid (∀ j v, cs[j]? = some v → ((w1.alloc (.cells #[.int .u8 y0, .int .u8 y1, .int .u8 y2, .int .u8 y3, .int .u8 y4, .int .u8 y5, .int .u8 y6, .int .u8 y7, .int .u8 y8, .int .u8 y9] 88)).alloc (.cells (zb k).toArray 5)).cell? ((⟨w1.heap.size, 0, none⟩ : Addr).add j) = some v) := by
    have : ∀ j v, cs[j]? = some v → ((w1.alloc (.cells #[.int .u8 y0, .int .u8 y1, .int .u8 y2, .int .u8 y3, .int .u8 y4, .int .u8 y5, .int .u8 y6, .int .u8 y7, .int .u8 y8, .int .u8 y9] 88)).alloc (.cells (zb k).toArray 5)).cell? ((⟨w1.heap.size, 0, none⟩ : Addr).add j) = some v := by
      intro j v hv
      rw [HC.out] at hv
      refine src_ten (fr := (0, 0)) (t := 88) (pu n) L.out ?_ j v hv
      rw [HY.out]
      exact (Below.heap_alloc _ _ _ (by simp)).trans (heap_alloc_new _ _)
    exact this
  have HB := Lib.hid ((((HG.out.alloc #[.int .u8 y0, .int .u8 y1, .int .u8 y2, .int .u8 y3, .int .u8 y4, .int .u8 y5, .int .u8 y6, .int .u8 y7, .int .u8 y8, .int .u8 y9] 88)).alloc (zb k).toArray 5).below)
  go_wp2_with (with_reducible refine wpList_copy_splice rfl (.tmp 13) (.tmp 15) 22 22 rfl 5 Tryd.underlying22 (by kernel_rfl) _ _ _ _ _ _ rfl rfl (w1.heap.size + 1) 0 (zb k) 5 (by rw [← World.size_alloc]; exact heap_alloc_new _ _) cs (by rw [HL.out]; simp) (fun _ => ⟨rfl, _, rfl, HS.out⟩) (by rw [HL.out]; simp [zb]) HO.out w.heap.size w HB.out (by have := HG.out.size; omega) ?_; intro w2 HG2 hB2)
  go_ret
  refine ⟨_, rfl, ?_, Later.of_below hB2⟩
  rw [HK.out]
  refine Sk.row HG2.out (fun i x hx => ?_) (Nat.le_refl _) (by have := L.out; omega)
  rw [splice_all k cs HL.out, HC.out]
  simp [hx]
end Go.Proofs.YtdljmpaabpkmkaaDoor.Wire
