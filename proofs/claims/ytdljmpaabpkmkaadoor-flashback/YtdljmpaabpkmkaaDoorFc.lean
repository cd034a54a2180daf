/-
  Three rows of bytes put together, by the library's own text of slices.Concat and slices.Grow. Conditions: at most 100000 bytes.
-/
import Derived.Test.YtdljmpaabpkmkaaDoorFb
import Derived.Lib.AppendZeros
namespace Go.Proofs.YtdljmpaabpkmkaaDoor.Fls
open Go.ChangeShapes Go.WideShapes Go.ChangeAt Go.RowKit
open Go.Proofs.YtdljmpaabpkmkaaDoor.Divs Go.Proofs.YtdljmpaabpkmkaaDoor.Grow Go.Proofs.YtdljmpaabpkmkaaDoor.By Go.Proofs.YtdljmpaabpkmkaaDoor.Wi Go.Proofs.YtdljmpaabpkmkaaDoor.Fa

theorem grow_nil (n : Nat) (h0 : 0 < n) (hn : n ≤ 100000) (w : World) : Calls Tryd.prog 47 #[.slice none 0 0, .int .i64 (n : Int)] w fun e w' => ∃ v, e = .returned v ∧ SL .u8 5 w' w.heap.size v [] ∧ Later w w' := by
  obtain ⟨i0, hi, hz0, hz1, hz2⟩ := info_parts info_byte
  have hr := fun ty => Lib.run_append_nil_zeros (P := Tryd.prog) w 22 3 ty 5 i0 (.int .u8 0) .i64 .i64 Tryd.underlying22 Tryd.underlying3 hi hz0 n h0 (by rw [hz1]; decide) (by omega) (by rw [hz2]; omega)
  have g0 : n ≤ grownCap w n 0 5 := grownCap_ge w _ _ _
  have g1 : grownCap w n 0 5 ≤ 9223372036854775807 := by
    have := grownCap_le_maxLen w n 0 5 (by unfold maxLen; omega)
    unfold maxLen at this
    omega
  obtain ⟨G, hG⟩ : ∃ G, G = grownCap w n 0 5 := ⟨_, rfl⟩
  rw [← hG] at hr g0 g1
  have h1 : ¬ ((n : Int) < 0) := by omega
  have h4 : (n : Int) > 0 := by omega
  have h5 : wrap64 (n : Int) = n := by unfold wrap64; omega
  have hs : (Builtin.zeroCells (Value.int .u8 0).cells n ++ Builtin.zeroCells (Value.int .u8 0).cells (G - n)).size = G := by
    rw [Array.size_append, size_zeroCells, size_zeroCells]
    simp [Value.cells]
    omega
  clear hG
  generalize Builtin.zeroCells (Value.int .u8 0).cells n ++ Builtin.zeroCells (Value.int .u8 0).cells (G - n) = cs at *
  have HS := Lib.hid hs
  have HG := Lib.hid g1
  clear hs
  go_enter Tryd.func47, Tryd.ntmps47
  go_wp2_with (at_builtin; refine Lib.wpList_append_run _ rfl _ _ _ _ rfl _ _ rfl rfl _ _ (hr _) ?_)
  go_ret
  refine ⟨_, rfl, ⟨rfl, .inr ⟨w.heap.size, G, cs, rfl, Nat.le_refl _, heap_alloc_new _ _, Nat.zero_le _, ?_, by rw [HS.out]; simp, by simp⟩⟩, (later_drewN w 1).put _⟩
  have := HG.out
  simp only [maxLen]
  omega

set_option maxHeartbeats 2000000 in
theorem concat_any (xs ys zs : List Int) (u v t : Value) (g : Nat) (w : World) (c0 : w.cell? ⟨g, 0, none⟩ = some u) (c1 : w.cell? ⟨g, 1, none⟩ = some v) (c2 : w.cell? ⟨g, 2, none⟩ = some t)
    (hx : Sk .u8 w u xs) (hy : Sk .u8 w v ys) (hz : Sk .u8 w t zs) (h0 : 0 < xs.length) (hn : xs.length + ys.length + zs.length ≤ 100000) :
    Calls Tryd.prog 31 #[.slice (some ⟨g, 0, none⟩) 3 3] w fun e w' => ∃ r, e = .returned r ∧ SL .u8 5 w' w.heap.size r (xs ++ (ys ++ zs)) ∧ Later w w' := by
  have HX := Lib.hid hx
  have HY := Lib.hid hy
  have HZ := Lib.hid hz
  have HN := Lib.hid hn
  have HXY : Hid ((xs ++ ys) ++ zs = xs ++ (ys ++ zs)) := Lib.hid (List.append_assoc _ _ _)
  have G := grow_nil (xs.length + ys.length + zs.length) (by omega) hn w
  rw [show ((xs.length + ys.length + zs.length : Nat) : Int) = (xs.length : Int) + (ys.length : Int) + (zs.length : Int) by omega] at G
  have G := Lib.hid G
  obtain ⟨a1, k1, rfl, _⟩ := hx.len
  obtain ⟨a2, k2, rfl, _⟩ := hy.len
  obtain ⟨a3, k3, rfl, _⟩ := hz.len
  clear hx hy hz
  go_enter Tryd.func31, Tryd.ntmps31
  go_wp2_with fail
  refine wp_loop_rounds 4 ?_
  rw [rounds_succ]
  go_wp2_with fail
  rw [rounds_succ]
  go_wp2_with fail
  rw [rounds_succ]
  go_wp2_with fail
  rw [rounds_succ]
  go_wp2_with fail
  refine G.out.mono ?_
  rintro e w1 ⟨r0, rfl, ho1, hg1⟩
  have HO1 := Lib.hid ho1
  have HG1 := Lib.hid hg1
  have d0 := gsome hg1 c0
  have HC1 := Lib.hid c1
  have HC2 := Lib.hid c2
  clear ho1 c0 c1 c2
  go_wp2_with fail
  refine wp_loop_rounds 4 ?_
  rw [rounds_succ]
  go_wp2_with (at_builtin; refine append_sk rfl (.tmp 31) (.tmp 32) rfl w hg1 _ [] rfl HO1.out _ xs rfl (HX.out.later hg1) (by have := HN.out; simp; omega) ?_; intro v2 w2 ho2 hg2; have HO2 := Lib.hid ho2; have HG2 := Lib.hid hg2; have d1 := gsome hg2 HC1.out; clear ho2 hg2)
  clear d0
  rw [rounds_succ]
  go_wp2_with (at_builtin; refine append_sk rfl (.tmp 31) (.tmp 32) rfl w HG2.out _ _ rfl HO2.out _ ys rfl (HY.out.later HG2.out) (by have := HN.out; simp; omega) ?_; intro v3 w3 ho3 hg3; have HO3 := Lib.hid ho3; have HG3 := Lib.hid hg3; have d2 := gsome hg3 HC2.out; clear ho3 hg3)
  clear d1
  rw [rounds_succ]
  go_wp2_with (at_builtin; refine append_sk rfl (.tmp 31) (.tmp 32) rfl w HG3.out _ _ rfl HO3.out _ zs rfl (HZ.out.later HG3.out) (by have := HN.out; simp; omega) ?_; intro v4 w4 ho4 hg4; have HO4 := Lib.hid ho4; have HG4 := Lib.hid hg4; clear ho4 hg4)
  rw [rounds_succ]
  go_wp2_with fail
  go_ret
  refine ⟨_, rfl, ?_, HG4.out⟩
  have := HO4.out
  rw [List.nil_append, HXY.out] at this
  exact this

end Go.Proofs.YtdljmpaabpkmkaaDoor.Fls
