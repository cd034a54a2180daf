/-
  What the document's answers of layer 8 come to: a number's bytes, a row's bytes; and whether two rows, of bytes or of numbers, are the same. Conditions: the numbers are ints; a row has at most 1000 of them.
-/
import Derived.Test.YtdljmpaabpkmkaaDoorWp
namespace Go.Proofs.YtdljmpaabpkmkaaDoor.Wire
open Go.ChangeShapes Go.WideShapes Go.ChangeAt Go.RowKit
open Go.Proofs.YtdljmpaabpkmkaaDoor.Divs Go.Proofs.YtdljmpaabpkmkaaDoor.Grow Go.Proofs.YtdljmpaabpkmkaaDoor.By Go.Proofs.YtdljmpaabpkmkaaDoor.Wi

def PRel (n : Int) (w : World) (c v : Value) (wr : World) : Prop :=
  ∃ (pre : List Int) (x : Int), pre.length ≤ 9 ∧ c = .int .u64 x ∧ SL .u8 5 wr w.heap.size v pre ∧ pu n = pre ++ dgs (9 - pre.length) x ∧ 0 ≤ x ∧ x < bd (9 - pre.length) ∧ x < 18446744073709551616 ∧ Later w wr

set_option maxHeartbeats 1000000 in
theorem rput_any (n : Int) (w : World) (h : In n) : Calls Tryd.prog 39 #[.int .i64 n] w fun e w' => ∃ v, e = .returned v ∧ SL .u8 5 w' w.heap.size v (pu n) ∧ Later w w' := by
  have C := Lib.hid (fun W => rcode_any n W h)
  have c0 := cd_nn n
  have c1 := cd_lt n h.1 h.2
  obtain ⟨i0, hi, hz0, hz1, hz2⟩ := info_parts info_byte
  have HI := Lib.hid hi
  have HZ0 := Lib.hid hz0
  have HZ1 := Lib.hid hz1
  have HZ2 := Lib.hid hz2
  clear hi hz0 hz1 hz2
  go_enter Tryd.func39, Tryd.ntmps39
  go_wp2_with fail
  refine (C.out _).mono ?_
  rintro e w1 ⟨rfl, rfl⟩
  go_wp2_with fail
  go_loopw [3, 4] (fun c v wr => PRel n w c v wr) (fun c _ _ => (intOf c).toNat)
  case atStart => exact ⟨[], cd n, by simp, rfl, SL.nil _ _ _ _, by simp [pu], c0, by simpa [bd] using c1, c1, Later.refl _⟩
  case round =>
    obtain ⟨pre, x, hp, rfl, hs, hd, x0, x1, x2, hg⟩ := hrel
    have HD := Lib.hid hd
    have HX := Lib.hid x1
    have HO := Lib.hid hs
    have HG := Lib.hid hg
    clear hd x1 hs hg
    by_cases hx : 128 ≤ x
    · have t : decide (128 ≤ x) = true := by simpa using hx
      obtain ⟨g, hg⟩ : ∃ g, 9 - pre.length = g + 1 := by
        refine ⟨9 - pre.length - 1, ?_⟩
        have := HX.out
        rcases Nat.eq_zero_or_pos (9 - pre.length) with h0 | h0
        · rw [h0] at this; simp only [bd] at this; omega
        · omega
      have HJ := Lib.hid hg
      clear hg
      go_wp2_with (at_builtin; go_loud (refine wpList_append_own _ rfl _ _ 22 rfl w.heap.size 5 i0 (.int .u8 0) 1 1 Tryd.underlying22 HI.out HZ0.out HZ1.out HZ2.out rfl (by decide) _ _ _ rfl (World.ownsRow.alloc HO.out _) ⟨wr.heap.size, 0, none⟩ 1 1 [.int .u8 (x % 128 + 128)] rfl rfl (cell_one_new _ _ _) (by simp [Value.oneCell']) (by simp only [maxLen]; omega) (by omega) (by have := HG.out.size; simp only [World.size_alloc] at this ⊢; omega) ?_); go_loud (intro v' w4 hown' hgrow _; have HG4 := Lib.hid (later_grown (HG.out.put _) (HO.out.later ((Later.refl _).put _)) hgrow); have HO4 : Hid (SL .u8 5 w4 w.heap.size v' (pre ++ [x % 128 + 128])) := Lib.hid (by unfold SL; rw [List.length_append, List.map_append]; exact hown'); clear hown' hgrow))
      go_roundw
      case rel =>
        refine ⟨pre ++ [x % 128 + 128], x / 128, by have := HJ.out; simp; omega, rfl, HO4.out, ?_, by omega, ?_, by omega, HG4.out⟩
        · rw [HD.out, HJ.out, dgs, if_pos hx, List.append_assoc, List.length_append, List.length_singleton, show 9 - (pre.length + 1) = g by have := HJ.out; omega]
          rfl
        · have := HX.out
          rw [HJ.out, bd] at this
          rw [List.length_append, List.length_singleton, show 9 - (pre.length + 1) = g by have := HJ.out; omega]
          omega
      case measure => simp [intOf]; omega
    · have e : pre ++ [x] = pu n := by
        rw [HD.out]
        cases 9 - pre.length with
        | zero => rfl
        | succ f => rw [dgs, if_neg hx]
      have HE := Lib.hid e
      clear e
      go_wp2_with (at_builtin; go_loud (refine wpList_append_own _ rfl _ _ 22 rfl w.heap.size 5 i0 (.int .u8 0) 1 1 Tryd.underlying22 HI.out HZ0.out HZ1.out HZ2.out rfl (by decide) _ _ _ rfl (World.ownsRow.alloc HO.out _) ⟨wr.heap.size, 0, none⟩ 1 1 [.int .u8 x] rfl rfl (cell_one_new _ _ _) (by simp [Value.oneCell']) (by simp only [maxLen]; omega) (by omega) (by have := HG.out.size; simp only [World.size_alloc] at this ⊢; omega) ?_); go_loud (intro v' w4 hown' hgrow _; have HG4 := Lib.hid (later_grown (HG.out.put _) (HO.out.later ((Later.refl _).put _)) hgrow); have HO4 : Hid (SL .u8 5 w4 w.heap.size v' (pre ++ [x])) := Lib.hid (by unfold SL; rw [List.length_append, List.map_append]; exact hown'); clear hown' hgrow))
      go_ret
      exact ⟨_, rfl, by rw [← HE.out]; exact HO4.out, HG4.out⟩

def QRel (l : List Int) (w : World) (v i : Value) (wr : World) : Prop := ∃ j : Nat, j ≤ l.length ∧ i = .int .i64 (j : Int) ∧ SL .u8 5 wr w.heap.size v (rb l j) ∧ Later w wr

theorem rrow_nil (ad : Option Addr) (cap : Nat) (w : World) : Calls Tryd.prog 38 #[.slice ad 0 cap] w fun e w' => ∃ v, e = .returned v ∧ Sk .u8 w' v (ro []) ∧ Later w w' := by
  have P := Lib.hid (fun W => rput_any 0 W ⟨by omega, by omega⟩)
  go_enter Tryd.func38, Tryd.ntmps38
  go_wp2_with fail
  refine (P.out _).mono ?_
  rintro e w1 ⟨v, rfl, hs, hg⟩
  go_wp2
  refine wp_loop_rounds 1 ?_
  rw [rounds_succ]
  go_wp2
  go_ret
  refine ⟨_, rfl, ?_, hg⟩
  have := hs.sk
  simpa [ro] using this

set_option maxHeartbeats 1000000 in
theorem rrow_some (l : List Int) (b off cap : Nat) (w : World) (hp : 0 < l.length) (hn : l.length ≤ 1000) (hl : ∀ n ∈ l, In n) (hc : ∀ i, i < l.length → w.cell? ⟨b, off + i, none⟩ = some (.int .i64 (l.getD i 0))) :
    Calls Tryd.prog 38 #[.slice (some ⟨b, off, none⟩) l.length cap] w fun e w' => ∃ v, e = .returned v ∧ SL .u8 5 w' w.heap.size v (ro l) ∧ Later w w' := by
  have P := Lib.hid (fun n W (h : In n) => rput_any n W h)
  have HC := Lib.hid hc
  have HN := Lib.hid hl
  obtain ⟨i0, hi, hz0, hz1, hz2⟩ := info_parts info_byte
  have HI := Lib.hid hi
  have HZ0 := Lib.hid hz0
  have HZ1 := Lib.hid hz1
  have HZ2 := Lib.hid hz2
  clear hi hz0 hz1 hz2 hc hl
  go_enter Tryd.func38, Tryd.ntmps38
  go_wp2_with fail
  refine (P.out _ _ ⟨by omega, by omega⟩).mono ?_
  rintro e w1 ⟨v, rfl, hs, hg⟩
  have HS := Lib.hid hs
  have HG := Lib.hid hg
  clear hs hg
  go_wp2_with fail
  go_loopw [3, 4] (fun v i wr => QRel l w v i wr) (fun _ i _ => l.length - (intOf i).toNat)
  case atStart => exact ⟨0, by omega, rfl, by rw [rb_zero]; exact HS.out, HG.out⟩
  case round =>
    obtain ⟨j, hj, rfl, hs, hg⟩ := hrel
    have HO := Lib.hid hs
    have HR := Lib.hid hg
    clear hs hg
    by_cases hlt : j < l.length
    · obtain ⟨x, hx⟩ : ∃ x, l[j]? = some x := ⟨_, List.getElem?_eq_getElem hlt⟩
      have c : wr.cell? ⟨b, off + j, none⟩ = some (.int .i64 x) := by
        have := gsome HR.out (HC.out j hlt)
        rwa [List.getD_eq_getElem?_getD, hx] at this
      have HX := Lib.hid (HN.out x (List.mem_of_getElem? hx))
      have HB := Lib.hid (rb_succ l j x hx)
      have z0 := rz_le l j
      have z1 := pu_len x
      have z2 := rb_len l j
      have HP := Lib.hid (pu_pos x)
      have HL := Lib.hid (show (rb l j).length + (pu x).length ≤ 100000 by omega)
      clear hx z0 z1 z2
      go_wp2_with fail
      refine (P.out _ _ HX.out).mono ?_
      rintro e w2 ⟨u, rfl, hs2, hg2⟩
      obtain ⟨g', cap', rfl, hcell⟩ := hs2.has HP.out
      have HG2 := Lib.hid (gtrans HR.out hg2)
      have HO2 := Lib.hid (HO.out.later hg2)
      have HCell := Lib.hid hcell
      clear hs2 hg2 hcell c
      go_wp2_with (at_builtin; go_loud (refine wpList_append_own _ rfl _ _ 22 rfl w.heap.size 5 i0 (.int .u8 0) 1 1 Tryd.underlying22 HI.out HZ0.out HZ1.out HZ2.out rfl (by decide) _ _ _ rfl HO2.out ⟨g', 0, none⟩ (pu x).length cap' ((pu x).map (Value.int .u8)) rfl (by simp) HCell.out (by intro u hu; obtain ⟨y, _, rfl⟩ := List.mem_map.1 hu; rfl) (by have := HL.out; simp only [maxLen]; omega) (by have := HL.out; omega) (HG2.out.size) ?_); go_loud (intro v' w4 hown' hgrow _; have HG4 := Lib.hid (later_grown HG2.out HO2.out hgrow); have HO4 : Hid (SL .u8 5 w4 w.heap.size v' (rb l j ++ pu x)) := Lib.hid (by unfold SL; rw [List.length_append, List.map_append]; exact hown'); clear hown' hgrow))
      go_roundw
      case rel => exact ⟨j + 1, by omega, by go_num, by rw [HB.out]; exact HO4.out, HG4.out⟩
      case measure => simp [intOf]; omega
    · obtain rfl : j = l.length := by omega
      go_wp2
      go_ret
      exact ⟨_, rfl, by have := HO.out; rwa [rb_all] at this, HR.out⟩

theorem rrow_any (l : List Int) (v : Value) (w : World) (hs : Sk .i64 w v l) (hn : l.length ≤ 1000) (hl : ∀ n ∈ l, In n) :
    Calls Tryd.prog 38 #[v] w fun e w' => ∃ v, e = .returned v ∧ Sk .u8 w' v (ro l) ∧ Later w w' := by
  rcases Nat.eq_zero_or_pos l.length with h | h
  · obtain rfl := List.length_eq_zero_iff.1 h
    obtain ⟨ad, cap, rfl, _⟩ := hs.bare
    exact rrow_nil ad cap w
  · obtain ⟨b, off, cap, rfl, _, _, _, hc⟩ := hs.has h
    exact (rrow_some l b off cap w h hn hl hc).mono fun _ _ ⟨v, h1, h2, h3⟩ => ⟨v, h1, h2.sk, h3⟩

/-- A row of some numbers lies in memory of its own. -/
theorem rrow_own (l : List Int) (v : Value) (w : World) (hs : Sk .i64 w v l) (hp : 0 < l.length) (hn : l.length ≤ 1000) (hl : ∀ n ∈ l, In n) :
    Calls Tryd.prog 38 #[v] w fun e w' => ∃ v, e = .returned v ∧ SL .u8 5 w' w.heap.size v (ro l) ∧ Later w w' := by
  obtain ⟨b, off, cap, rfl, _, _, _, hc⟩ := hs.has hp
  exact rrow_some l b off cap w hp hn hl hc

end Go.Proofs.YtdljmpaabpkmkaaDoor.Wire
