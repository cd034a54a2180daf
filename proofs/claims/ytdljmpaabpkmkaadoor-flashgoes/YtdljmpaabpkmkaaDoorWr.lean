/-
  What GetRow answers, by the program. Conditions: the bytes are bytes; at most so many numbers as 1000 are asked for.
-/
import Derived.Test.YtdljmpaabpkmkaaDoorWg
import Derived.Maps.AppendAt
import Derived.RangeFuncBox
namespace Go.Proofs.YtdljmpaabpkmkaaDoor.Wire
open Go.ChangeShapes Go.WideShapes Go.ChangeAt Go.RowKit
open Go.Proofs.YtdljmpaabpkmkaaDoor.Divs Go.Proofs.YtdljmpaabpkmkaaDoor.Grow Go.Proofs.YtdljmpaabpkmkaaDoor.By Go.Proofs.YtdljmpaabpkmkaaDoor.Wi

/-- The numbers so far. -/
def cg (acc : List Int) (r : List Int × Int × Int) : List Int × Int × Int := if r.2.2 = 0 then (acc ++ r.1, r.2.1, 0) else ([], 0, r.2.2)

theorem gn_err (bs : List Int) (k : Nat) (p : Int) (h : (gn bs k p).2.2 ≠ 0) : (gn bs k p).1 = [] ∧ (gn bs k p).2.1 = 0 := by
  cases k with
  | zero => simp [gn] at h
  | succ k =>
    rw [gn] at h ⊢
    split
    · split
      · rename_i h1 h2
        rw [if_pos h1, if_pos h2] at h
        simp at h
      · simp
    · simp

theorem cg_nil (bs : List Int) (k : Nat) (p : Int) : gn bs k p = cg [] (gn bs k p) := by
  unfold cg
  by_cases h : (gn bs k p).2.2 = 0
  · rw [if_pos h]
    exact Prod.ext (by simp) (Prod.ext rfl h)
  · rw [if_neg h]
    obtain ⟨a, b⟩ := gn_err bs k p h
    exact Prod.ext a (Prod.ext b rfl)

theorem cg_on (bs acc : List Int) (k : Nat) (q : Int) (h : gE bs q = 0) : cg acc (gn bs (k + 1) q) = cg (acc ++ [gN bs q]) (gn bs k (gP bs q)) := by
  rw [gn, if_pos h]
  generalize gn bs k (gP bs q) = g
  unfold cg
  by_cases h3 : g.2.2 = 0
  · rw [if_pos h3, if_pos h3]
    simp
  · rw [if_neg h3, if_neg h3]
    simp only
    rw [if_neg h3]

theorem cg_err (bs acc : List Int) (k : Nat) (q : Int) (h : gE bs q ≠ 0) : cg acc (gn bs (k + 1) q) = ([], 0, gE bs q) := by
  rw [gn, if_neg h]
  unfold cg
  rw [if_neg h]

theorem ret3v {v : Value} {b c b' c' : Int} (h2 : b = b') (h3 : c = c') : Ending.returned (.tuple #[v, .int .i64 b, .int .i64 c]) = .returned (.tuple #[v, .int .i64 b', .int .i64 c']) := by rw [h2, h3]

theorem getrow_no (bs : List Int) (p m : Int) (v : Value) (w : World) (hs : Sk .u8 w v bs) (hb : ∀ x ∈ bs, 0 ≤ x ∧ x ≤ 255) (h : ¬ (gE bs p = 0 ∧ 0 ≤ gN bs p ∧ gN bs p ≤ m)) :
    Calls Tryd.prog 49 #[v, .int .i64 p, .int .i64 m] w fun e w' => ∃ u, e = .returned (.tuple #[u, .int .i64 (grow bs p m).2.1, .int .i64 (grow bs p m).2.2]) ∧ SL .i64 3 w' w.heap.size u (grow bs p m).1 ∧ Later w w' := by
  have G := Lib.hid (fun W (hW : Sk .u8 W v bs) => get_any bs p v W hW hb)
  have HS := Lib.hid hs
  clear hs
  by_cases he : gE bs p = 0
  · have e : grow bs p m = ([], 0, 83) := by
      unfold grow
      rw [if_pos he, if_neg (by omega)]
    rw [e]
    have t : (gE bs p != 0) = false := by simpa using he
    by_cases h0 : gN bs p < 0
    · have t1 : decide (gN bs p < 0) = true := by simpa using h0
      clear h he e h0
      go_enter Tryd.func49, Tryd.ntmps49
      go_wp2_with fail
      refine (G.out _ HS.out).mono ?_
      rintro e w1 ⟨rfl, rfl⟩
      go_wp2
      go_ret3
      exact ⟨_, rfl, SL.nil _ _ _ _, Later.refl _⟩
    · have t1 : decide (gN bs p < 0) = false := by simpa using h0
      have t2 : decide (m < gN bs p) = true := by simp; omega
      clear h he e h0
      go_enter Tryd.func49, Tryd.ntmps49
      go_wp2_with fail
      refine (G.out _ HS.out).mono ?_
      rintro e w1 ⟨rfl, rfl⟩
      go_wp2
      go_ret3
      exact ⟨_, rfl, SL.nil _ _ _ _, Later.refl _⟩
  · have e : grow bs p m = ([], 0, gE bs p) := by
      unfold grow
      rw [if_neg he]
    rw [e]
    have t : (gE bs p != 0) = true := by simpa using he
    clear h he e
    go_enter Tryd.func49, Tryd.ntmps49
    go_wp2_with fail
    refine (G.out _ HS.out).mono ?_
    rintro e w1 ⟨rfl, rfl⟩
    go_wp2
    go_ret3
    exact ⟨_, rfl, SL.nil _ _ _ _, Later.refl _⟩

def RRel (bs : List Int) (C : Nat) (R : List Int × Int × Int) (w : World) (q l i : Value) (wr : World) : Prop :=
  ∃ (j : Nat) (acc : List Int) (a : Int), j ≤ C ∧ i = .int .i64 (j : Int) ∧ q = .int .i64 a ∧ acc.length = j ∧ SL .i64 3 wr w.heap.size l acc ∧ R = cg acc (gn bs (C - j) a) ∧ Later w wr

set_option maxHeartbeats 1000000 in
theorem getrow_yes (bs : List Int) (p m : Int) (v : Value) (w : World) (hs : Sk .u8 w v bs) (hb : ∀ x ∈ bs, 0 ≤ x ∧ x ≤ 255) (hm : m ≤ 1000) (h : gE bs p = 0 ∧ 0 ≤ gN bs p ∧ gN bs p ≤ m) :
    Calls Tryd.prog 49 #[v, .int .i64 p, .int .i64 m] w fun e w' => ∃ u, e = .returned (.tuple #[u, .int .i64 (grow bs p m).2.1, .int .i64 (grow bs p m).2.2]) ∧ SL .i64 3 w' w.heap.size u (grow bs p m).1 ∧ Later w w' := by
  have G := Lib.hid (fun q W (hW : Sk .u8 W v bs) => get_any bs q v W hW hb)
  have HS := Lib.hid hs
  clear hs
  obtain ⟨he, h0, h1⟩ := h
  have e : grow bs p m = gn bs (gN bs p).toNat (gP bs p) := by
    unfold grow
    rw [if_pos he, if_pos ⟨h0, h1⟩]
  have t : (gE bs p != 0) = false := by simpa using he
  obtain ⟨C, hC⟩ : ∃ C : Nat, gN bs p = C := ⟨(gN bs p).toNat, by omega⟩
  have G1 := Lib.hid (G.out p)
  rw [hC] at G1
  rw [hC, Int.toNat_natCast] at e
  obtain ⟨R, hR⟩ : ∃ R, R = grow bs p m := ⟨_, rfl⟩
  rw [← hR]
  have HR := Lib.hid (hR.trans e)
  have c0 : decide ((C : Int) < 0) = false := by simp
  have c1 : decide (m < (C : Int)) = false := by simp; omega
  have hCm : (C : Int) ≤ m := by omega
  obtain ⟨i0, hi, hz0, hz1, hz2⟩ := info_parts info_int
  have HI := Lib.hid hi
  have HZ0 := Lib.hid hz0
  have HZ1 := Lib.hid hz1
  have HZ2 := Lib.hid hz2
  clear hi hz0 hz1 hz2 e hR he h0 h1 hC
  go_enter Tryd.func49, Tryd.ntmps49
  go_wp2_with fail
  refine (G1.out _ HS.out).mono ?_
  rintro e w1 ⟨rfl, rfl⟩
  go_wp2_with fail
  go_loopw [1, 11, 33] (fun q l i wr => RRel bs C R w q l i wr) (fun _ _ i _ => C - (intOf i).toNat)
  case atStart => exact ⟨0, [], gP bs p, by omega, rfl, rfl, rfl, SL.nil _ _ _ _, by rw [HR.out]; exact cg_nil _ _ _, Later.refl _⟩
  case round =>
    obtain ⟨j, acc, a, hj, rfl, rfl, hl, hS, hc, hg⟩ := hrel
    have HL := Lib.hid hS
    have HC := Lib.hid hc
    have HG := Lib.hid hg
    have HN := Lib.hid hl
    clear hS hc hg hl
    by_cases hlt : j < C
    · have hCj : C - j = C - (j + 1) + 1 := by omega
      have HJ := Lib.hid hCj
      clear hCj
      by_cases he : gE bs a = 0
      · have t1 : (gE bs a != 0) = false := by simpa using he
        have HE := Lib.hid he
        clear he
        go_wp2_with fail
        refine (G.out _ _ (HS.out.later HG.out)).mono ?_
        rintro e w1 ⟨rfl, rfl⟩
        go_wp2_with (at_builtin; go_loud (refine wpList_append_own _ rfl _ _ 52 rfl w.heap.size 3 i0 (.int .i64 0) 1 8 Tryd.underlying52 HI.out HZ0.out HZ1.out HZ2.out rfl (by decide) _ _ _ rfl (World.ownsRow.alloc HL.out _) ⟨wr.heap.size, 0, none⟩ 1 1 [.int .i64 (gN bs a)] rfl rfl (cell_one_new _ _ _) (by simp [Value.oneCell']) (by have := HN.out; simp only [maxLen]; omega) (by have := HN.out; omega) (by have := HG.out.size; simp only [World.size_alloc] at this ⊢; omega) ?_); go_loud (intro v' w4 hown' hgrow _; have HG4 := Lib.hid (later_grown (HG.out.put _) (HL.out.later ((Later.refl _).put _)) hgrow); have HO4 : Hid (SL .i64 3 w4 w.heap.size v' (acc ++ [gN bs a])) := Lib.hid (by unfold SL; rw [List.length_append, List.map_append]; exact hown'); clear hown' hgrow))
        go_roundw
        case rel => exact ⟨j + 1, acc ++ [gN bs a], gP bs a, by omega, by go_num, rfl, by have := HN.out; simp; omega, HO4.out, by rw [HC.out, HJ.out]; exact cg_on _ _ _ _ HE.out, HG4.out⟩
        case measure => simp [intOf]; omega
      · have t1 : (gE bs a != 0) = true := by simpa using he
        have HE := Lib.hid (cg_err bs acc (C - (j + 1)) a he)
        clear he
        go_wp2_with fail
        refine (G.out _ _ (HS.out.later HG.out)).mono ?_
        rintro e w1 ⟨rfl, rfl⟩
        go_wp2
        go_ret3
        refine ⟨_, ret3v ?_ ?_, ?_, HG.out⟩
        · rw [HC.out, HJ.out, HE.out]
        · rw [HC.out, HJ.out, HE.out]
        · rw [HC.out, HJ.out, HE.out]; exact SL.nil _ _ _ _
    · have hJ : C - j = 0 := by omega
      have HJ := Lib.hid hJ
      clear hJ
      go_wp2
      go_ret3
      have F : R = (acc, a, 0) := by rw [HC.out, HJ.out]; simp [gn, cg]
      rw [F]
      exact ⟨_, rfl, HL.out, HG.out⟩

theorem getrow_any (bs : List Int) (p m : Int) (v : Value) (w : World) (hs : Sk .u8 w v bs) (hb : ∀ x ∈ bs, 0 ≤ x ∧ x ≤ 255) (hm : m ≤ 1000) :
    Calls Tryd.prog 49 #[v, .int .i64 p, .int .i64 m] w fun e w' => ∃ u, e = .returned (.tuple #[u, .int .i64 (grow bs p m).2.1, .int .i64 (grow bs p m).2.2]) ∧ SL .i64 3 w' w.heap.size u (grow bs p m).1 ∧ Later w w' := by
  by_cases h : gE bs p = 0 ∧ 0 ≤ gN bs p ∧ gN bs p ≤ m
  · exact getrow_yes bs p m v w hs hb hm h
  · exact getrow_no bs p m v w hs hb h

end Go.Proofs.YtdljmpaabpkmkaaDoor.Wire
