/-
  What the program's sunset answers of months: the minutes of some, and of a month and the next one. Conditions: the month is from 1 to 12.
-/
import Derived.Test.YthbgllbbliijlaaZi
import Derived.Test.YthbgllbbliijlaaSu
namespace Go.Proofs.Ythbgllbbliijlaa.Sun
open Go.ChangeShapes Go.WideShapes Go.ChangeAt Go.RowKit
open Go.Proofs.Ythbgllbbliijlaa.Divs Go.Proofs.Ythbgllbbliijlaa.Grow Go.Proofs.Ythbgllbbliijlaa.Zone
open Go.Proofs.Ythbgllbbliijlaa.Zo Go.Proofs.Ythbgllbbliijlaa.Su
def sc (s : Nat → Int) : Array Value := #[.int .i64 (s 0), .int .i64 (s 1), .int .i64 (s 2), .int .i64 (s 3), .int .i64 (s 4), .int .i64 (s 5), .int .i64 (s 6), .int .i64 (s 7), .int .i64 (s 8), .int .i64 (s 9), .int .i64 (s 10), .int .i64 (s 11)]

theorem sc_get (s : Nat → Int) (i : Nat) (h : i < 12) : (sc s)[i]? = some (.int .i64 (s i)) := by
  obtain rfl | rfl | rfl | rfl | rfl | rfl | rfl | rfl | rfl | rfl | rfl | rfl : i = 0 ∨ i = 1 ∨ i = 2 ∨ i = 3 ∨ i = 4 ∨ i = 5 ∨ i = 6 ∨ i = 7 ∨ i = 8 ∨ i = 9 ∨ i = 10 ∨ i = 11 := by omega
  all_goals rfl

theorem make_two : ∀ W : World, (Instr.makeSlice 22 (.int .i64 0) (.int .i64 2)).run Try.prog W = .ok (.slice (some ⟨W.heap.size, 0, none⟩) 0 2) (W.alloc (.cells #[.int .i64 0, .int .i64 0] 3)) := by
  intro W
  obtain ⟨i0, hi, hz0, hz1, hz2⟩ := info_parts info_int
  have := run_make (P := Try.prog) W 22 3 i0 (.int .i64 0) Try.underlying22 hi hz0 .i64 .i64 0 2 (by omega) (by omega) (by rw [hz2]; decide) (by decide)
  rw [hz1] at this
  have e : madeCells (Value.int .i64 0).cells (Int.toNat 2 * 1) = #[.int .i64 0, .int .i64 0] := by kernel_rfl
  rw [e] at this
  exact this

def MRel (s : Nat → Int) (m : Int) (w : World) (v i : Value) (wr : World) : Prop :=
  ∃ k : Nat, k ≤ 2 ∧ i = .int .i64 (k : Int) ∧ SL wr (w.alloc (.cells (sc s) 30)).heap.size v ([s (m.toNat - 1), s (m.toNat % 12)].take k) ∧ Later (w.alloc (.cells (sc s) 30)) wr

set_option maxHeartbeats 1000000 in
theorem minutes_any (s : Nat → Int) (m : Int) (g : Nat) (w : World) (h1 : 1 ≤ m) (h2 : m ≤ 12) (c0 : w.cell? ⟨g, 0, none⟩ = some (.int .i64 m)) (c1 : w.cell? ⟨g, 1, none⟩ = some (.int .i64 (m + 1))) :
    Calls Try.prog 52 #[.agg (sc s), .slice (some ⟨g, 0, none⟩) 2 2] w fun e w' => ∃ v, e = .returned v ∧ Sl w' v [s (m.toNat - 1), s (m.toNat % 12)] ∧ Later w w' := by
  have mk := make_two
  obtain ⟨i0, hi, hz0, hz1, hz2⟩ := info_parts info_int
  have HI := Lib.hid hi
  have HZ0 := Lib.hid hz0
  have HZ1 := Lib.hid hz1
  have HZ2 := Lib.hid hz2
  clear hi hz0 hz1 hz2
  have HC0 := Lib.hid c0
  have HC1 := Lib.hid c1
  clear c0 c1
  have HS : Hid (sc s = #[.int .i64 (s 0), .int .i64 (s 1), .int .i64 (s 2), .int .i64 (s 3), .int .i64 (s 4), .int .i64 (s 5), .int .i64 (s 6), .int .i64 (s 7), .int .i64 (s 8), .int .i64 (s 9), .int .i64 (s 10), .int .i64 (s 11)]) := Lib.hid (rfl : sc s = _)
  rw [HS.out]
  go_enter Try.func52, Try.ntmps52
  go_wp2
  go_loopw [5, 13] (fun v i wr => MRel s m w v i wr) (fun _ i _ => 2 - (intOf i).toNat)
  case atStart =>
    refine ⟨0, by omega, rfl, ?_, (Later.refl _).alloc _ _⟩
    have := World.ownsRow_made (base := (w.alloc (.cells (sc s) 30)).heap.size) (e := 3) (size := 1) (w.alloc (.cells (sc s) 30)) #[.int .i64 0, .int .i64 0] 2 (Nat.le_refl _) (by decide) rfl
    simpa [SL, HS.out] using this
  case round =>
    obtain ⟨k, hk, rfl, hs, hg⟩ := hrel
    clear mk
    have HG := Lib.hid hg
    have HO := Lib.hid hs
    clear hs hg
    obtain rfl | rfl | rfl : k = 0 ∨ k = 1 ∨ k = 2 := by omega
    · have c0 := gsome HG.out (gsome ((Later.refl w).alloc (sc s) 30) HC0.out)
      have x0 : wr.cell? ⟨w.heap.size, ((m - 1) % 12).toNat, none⟩ = some (.int .i64 (s (m.toNat - 1))) := by
        refine gsome HG.out ?_
        rw [World.cell?_alloc_new, show ((m - 1) % 12).toNat = m.toNat - 1 by omega]
        exact sc_get s _ (by omega)
      go_wp2_with (at_builtin; go_loud (refine wpList_append_own _ rfl _ _ 22 rfl (w.alloc (.cells (sc s) 30)).heap.size 3 i0 (.int .i64 0) 1 8 Try.underlying22 HI.out HZ0.out HZ1.out HZ2.out rfl (by decide) _ _ _ rfl (World.ownsRow.alloc HO.out _) ⟨wr.heap.size, 0, none⟩ 1 1 [.int .i64 (s (m.toNat - 1))] rfl rfl (cell_one_new _ _ _) (by simp [Value.oneCell']) (by simp only [maxLen]; simp) (by simp) (by have := HG.out.size; simp only [World.size_alloc] at this ⊢; omega) ?_); go_loud (intro v' w4 hown' hgrow _; have HG4 := Lib.hid (later_grown (HG.out.put _) (HO.out.later ((Later.refl _).put _)) hgrow); have HO4 : Hid (SL w4 (w.alloc (.cells (sc s) 30)).heap.size v' (List.take 1 [s (m.toNat - 1), s (m.toNat % 12)])) := Lib.hid (by unfold SL; exact hown'); clear hown' hgrow))
      go_roundw
      case rel => exact ⟨1, by omega, by go_num, HO4.out, HG4.out⟩
      case measure => simp [intOf]
    · have c1 := gsome HG.out (gsome ((Later.refl w).alloc (sc s) 30) HC1.out)
      have x1 : wr.cell? ⟨w.heap.size, (m % 12).toNat, none⟩ = some (.int .i64 (s (m.toNat % 12))) := by
        refine gsome HG.out ?_
        rw [World.cell?_alloc_new, show (m % 12).toNat = m.toNat % 12 by omega]
        exact sc_get s _ (by omega)
      go_wp2_with (at_builtin; go_loud (refine wpList_append_own _ rfl _ _ 22 rfl (w.alloc (.cells (sc s) 30)).heap.size 3 i0 (.int .i64 0) 1 8 Try.underlying22 HI.out HZ0.out HZ1.out HZ2.out rfl (by decide) _ _ _ rfl (World.ownsRow.alloc HO.out _) ⟨wr.heap.size, 0, none⟩ 1 1 [.int .i64 (s (m.toNat % 12))] rfl rfl (cell_one_new _ _ _) (by simp [Value.oneCell']) (by simp only [maxLen]; simp) (by simp) (by have := HG.out.size; simp only [World.size_alloc] at this ⊢; omega) ?_); go_loud (intro v' w4 hown' hgrow _; have HG4 := Lib.hid (later_grown (HG.out.put _) (HO.out.later ((Later.refl _).put _)) hgrow); have HO4 : Hid (SL w4 (w.alloc (.cells (sc s) 30)).heap.size v' (List.take 2 [s (m.toNat - 1), s (m.toNat % 12)])) := Lib.hid (by unfold SL; exact hown'); clear hown' hgrow))
      go_roundw
      case rel => exact ⟨2, by omega, by go_num, HO4.out, HG4.out⟩
      case measure => simp [intOf]
    · have HO2 : Hid (Sl wr _ [s (m.toNat - 1), s (m.toNat % 12)]) := Lib.hid HO.out.sl
      go_wp2
      go_ret
      exact ⟨_, rfl, HO2.out, gtrans ((Later.refl w).alloc _ _) HG.out⟩

theorem within_any (n a b : Int) (w : World) : Calls Try.prog 49 #[.int .i64 n, .int .i64 a, .int .i64 b] w fun e w' => e = .returned (.bool (wiB n a b)) ∧ w = w' := by
  by_cases h : a ≤ n
  · have t : decide (a ≤ n) = true := by simpa using h
    have HV : Hid (wiB n a b = decide (n ≤ b)) := by
      have : wiB n a b = decide (n ≤ b) := by unfold wiB; rw [t]; rfl
      exact this
    clear h
    go_enter Try.func49, Try.ntmps49
    go_wp2
    go_ret
    exact ⟨retb HV.out.symm, rfl⟩
  · have t : decide (a ≤ n) = false := by simpa using h
    have HV : Hid (wiB n a b = false) := by
      have : wiB n a b = false := by unfold wiB; rw [t]; rfl
      exact this
    clear h
    go_enter Try.func49, Try.ntmps49
    go_wp2
    go_ret
    exact ⟨retb HV.out.symm, rfl⟩
end Go.Proofs.Ythbgllbbliijlaa.Sun
