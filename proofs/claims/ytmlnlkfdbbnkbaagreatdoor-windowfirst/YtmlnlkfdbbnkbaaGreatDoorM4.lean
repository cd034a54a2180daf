/-
  Texts of mine, merged: each part says what it holds. Conditions: as each theorem states.
-/
import Derived.Test.YtmlnlkfdbbnkbaaGreatDoorM3

/- What the program's sunset answers of months: the minutes of some, and of a month and the next one. Conditions: the month is from 1 to 12. -/
namespace Go.Proofs.YtmlnlkfdbbnkbaaGreatDoor.Sun
set_option maxRecDepth 100000
open Go.ChangeShapes Go.WideShapes Go.ChangeAt Go.RowKit
open Go.Proofs.YtmlnlkfdbbnkbaaGreatDoor.Divs Go.Proofs.YtmlnlkfdbbnkbaaGreatDoor.Grow Go.Proofs.YtmlnlkfdbbnkbaaGreatDoor.Zone
open Go.Proofs.YtmlnlkfdbbnkbaaGreatDoor.Greg (Laid)
open Go.Proofs.YtmlnlkfdbbnkbaaGreatDoor.Zo Go.Proofs.YtmlnlkfdbbnkbaaGreatDoor.Su
def sc (s : Nat → Int) : Array Value := #[.int .i64 (s 0), .int .i64 (s 1), .int .i64 (s 2), .int .i64 (s 3), .int .i64 (s 4), .int .i64 (s 5), .int .i64 (s 6), .int .i64 (s 7), .int .i64 (s 8), .int .i64 (s 9), .int .i64 (s 10), .int .i64 (s 11)]

theorem sc_get (s : Nat → Int) (i : Nat) (h : i < 12) : (sc s)[i]? = some (.int .i64 (s i)) := by
  obtain rfl | rfl | rfl | rfl | rfl | rfl | rfl | rfl | rfl | rfl | rfl | rfl : i = 0 ∨ i = 1 ∨ i = 2 ∨ i = 3 ∨ i = 4 ∨ i = 5 ∨ i = 6 ∨ i = 7 ∨ i = 8 ∨ i = 9 ∨ i = 10 ∨ i = 11 := by omega
  all_goals rfl

theorem make_two : ∀ W : World, (Instr.makeSlice 22 (.int .i64 0) (.int .i64 2)).run Tryz.prog W = .ok (.slice (some ⟨W.heap.size, 0, none⟩) 0 2) (W.alloc (.cells #[.int .i64 0, .int .i64 0] 3)) := by
  intro W
  obtain ⟨i0, hi, hz0, hz1, hz2⟩ := info_parts info_int
  have := run_make (P := Tryz.prog) W 22 3 i0 (.int .i64 0) Tryz.underlying22 hi hz0 .i64 .i64 0 2 (by omega) (by omega) (by rw [hz2]; decide) (by decide)
  rw [hz1] at this
  have e : madeCells (Value.int .i64 0).cells (Int.toNat 2 * 1) = #[.int .i64 0, .int .i64 0] := by kernel_rfl
  rw [e] at this
  exact this

def MRel (s : Nat → Int) (m : Int) (w : World) (v i : Value) (wr : World) : Prop :=
  ∃ k : Nat, k ≤ 2 ∧ i = .int .i64 (k : Int) ∧ SL wr (w.alloc (.cells (sc s) 30)).heap.size v ([s (m.toNat - 1), s (m.toNat % 12)].take k) ∧ Later (w.alloc (.cells (sc s) 30)) wr

set_option maxHeartbeats 1000000 in
theorem minutes_any (s : Nat → Int) (m : Int) (g : Nat) (w : World) (h1 : 1 ≤ m) (h2 : m ≤ 12) (c0 : w.cell? ⟨g, 0, none⟩ = some (.int .i64 m)) (c1 : w.cell? ⟨g, 1, none⟩ = some (.int .i64 (m + 1))) :
    Calls Tryz.prog 135 #[.agg (sc s), .slice (some ⟨g, 0, none⟩) 2 2] w fun e w' => ∃ v, e = .returned v ∧ Sl w' v [s (m.toNat - 1), s (m.toNat % 12)] ∧ Later w w' := by
  have mk := make_two
  obtain ⟨i0, hi, hz0, hz1, hz2⟩ := info_parts info_int
  have HI := Lib.hid hi
  have HZ0 := Lib.hid hz0
  have HZ1 := Lib.hid hz1
  have HZ2 := Lib.hid hz2
  clear hi hz0 hz1 hz2
  have HC0 := Lib.hid c0
  have HC1 := Lib.hid c1
  clear c0 c1
  have HS : Hid (sc s = #[.int .i64 (s 0), .int .i64 (s 1), .int .i64 (s 2), .int .i64 (s 3), .int .i64 (s 4), .int .i64 (s 5), .int .i64 (s 6), .int .i64 (s 7), .int .i64 (s 8), .int .i64 (s 9), .int .i64 (s 10), .int .i64 (s 11)]) := Lib.hid (rfl : sc s = _)
  rw [HS.out]
  go_enter Tryz.func135, Tryz.ntmps135
  go_wp2
  go_loopw [5, 13] (fun v i wr => MRel s m w v i wr) (fun _ i _ => 2 - (intOf i).toNat)
  case atStart =>
    refine ⟨0, by omega, rfl, ?_, (Later.refl _).alloc _ _⟩
    have := World.ownsRow_made (base := (w.alloc (.cells (sc s) 30)).heap.size) (e := 3) (size := 1) (w.alloc (.cells (sc s) 30)) #[.int .i64 0, .int .i64 0] 2 (Nat.le_refl _) (by decide) rfl
    simpa [SL, HS.out] using this
  case round =>
    obtain ⟨k, hk, rfl, hs, hg⟩ := hrel
    clear mk
    have HG := Lib.hid hg
    have HO := Lib.hid hs
    clear hs hg
    obtain rfl | rfl | rfl : k = 0 ∨ k = 1 ∨ k = 2 := by omega
    · have c0 := gsome HG.out (gsome ((Later.refl w).alloc (sc s) 30) HC0.out)
      have x0 : wr.cell? ⟨w.heap.size, ((m - 1) % 12).toNat, none⟩ = some (.int .i64 (s (m.toNat - 1))) := by
        refine gsome HG.out ?_
        rw [World.cell?_alloc_new, show ((m - 1) % 12).toNat = m.toNat - 1 by omega]
        exact sc_get s _ (by omega)
      go_wp2_with (at_builtin; go_loud (refine wpList_append_own _ rfl _ _ 22 rfl (w.alloc (.cells (sc s) 30)).heap.size 3 i0 (.int .i64 0) 1 8 Tryz.underlying22 HI.out HZ0.out HZ1.out HZ2.out rfl (by decide) _ _ _ rfl (World.ownsRow.alloc HO.out _) ⟨wr.heap.size, 0, none⟩ 1 1 [.int .i64 (s (m.toNat - 1))] rfl rfl (cell_one_new _ _ _) (by simp [Value.oneCell']) (by simp only [maxLen]; simp) (by simp) (by have := HG.out.size; simp only [World.size_alloc] at this ⊢; omega) ?_); go_loud (intro v' w4 hown' hgrow _; have HG4 := Lib.hid (later_grown (HG.out.put _) (HO.out.later ((Later.refl _).put _)) hgrow); have HO4 : Hid (SL w4 (w.alloc (.cells (sc s) 30)).heap.size v' (List.take 1 [s (m.toNat - 1), s (m.toNat % 12)])) := Lib.hid (by unfold SL; exact hown'); clear hown' hgrow))
      go_roundw
      case rel => exact ⟨1, by omega, by go_num, HO4.out, HG4.out⟩
      case measure => simp [intOf]
    · have c1 := gsome HG.out (gsome ((Later.refl w).alloc (sc s) 30) HC1.out)
      have x1 : wr.cell? ⟨w.heap.size, (m % 12).toNat, none⟩ = some (.int .i64 (s (m.toNat % 12))) := by
        refine gsome HG.out ?_
        rw [World.cell?_alloc_new, show (m % 12).toNat = m.toNat % 12 by omega]
        exact sc_get s _ (by omega)
      go_wp2_with (at_builtin; go_loud (refine wpList_append_own _ rfl _ _ 22 rfl (w.alloc (.cells (sc s) 30)).heap.size 3 i0 (.int .i64 0) 1 8 Tryz.underlying22 HI.out HZ0.out HZ1.out HZ2.out rfl (by decide) _ _ _ rfl (World.ownsRow.alloc HO.out _) ⟨wr.heap.size, 0, none⟩ 1 1 [.int .i64 (s (m.toNat % 12))] rfl rfl (cell_one_new _ _ _) (by simp [Value.oneCell']) (by simp only [maxLen]; simp) (by simp) (by have := HG.out.size; simp only [World.size_alloc] at this ⊢; omega) ?_); go_loud (intro v' w4 hown' hgrow _; have HG4 := Lib.hid (later_grown (HG.out.put _) (HO.out.later ((Later.refl _).put _)) hgrow); have HO4 : Hid (SL w4 (w.alloc (.cells (sc s) 30)).heap.size v' (List.take 2 [s (m.toNat - 1), s (m.toNat % 12)])) := Lib.hid (by unfold SL; exact hown'); clear hown' hgrow))
      go_roundw
      case rel => exact ⟨2, by omega, by go_num, HO4.out, HG4.out⟩
      case measure => simp [intOf]
    · have HO2 : Hid (Sl wr _ [s (m.toNat - 1), s (m.toNat % 12)]) := Lib.hid HO.out.sl
      go_wp2
      go_ret
      exact ⟨_, rfl, HO2.out, gtrans ((Later.refl w).alloc _ _) HG.out⟩

theorem within_any (n a b : Int) (w : World) : Calls Tryz.prog 119 #[.int .i64 n, .int .i64 a, .int .i64 b] w fun e w' => e = .returned (.bool (wiB n a b)) ∧ w = w' := by
  by_cases h : a ≤ n
  · have t : decide (a ≤ n) = true := by simpa using h
    have HV : Hid (wiB n a b = decide (n ≤ b)) := by
      have : wiB n a b = decide (n ≤ b) := by unfold wiB; rw [t]; rfl
      exact this
    clear h
    go_enter Tryz.func119, Tryz.ntmps119
    go_wp2
    go_ret
    exact ⟨retb HV.out.symm, rfl⟩
  · have t : decide (a ≤ n) = false := by simpa using h
    have HV : Hid (wiB n a b = false) := by
      have : wiB n a b = false := by unfold wiB; rw [t]; rfl
      exact this
    clear h
    go_enter Tryz.func119, Tryz.ntmps119
    go_wp2
    go_ret
    exact ⟨retb HV.out.symm, rfl⟩
end Go.Proofs.YtmlnlkfdbbnkbaaGreatDoor.Sun

/- Whether a table of sunsets may be, by the program's Check. No condition. -/
namespace Go.Proofs.YtmlnlkfdbbnkbaaGreatDoor.Sun
set_option maxRecDepth 100000
open Go.ChangeShapes Go.WideShapes Go.ChangeAt Go.RowKit
open Go.Proofs.YtmlnlkfdbbnkbaaGreatDoor.Divs Go.Proofs.YtmlnlkfdbbnkbaaGreatDoor.Grow Go.Proofs.YtmlnlkfdbbnkbaaGreatDoor.Zone
open Go.Proofs.YtmlnlkfdbbnkbaaGreatDoor.Greg (Laid)
open Go.Proofs.YtmlnlkfdbbnkbaaGreatDoor.Zo Go.Proofs.YtmlnlkfdbbnkbaaGreatDoor.Su

theorem sl_two {W : World} {v : Value} {a b : Int} (h : Sl W v [a, b]) : ∃ g cap, v = .slice (some ⟨g, 0, none⟩) 2 cap ∧ W.cell? ⟨g, 0, none⟩ = some (.int .i64 a) ∧ W.cell? ⟨g, 1, none⟩ = some (.int .i64 b) := by
  rcases h with ⟨h, _⟩ | ⟨g, cap, e, h⟩
  · exact absurd h (by simp)
  · exact ⟨g, cap, e, h 0 a rfl, h 1 b rfl⟩

theorem next_any (s : Nat → Int) (m : Int) (w : World) (h1 : 1 ≤ m) (h2 : m ≤ 12) :
    Calls Tryz.prog 120 #[.agg (sc s), .int .i64 m] w fun e w' => e = .returned (.tuple #[.int .i64 (s (m.toNat - 1)), .int .i64 (s (m.toNat % 12))]) ∧ Later w w' := by
  have M := Lib.hid (fun g W c0 c1 => minutes_any s m g W h1 h2 c0 c1)
  unfold sc
  go_enter Tryz.func120, Tryz.ntmps120
  go_wp2_with fail
  refine (M.out _ _ (by simp) (by simp)).mono ?_
  rintro e w1 ⟨v, rfl, hv, hg1⟩
  obtain ⟨g, cap, rfl, c0, c1⟩ := sl_two hv
  have HG1 := Lib.hid (gtrans (((Later.refl w).alloc _ _).alloc _ _) hg1)
  clear hg1 hv
  go_wp2_with fail
  go_quiet (fail)
  go_wp2_with fail
  go_ret2
  exact ⟨rfl, HG1.out⟩

/-- A table lies in the block a. -/
def Sat (w : World) (a : Nat) (s : Nat → Int) : Prop := ∀ i, i < 12 → w.cell? ⟨a, i, none⟩ = some (.int .i64 (s i))

theorem Sat.new (w : World) (s : Nat → Int) : Sat (w.alloc (.cells (sc s) 30)) w.heap.size s := by
  intro i hi
  rw [World.cell?_alloc_new]
  exact sc_get s i hi

theorem Sat.later {w w1 : World} {a : Nat} {s : Nat → Int} (h : Sat w a s) (g : Later w w1) : Sat w1 a s := fun i hi => gsome g (h i hi)

theorem Sat.all {w : World} {a : Nat} {s : Nat → Int} (h : Sat w a s) : w.cell? ⟨a, 0, none⟩ = some (.int .i64 (s 0)) ∧ w.cell? ⟨a, 1, none⟩ = some (.int .i64 (s 1)) ∧ w.cell? ⟨a, 2, none⟩ = some (.int .i64 (s 2)) ∧ w.cell? ⟨a, 3, none⟩ = some (.int .i64 (s 3)) ∧ w.cell? ⟨a, 4, none⟩ = some (.int .i64 (s 4)) ∧ w.cell? ⟨a, 5, none⟩ = some (.int .i64 (s 5)) ∧ w.cell? ⟨a, 6, none⟩ = some (.int .i64 (s 6)) ∧ w.cell? ⟨a, 7, none⟩ = some (.int .i64 (s 7)) ∧ w.cell? ⟨a, 8, none⟩ = some (.int .i64 (s 8)) ∧ w.cell? ⟨a, 9, none⟩ = some (.int .i64 (s 9)) ∧ w.cell? ⟨a, 10, none⟩ = some (.int .i64 (s 10)) ∧ w.cell? ⟨a, 11, none⟩ = some (.int .i64 (s 11)) :=
  ⟨h 0 (by omega), h 1 (by omega), h 2 (by omega), h 3 (by omega), h 4 (by omega), h 5 (by omega), h 6 (by omega), h 7 (by omega), h 8 (by omega), h 9 (by omega), h 10 (by omega), h 11 (by omega)⟩

/-- A table's minute, by its place. -/
theorem index_any (s : Nat → Int) (k : Nat) (hk : k < 12) : ∀ W : World, (Instr.index 30 (.agg (sc s)) (.int .i64 (k : Int))).run Tryz.prog W = .ok (.int .i64 (s k)) W := by
  intro W
  obtain rfl | rfl | rfl | rfl | rfl | rfl | rfl | rfl | rfl | rfl | rfl | rfl : k = 0 ∨ k = 1 ∨ k = 2 ∨ k = 3 ∨ k = 4 ∨ k = 5 ∨ k = 6 ∨ k = 7 ∨ k = 8 ∨ k = 9 ∨ k = 10 ∨ k = 11 := by omega
  all_goals kernel_rfl

/-- The minutes of k months are from 900 to 1320. -/
def CRel (s : Nat → Int) (i : Value) : Prop := ∃ k : Nat, k ≤ 12 ∧ i = .int .i64 (k : Int) ∧ ∀ j, j < k → 900 ≤ s j ∧ s j ≤ 1320

/-- The steps of k months are so. -/
def DRel (s : Nat → Int) (w : World) (i : Value) (wr : World) : Prop := ∃ k : Nat, k ≤ 12 ∧ i = .int .i64 ((k : Int) + 1) ∧ (∀ j, j < k → -120 ≤ s ((j + 1) % 12) - s j ∧ s ((j + 1) % 12) - s j ≤ 120) ∧ Later w wr

theorem reti {a b : Int} (h : a = b) : Ending.returned (.int .i64 a) = .returned (.int .i64 b) := by rw [h]

set_option maxHeartbeats 1000000 in
theorem check_any (s : Nat → Int) (w : World) : Calls Tryz.prog 98 #[.agg (sc s)] w fun e w' => e = .returned (.int .i64 (sk s)) ∧ Later w w' := by
  have K := Lib.hid (fun n a b W => within_any n a b W)
  have X := Lib.hid (next_any s)
  have IX := Lib.hid (index_any s)
  have HN := Lib.hid (Sat.new w s)
  have HG := Lib.hid ((Later.refl w).alloc (sc s) 30)
  unfold sc at *
  go_enter Tryz.func98, Tryz.ntmps98
  go_wp2
  go_loop [9] (fun i => CRel s i) (fun i => 12 - (intOf i).toNat)
  case atStart => exact ⟨0, by omega, rfl, by omega⟩
  case round =>
    obtain ⟨k, hk, rfl, hj⟩ := hrel
    by_cases hlt : k < 12
    · have ix := IX.out k hlt
      cases hw : wiB (s k) 900 1320 with
      | false =>
        have HV := Lib.hid (sk_m s k hlt (mt (wiB_iff _ _ _).2 (by rw [hw]; simp)))
        clear hj
        go_wp2_with (go_at_call 119; refine (K.out _ _ _ _).mono ?_; rintro e w1 ⟨rfl, rfl⟩)
        go_ret
        exact ⟨reti HV.out.symm, HG.out⟩
      | true =>
        have hin := (wiB_iff _ _ _).1 hw
        have HJ : Hid (∀ j, j < k + 1 → 900 ≤ s j ∧ s j ≤ 1320) := Lib.hid (fun j h => by
          by_cases e : j = k
          · rw [e]; exact hin
          · exact hj j (by omega))
        clear hj hin
        go_wp2_with (go_at_call 119; refine (K.out _ _ _ _).mono ?_; rintro e w1 ⟨rfl, rfl⟩)
        go_round
        case rel => exact ⟨k + 1, by omega, by go_num, HJ.out⟩
        case measure => simp [intOf]; omega
    · obtain rfl : k = 12 := by omega
      have HM : Hid (okM s) := Lib.hid hj
      clear hj hlt hk
      go_wp2
      go_loopw [5] (fun i wr => DRel s (w.alloc (.cells #[.int .i64 (s 0), .int .i64 (s 1), .int .i64 (s 2), .int .i64 (s 3), .int .i64 (s 4), .int .i64 (s 5), .int .i64 (s 6), .int .i64 (s 7), .int .i64 (s 8), .int .i64 (s 9), .int .i64 (s 10), .int .i64 (s 11)] 30)) i wr) (fun i _ => 13 - (intOf i).toNat)
      case atStart => exact ⟨0, by omega, rfl, by omega, Later.refl _⟩
      case round =>
        obtain ⟨k, hk, rfl, hj, hg⟩ := hrel
        have HGR := Lib.hid hg
        clear hg
        by_cases hlt : k < 12
        · obtain ⟨k0, k1, k2, k3, k4, k5, k6, k7, k8, k9, k10, k11⟩ := (HN.out.later HGR.out).all
          have b0 := HM.out k hlt
          have b1 := HM.out ((k + 1) % 12) (by omega)
          go_wp2_with fail
          refine (X.out _ _ (by omega) (by omega)).mono ?_
          rintro e w1 ⟨rfl, hg1⟩
          have HG1 := Lib.hid (gtrans HGR.out hg1)
          clear hg1 k0 k1 k2 k3 k4 k5 k6 k7 k8 k9 k10 k11
          rw [show ((k : Int) + 1).toNat - 1 = k by omega, show ((k : Int) + 1).toNat = k + 1 by omega]
          cases hw : wiB (s ((k + 1) % 12) - s k) (-120) 120 with
          | false =>
            have HV := Lib.hid (sk_s s k hlt HM.out (mt (wiB_iff _ _ _).2 (by rw [hw]; simp)))
            clear hj
            go_wp2_with (go_at_call 119; refine (K.out _ _ _ _).mono ?_; rintro e w1 ⟨rfl, rfl⟩)
            go_ret
            exact ⟨reti HV.out.symm, gtrans HG.out HG1.out⟩
          | true =>
            have hin := (wiB_iff _ _ _).1 hw
            have HJ : Hid (∀ j, j < k + 1 → -120 ≤ s ((j + 1) % 12) - s j ∧ s ((j + 1) % 12) - s j ≤ 120) := Lib.hid (fun j h => by
              by_cases e : j = k
              · rw [e]; exact hin
              · exact hj j (by omega))
            clear hj hin
            go_wp2_with (go_at_call 119; refine (K.out _ _ _ _).mono ?_; rintro e w1 ⟨rfl, rfl⟩)
            go_roundw
            case rel => exact ⟨k + 1, by omega, by go_num, HJ.out, HG1.out⟩
            case measure => simp [intOf]; omega
        · obtain rfl : k = 12 := by omega
          have HV := Lib.hid ((sk_ok s).2 ⟨HM.out, hj⟩)
          clear hj hlt hk
          go_wp2
          go_ret
          exact ⟨reti HV.out.symm, gtrans HG.out HGR.out⟩

end Go.Proofs.YtmlnlkfdbbnkbaaGreatDoor.Sun

/- When the sun sets, and the instant at which it does, by the program's At and Moment. Conditions: the numbers are ints, the table of months lies where the program lays it. -/
namespace Go.Proofs.YtmlnlkfdbbnkbaaGreatDoor.Sun
set_option maxRecDepth 100000
open Go.ChangeShapes Go.WideShapes Go.ChangeAt Go.RowKit
open Go.Proofs.YtmlnlkfdbbnkbaaGreatDoor.Divs Go.Proofs.YtmlnlkfdbbnkbaaGreatDoor.Grow Go.Proofs.YtmlnlkfdbbnkbaaGreatDoor.Zone
open Go.Proofs.YtmlnlkfdbbnkbaaGreatDoor.Greg (Laid)
open Go.Proofs.YtmlnlkfdbbnkbaaGreatDoor.Cal (dm yr om od)
open Go.Proofs.YtmlnlkfdbbnkbaaGreatDoor.Zo Go.Proofs.YtmlnlkfdbbnkbaaGreatDoor.Su

theorem ret2 {a b c d : Int} (h1 : a = c) (h2 : b = d) : Ending.returned (.tuple #[.int .i64 a, .int .i64 b]) = .returned (.tuple #[.int .i64 c, .int .i64 d]) := by rw [h1, h2]

theorem date_cell (w : World) (y m d : Int) : (w.alloc (.cells #[.int .i64 y, .int .i64 m, .int .i64 d] 129)).cell? ⟨w.heap.size, 0, none⟩ = some (.int .i64 y) ∧ (w.alloc (.cells #[.int .i64 y, .int .i64 m, .int .i64 d] 129)).cell? ⟨w.heap.size, 1, none⟩ = some (.int .i64 m) ∧ (w.alloc (.cells #[.int .i64 y, .int .i64 m, .int .i64 d] 129)).cell? ⟨w.heap.size, 2, none⟩ = some (.int .i64 d) := by
  refine ⟨?_, ?_, ?_⟩ <;> rw [World.cell?_alloc_new] <;> rfl

theorem at_bad (s : Nat → Int) (n : Int) (w : World) (h : ¬ sk s = 0) : Calls Tryz.prog 173 #[.agg (sc s), .int .i64 n] w fun e w' => e = .returned (.tuple #[.int .i64 (aV s n), .int .i64 (aE s n)]) ∧ Later w w' := by
  have C := Lib.hid (fun W => check_any s W)
  have e0 : (sk s != 0) = true := by simpa using h
  have hE : aE s n = sk s := by unfold aE; rw [if_neg h]
  have HE := Lib.hid hE
  have HV := Lib.hid (show aV s n = 0 by unfold aV; rw [if_neg (by rw [hE]; exact h)])
  clear h hE
  unfold sc at *
  go_enter Tryz.func173, Tryz.ntmps173
  go_wp2_with fail
  refine (C.out _).mono ?_
  rintro e w1 ⟨rfl, hg1⟩
  go_wp2_with fail
  go_ret2
  exact ⟨ret2 HV.out.symm HE.out.symm, gtrans ((Later.refl w).alloc _ _) hg1⟩

theorem at_day (s : Nat → Int) (n : Int) (w : World) (h : sk s = 0) (hn : n < 1 ∨ 3652059 < n) : Calls Tryz.prog 173 #[.agg (sc s), .int .i64 n] w fun e w' => e = .returned (.tuple #[.int .i64 (aV s n), .int .i64 (aE s n)]) ∧ Later w w' := by
  have C := Lib.hid (fun W => check_any s W)
  have O := Lib.hid (fun W => Greg.of_no n W hn)
  have e0 : (sk s != 0) = false := by simpa using h
  have hE : aE s n = 72 := by unfold aE; rw [if_pos h, if_neg (by omega)]
  have HE := Lib.hid hE
  have HV := Lib.hid (show aV s n = 0 by unfold aV; rw [if_neg (by rw [hE]; omega)])
  clear h hE hn
  unfold sc at *
  go_enter Tryz.func173, Tryz.ntmps173
  go_wp2_with fail
  refine (C.out _).mono ?_
  rintro e w1 ⟨rfl, hg1⟩
  go_wp2_with fail
  refine (O.out _).mono ?_
  rintro e w2 ⟨rfl, hg2⟩
  go_wp2_with fail
  go_ret2
  exact ⟨ret2 HV.out.symm HE.out.symm, gtrans ((Later.refl w).alloc _ _) (gtrans hg1 (hg2.alloc _ _))⟩

set_option maxHeartbeats 1000000 in
theorem at_yes (s : Nat → Int) (n : Int) (w : World) (hL : Laid w) (h : sk s = 0) (h1 : 1 ≤ n) (h2 : n ≤ 3652059) : Calls Tryz.prog 173 #[.agg (sc s), .int .i64 n] w fun e w' => e = .returned (.tuple #[.int .i64 (aV s n), .int .i64 (aE s n)]) ∧ Later w w' := by
  have C := Lib.hid (fun W => check_any s W)
  have O := Lib.hid (fun W hW => Greg.of_yes n W hW h1 h2)
  have hd := date_bd n h1 h2
  have hb := gone_bd s n h h1 h2
  have hx : ∀ W, Calls Tryz.prog 120 #[.agg (sc s), .int .i64 (om n)] W fun e w' => e = .returned (.tuple #[.int .i64 (ta s n), .int .i64 (tb s n)]) ∧ Later W w' := fun W => next_any s (om n) W hd.2.2.1 hd.2.2.2.1
  have X := Lib.hid hx
  have D := Lib.hid (fun W hW => same_g (Greg.days_any (yr n) (om n) W hW))
  have V := Lib.hid (fun W => drew_g (div_yes ((tb s n - ta s n) * (od n - 1)) (dm (yr n) (om n)) W (by omega) (by omega) (by omega) (by omega)))
  have e0 : (sk s != 0) = false := by simpa using h
  have hE : aE s n = 0 := (aE_ok s n).2 ⟨h, h1, h2⟩
  have HE := Lib.hid hE
  have HV : Hid (aV s n = ta s n + (tb s n - ta s n) * (od n - 1) / dm (yr n) (om n)) := Lib.hid (by unfold aV; rw [if_pos hE]; rfl)
  have hsa := sa_bd s n h h1 h2
  unfold sa at hsa
  have HN := Lib.hid (Sat.new w s)
  have HL := Lib.hid hL
  clear hL h hE h1 h2 hd hx
  obtain ⟨a0, a1, b0, b1, _, _, o0, o1, _, _, p0, p1⟩ := hb
  unfold sc at *
  go_enter Tryz.func173, Tryz.ntmps173
  go_wp2_with fail
  refine (C.out _).mono ?_
  rintro e w1 ⟨rfl, hg1⟩
  have HG1 := Lib.hid hg1
  clear hg1
  go_wp2_with fail
  refine (O.out _ (HL.out.grown (gtrans ((Later.refl w).alloc _ _) HG1.out))).mono ?_
  rintro e w2 ⟨rfl, hg2⟩
  have HG2 := Lib.hid (gtrans HG1.out hg2)
  clear hg2
  obtain ⟨k0, k1, k2, k3, k4, k5, k6, k7, k8, k9, k10, k11⟩ := (HN.out.later (HG2.out.alloc #[.int .i64 (yr n), .int .i64 (om n), .int .i64 (od n)] 129)).all
  go_wp2_with fail
  refine (X.out _).mono ?_
  rintro e w3 ⟨rfl, hg3⟩
  clear k0 k1 k2 k3 k4 k5 k6 k7 k8 k9 k10 k11
  have HG3 := Lib.hid hg3
  clear hg3
  go_wp2_with fail
  have d0 := gw_cell (gsome HG3.out (date_cell w2 (yr n) (om n) (od n)).1)
  have d1 := gw_cell (gsome HG3.out (date_cell w2 (yr n) (om n) (od n)).2.1)
  have d2 := gw_cell (gsome HG3.out (date_cell w2 (yr n) (om n) (od n)).2.2)
  have HL3 : Laid w3 := HL.out.grown (gtrans ((Later.refl w).alloc _ _) (gtrans (HG2.out.alloc _ _) HG3.out))
  refine region_grown (by kernel_rfl) (by kernel_rfl) ?_
  repeat (go_big_quiet_step (first | (go_at_call 110; exact in_grown (D.out _ (HL3.gw _))) | (go_at_call 59; exact in_grown (V.out _))))
  refine wpQuiet_nil (grown_end ?_)
  intro w4 hg4
  clear d0 d1 d2 HL3
  go_wp2_with fail
  go_ret2
  exact ⟨ret2 HV.out.symm HE.out.symm, gtrans ((Later.refl w).alloc _ _) (gtrans (HG2.out.alloc _ _) (gtrans HG3.out hg4))⟩

theorem at_any (s : Nat → Int) (n : Int) (w : World) (hL : Laid w) : Calls Tryz.prog 173 #[.agg (sc s), .int .i64 n] w fun e w' => e = .returned (.tuple #[.int .i64 (aV s n), .int .i64 (aE s n)]) ∧ Later w w' := by
  by_cases h : sk s = 0
  · by_cases hn : 1 ≤ n ∧ n ≤ 3652059
    · exact at_yes s n w hL h hn.1 hn.2
    · exact at_day s n w h (by omega)
  · exact at_bad s n w h

theorem two_tab (w : World) (z : Zn) (s : Nat → Int) : Sat ((w.alloc (.cells (zc z) 28)).alloc (.cells (sc s) 30)) (w.heap.size + 1) s := by
  have := Sat.new (w.alloc (.cells (zc z) 28)) s
  simpa using this

theorem two_zone (w : World) (z : Zn) (s : Nat → Int) : Zat ((w.alloc (.cells (zc z) 28)).alloc (.cells (sc s) 30)) w.heap.size z :=
  (Zat.new w z).later ((Later.refl _).alloc _ _)

theorem moment_zone (z : Zn) (s : Nat → Int) (n : Int) (w : World) (hL : Laid w) (h : ¬ ck z = 0) : Calls Tryz.prog 172 #[.agg (zc z), .agg (sc s), .int .i64 n] w fun e w' => e = .returned (.tuple #[.int .i64 (mV z s n), .int .i64 (mE z s n)]) ∧ Later w w' := by
  have C := Lib.hid (fun W => Zone.check_any z W)
  have A := Lib.hid (fun W hW => at_any s n W hW)
  have K := Lib.hid (fun n a b W => within_any n a b W)
  have e0 : (ck z != 0) = true := by simpa using h
  have hE : mE z s n = ck z := by unfold mE; rw [if_neg h]
  have HE := Lib.hid hE
  have HV := Lib.hid (show mV z s n = 0 by unfold mV; rw [if_neg (by rw [hE]; exact h)])
  clear h hE
  have HT := Lib.hid (two_tab w z s)
  have HZ := Lib.hid (two_zone w z s)
  have HG0 := Lib.hid (((Later.refl w).alloc (zc z) 28).alloc (sc s) 30)
  have HL := Lib.hid hL
  clear hL
  unfold zc sc at *
  go_enter Tryz.func172, Tryz.ntmps172
  go_wp2_with fail
  refine (C.out _).mono ?_
  rintro e w1 ⟨rfl, hg1⟩
  have HG1 := Lib.hid hg1
  clear hg1
  go_wp2_with fail
  go_ret2
  exact ⟨ret2 HV.out.symm HE.out.symm, gtrans HG0.out HG1.out⟩

theorem moment_at (z : Zn) (s : Nat → Int) (n : Int) (w : World) (hL : Laid w) (h : ck z = 0) (ha : ¬ aE s n = 0) : Calls Tryz.prog 172 #[.agg (zc z), .agg (sc s), .int .i64 n] w fun e w' => e = .returned (.tuple #[.int .i64 (mV z s n), .int .i64 (mE z s n)]) ∧ Later w w' := by
  have C := Lib.hid (fun W => Zone.check_any z W)
  have A := Lib.hid (fun W hW => at_any s n W hW)
  have K := Lib.hid (fun n a b W => within_any n a b W)
  have e0 : (ck z != 0) = false := by simpa using h
  have e1 : (aE s n != 0) = true := by simpa using ha
  have hE : mE z s n = aE s n := by
    unfold mE; rw [if_pos h]
    unfold aE at ha ⊢
    by_cases g : sk s = 0
    · rw [if_pos g] at ha ⊢
      rw [if_pos g]
      by_cases hn : 1 ≤ n ∧ n ≤ 3652059
      · rw [if_pos hn] at ha; exact absurd rfl ha
      · rw [if_neg hn, if_neg (by omega)]
    · rw [if_neg g, if_neg g]
  have HE := Lib.hid hE
  have HV := Lib.hid (show mV z s n = 0 by unfold mV; rw [if_neg (by rw [hE]; exact ha)])
  clear h hE ha
  have HT := Lib.hid (two_tab w z s)
  have HZ := Lib.hid (two_zone w z s)
  have HG0 := Lib.hid (((Later.refl w).alloc (zc z) 28).alloc (sc s) 30)
  have HL := Lib.hid hL
  clear hL
  unfold zc sc at *
  go_enter Tryz.func172, Tryz.ntmps172
  go_wp2_with fail
  refine (C.out _).mono ?_
  rintro e w1 ⟨rfl, hg1⟩
  have HG1 := Lib.hid hg1
  clear hg1
  obtain ⟨k0, k1, k2, k3, k4, k5, k6, k7, k8, k9, k10, k11⟩ := (HT.out.later HG1.out).all
  go_wp2_with fail
  refine (A.out _ (HL.out.grown (gtrans HG0.out HG1.out))).mono ?_
  rintro e w2 ⟨rfl, hg2⟩
  clear k0 k1 k2 k3 k4 k5 k6 k7 k8 k9 k10 k11
  have HG2 := Lib.hid (gtrans HG1.out hg2)
  clear hg2
  go_wp2_with fail
  go_ret2
  exact ⟨ret2 HV.out.symm HE.out.symm, gtrans HG0.out HG2.out⟩

theorem moment_day (z : Zn) (s : Nat → Int) (n : Int) (w : World) (hL : Laid w) (h : ck z = 0) (ha : aE s n = 0) (hn : ¬ (401 ≤ n ∧ n ≤ 3651998)) : Calls Tryz.prog 172 #[.agg (zc z), .agg (sc s), .int .i64 n] w fun e w' => e = .returned (.tuple #[.int .i64 (mV z s n), .int .i64 (mE z s n)]) ∧ Later w w' := by
  have C := Lib.hid (fun W => Zone.check_any z W)
  have A := Lib.hid (fun W hW => at_any s n W hW)
  have K := Lib.hid (fun n a b W => within_any n a b W)
  have e0 : (ck z != 0) = false := by simpa using h
  have e1 : (aE s n != 0) = false := by simpa using ha
  have e2 := wiB_not n 401 3651998 hn
  have hE : mE z s n = 72 := by
    unfold mE; rw [if_pos h, if_pos ((aE_ok s n).1 ha).1, if_neg hn]
  have HE := Lib.hid hE
  have HV := Lib.hid (show mV z s n = 0 by unfold mV; rw [if_neg (by rw [hE]; omega)])
  clear h hE ha hn
  have HT := Lib.hid (two_tab w z s)
  have HZ := Lib.hid (two_zone w z s)
  have HG0 := Lib.hid (((Later.refl w).alloc (zc z) 28).alloc (sc s) 30)
  have HL := Lib.hid hL
  clear hL
  unfold zc sc at *
  go_enter Tryz.func172, Tryz.ntmps172
  go_wp2_with fail
  refine (C.out _).mono ?_
  rintro e w1 ⟨rfl, hg1⟩
  have HG1 := Lib.hid hg1
  clear hg1
  obtain ⟨k0, k1, k2, k3, k4, k5, k6, k7, k8, k9, k10, k11⟩ := (HT.out.later HG1.out).all
  go_wp2_with fail
  refine (A.out _ (HL.out.grown (gtrans HG0.out HG1.out))).mono ?_
  rintro e w2 ⟨rfl, hg2⟩
  clear k0 k1 k2 k3 k4 k5 k6 k7 k8 k9 k10 k11
  have HG2 := Lib.hid (gtrans HG1.out hg2)
  clear hg2
  go_wp2_with (go_at_call 119; refine (K.out _ _ _ _).mono ?_; rintro e w1 ⟨rfl, rfl⟩)
  go_ret2
  exact ⟨ret2 HV.out.symm HE.out.symm, gtrans HG0.out HG2.out⟩

theorem moment_yes (z : Zn) (s : Nat → Int) (n : Int) (w : World) (hL : Laid w) (h : ck z = 0) (ha : aE s n = 0) (hn : 401 ≤ n ∧ n ≤ 3651998) : Calls Tryz.prog 172 #[.agg (zc z), .agg (sc s), .int .i64 n] w fun e w' => e = .returned (.tuple #[.int .i64 (mV z s n), .int .i64 (mE z s n)]) ∧ Later w w' := by
  have C := Lib.hid (fun W => Zone.check_any z W)
  have A := Lib.hid (fun W hW => at_any s n W hW)
  have K := Lib.hid (fun n a b W => within_any n a b W)
  have e0 : (ck z != 0) = false := by simpa using h
  have e1 : (aE s n != 0) = false := by simpa using ha
  have e2 := (wiB_iff n 401 3651998).2 hn
  have hk := ((aE_ok s n).1 ha).1
  have hE : mE z s n = 0 := (mE_ok z s n).2 ⟨h, hk, hn⟩
  have HE := Lib.hid hE
  have hb := sa_bd s n hk (by omega) (by omega)
  have hz := (ck_may z).1 h
  unfold May at hz
  obtain ⟨z0, z1, _⟩ := hz
  have hV : sa s n = aV s n := by unfold aV; rw [if_pos ha]
  rw [hV] at hb
  have HV : Hid (mV z s n = n * 1440 + aV s n - z.b) := Lib.hid (by unfold mV; rw [if_pos hE, hV])
  clear h hE ha hk hV
  have HT := Lib.hid (two_tab w z s)
  have HZ := Lib.hid (two_zone w z s)
  have HG0 := Lib.hid (((Later.refl w).alloc (zc z) 28).alloc (sc s) 30)
  have HL := Lib.hid hL
  clear hL
  unfold zc sc at *
  go_enter Tryz.func172, Tryz.ntmps172
  go_wp2_with fail
  refine (C.out _).mono ?_
  rintro e w1 ⟨rfl, hg1⟩
  have HG1 := Lib.hid hg1
  clear hg1
  obtain ⟨k0, k1, k2, k3, k4, k5, k6, k7, k8, k9, k10, k11⟩ := (HT.out.later HG1.out).all
  go_wp2_with fail
  refine (A.out _ (HL.out.grown (gtrans HG0.out HG1.out))).mono ?_
  rintro e w2 ⟨rfl, hg2⟩
  clear k0 k1 k2 k3 k4 k5 k6 k7 k8 k9 k10 k11
  have HG2 := Lib.hid (gtrans HG1.out hg2)
  clear hg2
  obtain ⟨j0, j1, j2, j3, j4, j5, j6, j7, j8, j9⟩ := HZ.out.later HG2.out
  go_wp2_with (go_at_call 119; refine (K.out _ _ _ _).mono ?_; rintro e w1 ⟨rfl, rfl⟩)
  go_ret2
  exact ⟨ret2 HV.out.symm HE.out.symm, gtrans HG0.out HG2.out⟩

theorem moment_any (z : Zn) (s : Nat → Int) (n : Int) (w : World) (hL : Laid w) : Calls Tryz.prog 172 #[.agg (zc z), .agg (sc s), .int .i64 n] w fun e w' => e = .returned (.tuple #[.int .i64 (mV z s n), .int .i64 (mE z s n)]) ∧ Later w w' := by
  by_cases h : ck z = 0
  · by_cases ha : aE s n = 0
    · by_cases hn : 401 ≤ n ∧ n ≤ 3651998
      · exact moment_yes z s n w hL h ha hn
      · exact moment_day z s n w hL h ha hn
    · exact moment_at z s n w hL h ha
  · exact moment_zone z s n w hL h

end Go.Proofs.YtmlnlkfdbbnkbaaGreatDoor.Sun

/- What the document's own answers of layer 1 come to, call by call. Conditions: the numbers are ints, as each theorem says. -/
namespace Go.Proofs.YtmlnlkfdbbnkbaaGreatDoor.Divs
set_option maxRecDepth 100000
open Go.ChangeShapes Go.WideShapes Go.ChangeAt Go.RowKit

theorem tmod_nonpos (a b : Int) (h : a ≤ 0) : a.tmod b ≤ 0 := by
  have := Int.tmod_nonneg b (show 0 ≤ -a by omega)
  rw [Int.neg_tmod] at this
  omega

theorem rdiv_any (a b : Int) (w : World) (ha0 : -9223372036854775808 ≤ a) (ha1 : a ≤ 9223372036854775807) (hb0 : 1 ≤ b) (hb1 : b ≤ 9223372036854775807) :
    Calls Tryz.prog 82 #[.int .i64 a, .int .i64 b] w fun e w' => e = .returned (.int .i64 (a / b)) ∧ ∃ n, w' = w.drewN n := by
  have ht := tpair a b hb0
  have hbd := ediv_bd a b hb0
  have hz : (b == 0) = false := by simp; omega
  by_cases hs : a < 0
  · have hneg : a.tmod b ≤ 0 := tmod_nonpos a b (by omega)
    by_cases hr : a.tmod b < 0
    · obtain ⟨h1, h2⟩ := ht.1 hr
      have hq0 : -9223372036854775808 ≤ a.tdiv b - 1 := by omega
      have hq1 : a.tdiv b - 1 ≤ 9223372036854775807 := by omega
      have t1 : (a.tmod b != 0) = true := by simp; omega
      have H1 := Lib.hid h1
      clear h1 h2 ht hbd
      go_enter Tryz.func82, Tryz.ntmps82
      go_wp2
      go_ret
      exact ⟨ret1 H1.out, 0, rfl⟩
    · obtain ⟨h1, h2⟩ := ht.2 (by omega)
      have t1 : (a.tmod b != 0) = false := by simp; omega
      have H1 := Lib.hid h1
      clear h1 h2 ht hbd
      go_enter Tryz.func82, Tryz.ntmps82
      go_wp2
      go_ret
      exact ⟨ret1 H1.out, 0, rfl⟩
  · have h0 : 0 ≤ a := by omega
    clear ht
    by_cases hr : a % b = 0
    · have t1 : (a % b != 0) = false := by simp; omega
      clear hr
      go_enter Tryz.func82, Tryz.ntmps82
      go_wp2
      go_ret
      exact ⟨rfl, 0, rfl⟩
    · have t1 : (a % b != 0) = true := by simp; omega
      clear hr
      go_enter Tryz.func82, Tryz.ntmps82
      go_wp2
      go_ret
      exact ⟨rfl, 0, rfl⟩

theorem rmod_any (a b : Int) (w : World) (ha0 : -9223372036854775808 ≤ a) (ha1 : a ≤ 9223372036854775807) (hb0 : 1 ≤ b) (hb1 : b ≤ 9223372036854775807) :
    Calls Tryz.prog 76 #[.int .i64 a, .int .i64 b] w fun e w' => e = .returned (.int .i64 (a % b)) ∧ ∃ n, w' = w.drewN n := by
  have ht := tpair a b hb0
  have hm0 := Int.emod_nonneg a (show b ≠ 0 by omega)
  have hm1 := Int.emod_lt_of_pos a (show 0 < b by omega)
  have hz : (b == 0) = false := by simp; omega
  by_cases hs : a < 0
  · by_cases hr : a.tmod b < 0
    · obtain ⟨h1, h2⟩ := ht.1 hr
      have hr0 : 0 ≤ a.tmod b + b := by omega
      have hr1 : a.tmod b + b < b := by omega
      have H2 := Lib.hid h2
      clear h1 h2 ht hm0 hm1
      go_enter Tryz.func76, Tryz.ntmps76
      go_wp2
      go_ret
      exact ⟨ret1 H2.out, 0, rfl⟩
    · obtain ⟨h1, h2⟩ := ht.2 (by omega)
      have H2 := Lib.hid h2
      clear h1 h2 ht hm0 hm1
      go_enter Tryz.func76, Tryz.ntmps76
      go_wp2
      go_ret
      exact ⟨ret1 H2.out, 0, rfl⟩
  · have h0 : 0 ≤ a := by omega
    have h3 : ¬ a % b < 0 := by omega
    clear ht
    go_enter Tryz.func76, Tryz.ntmps76
    go_wp2
    go_ret
    exact ⟨rfl, 0, rfl⟩

end Go.Proofs.YtmlnlkfdbbnkbaaGreatDoor.Divs

/- The document's answers of layer 6, call by call: whether a zone may be, a turn's instant, whether clocks are shifted, what they tell. Conditions: the numbers are ints, as each theorem says. -/
namespace Go.Proofs.YtmlnlkfdbbnkbaaGreatDoor.Zone
set_option maxRecDepth 100000
open Go.ChangeShapes Go.WideShapes Go.ChangeAt Go.RowKit
open Go.Proofs.YtmlnlkfdbbnkbaaGreatDoor.Divs Go.Proofs.YtmlnlkfdbbnkbaaGreatDoor.Grow
open Go.Proofs.YtmlnlkfdbbnkbaaGreatDoor.Greg (nthV nthE)
open Go.Proofs.YtmlnlkfdbbnkbaaGreatDoor.Cal (ya yr om od)
open Go.Proofs.YtmlnlkfdbbnkbaaGreatDoor.Zo

attribute [local go_sem high] equal_turn

set_option maxHeartbeats 1000000 in
theorem rturn_any (t : Tn) (w : World) : Calls Tryz.prog 35 #[.agg (tc t)] w fun e w' => e = .returned (.bool (okB t)) ∧ Later w w' := by
  have HV := Lib.hid (okB_iff t)
  have HL := Lib.hid ((Later.refl w).alloc (tc t) 26)
  unfold tc at *
  go_enter Tryz.func35, Tryz.ntmps35
  go_wp2
  all_goals
    go_ret
    refine ⟨retb ?_, HL.out⟩
    rw [Bool.eq_iff_iff, HV.out]
    simp
    omega

def dyB (d m : Int) : Bool := decide (401 ≤ d ∧ d ≤ 3651998 ∧ 0 ≤ m ∧ m ≤ 1439)

theorem dyB_iff (d m : Int) : dyB d m = true ↔ 401 ≤ d ∧ d ≤ 3651998 ∧ 0 ≤ m ∧ m ≤ 1439 := by simp [dyB]

theorem rcheck_low (z : Zn) (w : World) (h : z.b < -720 ∨ 840 < z.b ∨ z.s < 0 ∨ 120 < z.s) : Calls Tryz.prog 16 #[.agg (zc z)] w fun e w' => e = .returned (.int .i64 (ck z)) ∧ Later w w' := by
  have HL := Lib.hid ((Later.refl w).alloc (zc z) 28)
  unfold zc at *
  by_cases h1 : z.b < -720
  · have HV := Lib.hid (show 60 = ck z by unfold ck; rw [if_pos (by omega)])
    clear h
    go_enter Tryz.func16, Tryz.ntmps16
    go_wp2_with fail
    go_ret
    exact ⟨reti HV.out, HL.out⟩
  by_cases h2 : 840 < z.b
  · have HV := Lib.hid (show 60 = ck z by unfold ck; rw [if_pos (by omega)])
    clear h
    go_enter Tryz.func16, Tryz.ntmps16
    go_wp2_with fail
    go_ret
    exact ⟨reti HV.out, HL.out⟩
  by_cases h3 : z.s < 0
  · have HV := Lib.hid (show 61 = ck z by unfold ck; rw [if_neg (by omega), if_pos (by omega)])
    clear h
    go_enter Tryz.func16, Tryz.ntmps16
    go_wp2_with fail
    go_ret
    exact ⟨reti HV.out, HL.out⟩
  have h4 : 120 < z.s := by omega
  have HV := Lib.hid (show 61 = ck z by unfold ck; rw [if_neg (by omega), if_pos (by omega)])
  clear h
  go_enter Tryz.func16, Tryz.ntmps16
  go_wp2_with fail
  go_ret
  exact ⟨reti HV.out, HL.out⟩

theorem ck_zero (z : Zn) (b0 : -720 ≤ z.b) (b1 : z.b ≤ 840) (hs : z.s = 0) : ck z = if ztB z.p = true ∧ ztB z.q = true then 0 else 62 := by
  unfold ck
  rw [if_neg (by omega), if_neg (by omega)]
  have e : badB z = (!ztB z.p || !ztB z.q) := by unfold badB wrB; simp [hs]
  rw [e]
  cases ztB z.p <;> cases ztB z.q <;> simp

theorem ck_some (z : Zn) (b0 : -720 ≤ z.b) (b1 : z.b ≤ 840) (s0 : 1 ≤ z.s) (s1 : z.s ≤ 120) : ck z = if okB z.p = true ∧ okB z.q = true ∧ apB z = true then 0 else 62 := by
  unfold ck
  rw [if_neg (by omega), if_neg (by omega)]
  have hs : ¬ z.s = 0 := by omega
  have e : badB z = (!okB z.p || (!okB z.q || !apB z)) := by unfold badB wrB; simp [hs]
  rw [e]
  cases okB z.p <;> cases okB z.q <;> cases apB z <;> simp

set_option maxHeartbeats 1000000 in
theorem rcheck_zero (z : Zn) (w : World) (b0 : -720 ≤ z.b) (b1 : z.b ≤ 840) (hs : z.s = 0) : Calls Tryz.prog 16 #[.agg (zc z)] w fun e w' => e = .returned (.int .i64 (ck z)) ∧ Later w w' := by
  have HC := Lib.hid (ck_zero z b0 b1 hs)
  have e0 : (z.s == 0) = true := by simpa using hs
  have x0 : ¬ z.s < 0 := by omega
  have x1 : ¬ 120 < z.s := by omega
  clear hs
  unfold zc at *
  go_enter Tryz.func16, Tryz.ntmps16
  go_wp2_with fail
  all_goals
    go_ret
    refine ⟨reti ?_, ((Later.refl w).alloc _ _).alloc _ _⟩
    rw [HC.out]
    try simp only [Bool.not_eq_true', Bool.not_eq_false', beq_iff_eq, beq_eq_false_iff_ne, ne_eq] at *
    first
      | (rw [if_pos ⟨by rw [ztB_iff]; omega, by rw [ztB_iff]; omega⟩])
      | (rw [if_neg (by rw [ztB_iff, ztB_iff]; omega)])

set_option maxHeartbeats 1000000 in
theorem rcheck_some (z : Zn) (w : World) (b0 : -720 ≤ z.b) (b1 : z.b ≤ 840) (s0 : 1 ≤ z.s) (s1 : z.s ≤ 120) : Calls Tryz.prog 16 #[.agg (zc z)] w fun e w' => e = .returned (.int .i64 (ck z)) ∧ Later w w' := by
  have HC := Lib.hid (ck_some z b0 b1 s0 s1)
  have HN := Lib.hid (Zat.new w z)
  have HL := Lib.hid ((((Later.refl w).alloc (zc z) 28).alloc #[.int .i64 0, .int .i64 0, .int .i64 0, .int .i64 0] 26))
  have e0 : (z.s == 0) = false := by simp; omega
  have P := Lib.hid (fun W => rturn_any z.p W)
  have Q := Lib.hid (fun W => rturn_any z.q W)
  have HP := Lib.hid (okB_iff z.p)
  have HQ := Lib.hid (okB_iff z.q)
  have HA := Lib.hid (apB_iff z)
  unfold zc at HL ⊢
  go_enter Tryz.func16, Tryz.ntmps16
  go_wp2_with fail
  refine (P.out _).mono ?_
  rintro e w1 ⟨rfl, hg1⟩
  have HG1 := Lib.hid (gtrans HL.out hg1)
  have z1 := HN.out.later (gtrans ((Later.refl _).alloc _ _) hg1)
  have HZ1 := Lib.hid z1
  obtain ⟨c0, c1, c2, c3, c4, c5, c6, c7, c8, c9⟩ := z1
  clear hg1
  go_wp2_with fail
  refine (Q.out _).mono ?_
  rintro e w2 ⟨rfl, hg2⟩
  have HG2 := Lib.hid (gtrans HG1.out hg2)
  clear c0 c1 c2 c3 c4 c5 c6 c7 c8 c9
  obtain ⟨c0, c1, c2, c3, c4, c5, c6, c7, c8, c9⟩ := HZ1.out.later hg2
  clear hg2
  cases hp : okB z.p with
  | false =>
    have HP1 := Lib.hid hp
    clear hp
    go_wp2_with fail
    all_goals
      go_ret
      refine ⟨reti ?_, HG2.out⟩
      rw [HC.out, HP1.out]
      simp
  | true =>
    have HP1 := Lib.hid hp
    obtain ⟨p1, p2, _⟩ := HP.out.1 hp
    clear hp
    cases hq : okB z.q with
    | false =>
      have HQ1 := Lib.hid hq
      clear hq
      go_wp2_with fail
      all_goals
        go_ret
        refine ⟨reti ?_, HG2.out⟩
        rw [HC.out, HQ1.out]
        simp
    | true =>
      have HQ1 := Lib.hid hq
      obtain ⟨q1, q2, _⟩ := HQ.out.1 hq
      clear hq
      by_cases hlt : z.p.m - z.q.m < 0
      all_goals
        go_wp2_with fail
        all_goals
          go_ret
          refine ⟨reti ?_, HG2.out⟩
          rw [HC.out, HP1.out, HQ1.out]
          first
            | (rw [if_pos ⟨rfl, rfl, HA.out.2 (by omega)⟩])
            | (rw [if_neg (by rintro ⟨_, _, h⟩; have := HA.out.1 h; omega)])

theorem rcheck_any (z : Zn) (w : World) : Calls Tryz.prog 16 #[.agg (zc z)] w fun e w' => e = .returned (.int .i64 (ck z)) ∧ Later w w' := by
  by_cases h : z.b < -720 ∨ 840 < z.b ∨ z.s < 0 ∨ 120 < z.s
  · exact rcheck_low z w h
  by_cases hs : z.s = 0
  · exact rcheck_zero z w (by omega) (by omega) hs
  · exact rcheck_some z w (by omega) (by omega) (by omega) (by omega)

theorem rwhen_any (z : Zn) (t : Tn) (y : Int) (w : World) (b0 : -720 ≤ z.b) (b1 : z.b ≤ 840) (h1 : 1 ≤ y) (h2 : y ≤ 9999) (h : okB t = true) :
    Calls Tryz.prog 106 #[.agg (zc z), .agg (tc t), .int .i64 y] w fun e w' => e = .returned (.int .i64 (wn z t y)) ∧ Later w w' := by
  have N := Lib.hid (fun k W => Greg.rnth_all y t.m t.v k W)
  obtain ⟨f0, f1, f2, f3⟩ := wn_fits t y h1 h2 h
  have HV : Hid (nthV y t.m t.v (wk t.k) * 1440 + t.u - z.b = wn z t y) := (rfl : _ = wn z t y)
  have HZ := Lib.hid (Zat.new w z)
  have hT : ∀ w1, Later ((w.alloc (.cells (zc z) 28)).alloc (.cells (tc t) 26)) w1 → w1.cell? ⟨w.heap.size + 1, 3, none⟩ = some (.int .i64 t.u) := by
    intro w1 hg
    refine gsome hg ?_
    simp [tc]
  have HT := Lib.hid hT
  clear hT h h1 h2
  unfold wk at f0 f1 HV
  unfold zc tc
  by_cases h5 : t.k = 5
  · have e5 : (t.k == 5) = true := by simpa using h5
    rw [if_pos h5] at f0 f1 HV
    clear h5
    go_enter Tryz.func106, Tryz.ntmps106
    go_wp2_with fail
    refine (N.out _ _).mono ?_
    rintro e w1 ⟨rfl, hg1⟩
    have c3 := HT.out w1 hg1
    obtain ⟨c0, _⟩ := HZ.out.later (gtrans ((Later.refl _).alloc _ _) hg1)
    go_wp2_with fail
    go_ret
    exact ⟨reti HV.out, gtrans (((Later.refl w).alloc _ _).alloc _ _) hg1⟩
  · have e5 : (t.k == 5) = false := by simpa using h5
    rw [if_neg h5] at f0 f1 HV
    clear h5
    go_enter Tryz.func106, Tryz.ntmps106
    go_wp2_with fail
    refine (N.out _ _).mono ?_
    rintro e w1 ⟨rfl, hg1⟩
    have c3 := HT.out w1 hg1
    obtain ⟨c0, _⟩ := HZ.out.later (gtrans ((Later.refl _).alloc _ _) hg1)
    go_wp2_with fail
    go_ret
    exact ⟨reti HV.out, gtrans (((Later.refl w).alloc _ _).alloc _ _) hg1⟩

theorem rsummer_no (z : Zn) (t : Int) (w : World) (hs : z.s = 0) : Calls Tryz.prog 85 #[.agg (zc z), .int .i64 t] w fun e w' => e = .returned (.bool (sm z t)) ∧ Later w w' := by
  have HV := Lib.hid (sm_zero z t hs)
  have e0 : (z.s == 0) = true := by simpa using hs
  clear hs
  unfold zc
  go_enter Tryz.func85, Tryz.ntmps85
  go_wp2_with fail
  go_ret
  exact ⟨retb HV.out.symm, (Later.refl w).alloc _ _⟩

set_option maxHeartbeats 2000000 in
theorem rsummer_yes (z : Zn) (t : Int) (w : World) (h : May z) (hs : ¬ z.s = 0) (t0 : 576000 ≤ t) (t1 : t ≤ 5258879999) : Calls Tryz.prog 85 #[.agg (zc z), .int .i64 t] w fun e w' => e = .returned (.bool (sm z t)) ∧ Later w w' := by
  have e0 : (z.s == 0) = false := by simpa using hs
  obtain ⟨d0, d1⟩ := day_bd z t h t0 t1
  obtain ⟨y0, y1, _, _⟩ := Cal.yr_spec _ d0 d1
  obtain ⟨op, oq, _⟩ := may_on z h hs
  have b0 := h.1
  have b1 := h.2.1
  have D := Lib.hid (fun W => drew_g (rdiv_any (t + z.b) 1440 W (by omega) (by omega) (by omega) (by omega)))
  have O := Lib.hid (fun W => Greg.rof_any ((t + z.b) / 1440) W d0 d1)
  have P := Lib.hid (fun W => rwhen_any z z.p (yz z t) W h.1 h.2.1 y0 y1 op)
  have Q := Lib.hid (fun W => rwhen_any z z.q (yz z t) W h.1 h.2.1 y0 y1 oq)
  have HV : Hid (sm z t = inB (wn z z.p (yz z t)) (wn z z.q (yz z t)) t) := by
    have : sm z t = inB (wn z z.p (yz z t)) (wn z z.q (yz z t)) t := by unfold sm; rw [if_neg hs]
    exact this
  have HN := Lib.hid (Zat.new w z)
  have HY : Hid (yr ((t + z.b) / 1440) = yz z t) := (rfl : yr ((t + z.b) / 1440) = yz z t)
  clear hs d0 d1 y0 y1 op oq
  unfold zc
  go_enter Tryz.func85, Tryz.ntmps85
  go_wp2_with fail
  refine (D.out _).mono ?_
  rintro e w1 ⟨rfl, hg1⟩
  have HG1 := Lib.hid (gtrans ((Later.refl w).alloc _ _) hg1)
  have z1 := HN.out.later hg1
  have HZ1 := Lib.hid z1
  clear hg1 z1
  go_wp2_with fail
  refine (O.out _).mono ?_
  rintro e w2 ⟨rfl, hg2⟩
  rw [HY.out]
  have HG2 := Lib.hid (gtrans HG1.out hg2)
  have HZ2 := Lib.hid (HZ1.out.later hg2)
  have z2 := HZ1.out.later (hg2.alloc #[.int .i64 (yz z t), .int .i64 (om ((t + z.b) / 1440)), .int .i64 (od ((t + z.b) / 1440))] 129)
  obtain ⟨c0, c1, c2, c3, c4, c5, c6, c7, c8, c9⟩ := z2
  clear hg2
  go_wp2_with fail
  refine (P.out _).mono ?_
  rintro e w3 ⟨rfl, hg3⟩
  have HG3 := Lib.hid (gtrans (HG2.out.alloc _ _) hg3)
  have y3 : w3.cell? ⟨w2.heap.size, 0, none⟩ = some (.int .i64 (yz z t)) := gsome hg3 (by simp)
  have HY3 := Lib.hid y3
  have z3 := HZ2.out.later (gtrans ((Later.refl _).alloc _ _) hg3)
  clear c0 c1 c2 c3 c4 c5 c6 c7 c8 c9
  obtain ⟨c0, c1, c2, c3, c4, c5, c6, c7, c8, c9⟩ := z3
  clear hg3
  go_wp2_with fail
  refine (Q.out _).mono ?_
  rintro e w4 ⟨rfl, hg4⟩
  have HG4 := Lib.hid (gtrans HG3.out hg4)
  clear c0 c1 c2 c3 c4 c5 c6 c7 c8 c9 hg4 y3
  generalize wn z z.p (yz z t) = a at *
  generalize wn z z.q (yz z t) = b at *
  by_cases hab : a < b
  · by_cases h1 : a ≤ t
    · have R := Lib.hid (show inB a b t = decide (t < b) by rw [inB_lt a b t hab]; simp [h1])
      go_wp2_with fail
      go_ret
      exact ⟨retb (by rw [HV.out, R.out]), HG4.out⟩
    · have R := Lib.hid (show inB a b t = false by rw [inB_lt a b t hab]; simp [h1])
      go_wp2_with fail
      go_ret
      exact ⟨retb (by rw [HV.out, R.out]), HG4.out⟩
  · by_cases h1 : b ≤ t
    · have R := Lib.hid (show inB a b t = !decide (t < a) by
        rw [inB_ge a b t hab]
        rw [show decide (t < b) = false by simp; omega, Bool.false_or]
        by_cases h2 : t < a
        · rw [show decide (a ≤ t) = false by simp; omega, show decide (t < a) = true by simp; omega]; rfl
        · rw [show decide (a ≤ t) = true by simp; omega, show decide (t < a) = false by simp; omega]; rfl)
      go_wp2_with fail
      go_ret
      exact ⟨retb (by rw [HV.out, R.out]), HG4.out⟩
    · have R := Lib.hid (show inB a b t = true by rw [inB_ge a b t hab]; rw [show decide (t < b) = true by simp; omega]; rfl)
      go_wp2_with fail
      go_ret
      exact ⟨retb (by rw [HV.out, R.out]), HG4.out⟩

theorem rsummer_any (z : Zn) (t : Int) (w : World) (h : May z) (t0 : 576000 ≤ t) (t1 : t ≤ 5258879999) : Calls Tryz.prog 85 #[.agg (zc z), .int .i64 t] w fun e w' => e = .returned (.bool (sm z t)) ∧ Later w w' := by
  by_cases hs : z.s = 0
  · exact rsummer_no z t w hs
  · exact rsummer_yes z t w h hs t0 t1

theorem rtold_any (z : Zn) (t : Int) (w : World) (h : May z) (t0 : 576000 ≤ t) (t1 : t ≤ 5258879999) : Calls Tryz.prog 58 #[.agg (zc z), .int .i64 t] w fun e w' => e = .returned (.int .i64 (td z t)) ∧ Later w w' := by
  have S := fun W => rsummer_any z t W h t0 t1
  have HN := Lib.hid (Zat.new w z)
  unfold May at h
  obtain ⟨b0, b1, s0, s1, _⟩ := h
  unfold zc at *
  rcases td_cases z t with ⟨hs, ht⟩ | ⟨hs, ht⟩
  all_goals
    have HT := Lib.hid ht
    rw [hs] at S
    have HS := Lib.hid S
    clear S hs ht
    go_enter Tryz.func58, Tryz.ntmps58
    go_wp2_with fail
    refine (HS.out _).mono ?_
    rintro e w1 ⟨rfl, hg1⟩
    have HG1 := Lib.hid (gtrans ((Later.refl w).alloc _ _) hg1)
    obtain ⟨c0, c1, c2, c3, c4, c5, c6, c7, c8, c9⟩ := HN.out.later hg1
    clear hg1
    go_wp2_with fail
    go_ret
    exact ⟨reti HT.out.symm, HG1.out⟩

end Go.Proofs.YtmlnlkfdbbnkbaaGreatDoor.Zone
