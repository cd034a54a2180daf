/-
  Whether a table of sunsets may be, by the program's Check. No condition.
-/
import Derived.Test.YthbgllbbliijlaaSm
namespace Go.Proofs.Ythbgllbbliijlaa.Sun
open Go.ChangeShapes Go.WideShapes Go.ChangeAt Go.RowKit
open Go.Proofs.Ythbgllbbliijlaa.Divs Go.Proofs.Ythbgllbbliijlaa.Grow Go.Proofs.Ythbgllbbliijlaa.Zone
open Go.Proofs.Ythbgllbbliijlaa.Zo Go.Proofs.Ythbgllbbliijlaa.Su

theorem sl_two {W : World} {v : Value} {a b : Int} (h : Sl W v [a, b]) : ∃ g cap, v = .slice (some ⟨g, 0, none⟩) 2 cap ∧ W.cell? ⟨g, 0, none⟩ = some (.int .i64 a) ∧ W.cell? ⟨g, 1, none⟩ = some (.int .i64 b) := by
  rcases h with ⟨h, _⟩ | ⟨g, cap, e, h⟩
  · exact absurd h (by simp)
  · exact ⟨g, cap, e, h 0 a rfl, h 1 b rfl⟩

theorem next_any (s : Nat → Int) (m : Int) (w : World) (h1 : 1 ≤ m) (h2 : m ≤ 12) :
    Calls Try.prog 50 #[.agg (sc s), .int .i64 m] w fun e w' => e = .returned (.tuple #[.int .i64 (s (m.toNat - 1)), .int .i64 (s (m.toNat % 12))]) ∧ Later w w' := by
  have M := Lib.hid (fun g W c0 c1 => minutes_any s m g W h1 h2 c0 c1)
  unfold sc
  go_enter Try.func50, Try.ntmps50
  go_wp2_with fail
  refine (M.out _ _ (by simp) (by simp)).mono ?_
  rintro e w1 ⟨v, rfl, hv, hg1⟩
  obtain ⟨g, cap, rfl, c0, c1⟩ := sl_two hv
  have HG1 := Lib.hid (gtrans (((Later.refl w).alloc _ _).alloc _ _) hg1)
  clear hg1 hv
  go_wp2_with fail
  go_quiet (fail)
  go_wp2_with fail
  go_ret2
  exact ⟨rfl, HG1.out⟩

/-- A table lies in the block a. -/
def Sat (w : World) (a : Nat) (s : Nat → Int) : Prop := ∀ i, i < 12 → w.cell? ⟨a, i, none⟩ = some (.int .i64 (s i))

theorem Sat.new (w : World) (s : Nat → Int) : Sat (w.alloc (.cells (sc s) 30)) w.heap.size s := by
  intro i hi
  rw [World.cell?_alloc_new]
  exact sc_get s i hi

theorem Sat.later {w w1 : World} {a : Nat} {s : Nat → Int} (h : Sat w a s) (g : Later w w1) : Sat w1 a s := fun i hi => gsome g (h i hi)

theorem Sat.all {w : World} {a : Nat} {s : Nat → Int} (h : Sat w a s) : w.cell? ⟨a, 0, none⟩ = some (.int .i64 (s 0)) ∧ w.cell? ⟨a, 1, none⟩ = some (.int .i64 (s 1)) ∧ w.cell? ⟨a, 2, none⟩ = some (.int .i64 (s 2)) ∧ w.cell? ⟨a, 3, none⟩ = some (.int .i64 (s 3)) ∧ w.cell? ⟨a, 4, none⟩ = some (.int .i64 (s 4)) ∧ w.cell? ⟨a, 5, none⟩ = some (.int .i64 (s 5)) ∧ w.cell? ⟨a, 6, none⟩ = some (.int .i64 (s 6)) ∧ w.cell? ⟨a, 7, none⟩ = some (.int .i64 (s 7)) ∧ w.cell? ⟨a, 8, none⟩ = some (.int .i64 (s 8)) ∧ w.cell? ⟨a, 9, none⟩ = some (.int .i64 (s 9)) ∧ w.cell? ⟨a, 10, none⟩ = some (.int .i64 (s 10)) ∧ w.cell? ⟨a, 11, none⟩ = some (.int .i64 (s 11)) :=
  ⟨h 0 (by omega), h 1 (by omega), h 2 (by omega), h 3 (by omega), h 4 (by omega), h 5 (by omega), h 6 (by omega), h 7 (by omega), h 8 (by omega), h 9 (by omega), h 10 (by omega), h 11 (by omega)⟩

/-- A table's minute, by its place. -/
theorem index_any (s : Nat → Int) (k : Nat) (hk : k < 12) : ∀ W : World, (Instr.index 30 (.agg (sc s)) (.int .i64 (k : Int))).run Try.prog W = .ok (.int .i64 (s k)) W := by
  intro W
  obtain rfl | rfl | rfl | rfl | rfl | rfl | rfl | rfl | rfl | rfl | rfl | rfl : k = 0 ∨ k = 1 ∨ k = 2 ∨ k = 3 ∨ k = 4 ∨ k = 5 ∨ k = 6 ∨ k = 7 ∨ k = 8 ∨ k = 9 ∨ k = 10 ∨ k = 11 := by omega
  all_goals kernel_rfl

/-- The minutes of k months are from 900 to 1320. -/
def CRel (s : Nat → Int) (i : Value) : Prop := ∃ k : Nat, k ≤ 12 ∧ i = .int .i64 (k : Int) ∧ ∀ j, j < k → 900 ≤ s j ∧ s j ≤ 1320

/-- The steps of k months are so. -/
def DRel (s : Nat → Int) (w : World) (i : Value) (wr : World) : Prop := ∃ k : Nat, k ≤ 12 ∧ i = .int .i64 ((k : Int) + 1) ∧ (∀ j, j < k → -120 ≤ s ((j + 1) % 12) - s j ∧ s ((j + 1) % 12) - s j ≤ 120) ∧ Later w wr

theorem reti {a b : Int} (h : a = b) : Ending.returned (.int .i64 a) = .returned (.int .i64 b) := by rw [h]

set_option maxHeartbeats 1000000 in
theorem check_any (s : Nat → Int) (w : World) : Calls Try.prog 44 #[.agg (sc s)] w fun e w' => e = .returned (.int .i64 (sk s)) ∧ Later w w' := by
  have K := Lib.hid (fun n a b W => within_any n a b W)
  have X := Lib.hid (next_any s)
  have IX := Lib.hid (index_any s)
  have HN := Lib.hid (Sat.new w s)
  have HG := Lib.hid ((Later.refl w).alloc (sc s) 30)
  unfold sc at *
  go_enter Try.func44, Try.ntmps44
  go_wp2
  go_loop [9] (fun i => CRel s i) (fun i => 12 - (intOf i).toNat)
  case atStart => exact ⟨0, by omega, rfl, by omega⟩
  case round =>
    obtain ⟨k, hk, rfl, hj⟩ := hrel
    by_cases hlt : k < 12
    · have ix := IX.out k hlt
      cases hw : wiB (s k) 900 1320 with
      | false =>
        have HV := Lib.hid (sk_m s k hlt (mt (wiB_iff _ _ _).2 (by rw [hw]; simp)))
        clear hj
        go_wp2_with (go_at_call 49; refine (K.out _ _ _ _).mono ?_; rintro e w1 ⟨rfl, rfl⟩)
        go_ret
        exact ⟨reti HV.out.symm, HG.out⟩
      | true =>
        have hin := (wiB_iff _ _ _).1 hw
        have HJ : Hid (∀ j, j < k + 1 → 900 ≤ s j ∧ s j ≤ 1320) := Lib.hid (fun j h => by
          by_cases e : j = k
          · rw [e]; exact hin
          · exact hj j (by omega))
        clear hj hin
        go_wp2_with (go_at_call 49; refine (K.out _ _ _ _).mono ?_; rintro e w1 ⟨rfl, rfl⟩)
        go_round
        case rel => exact ⟨k + 1, by omega, by go_num, HJ.out⟩
        case measure => simp [intOf]; omega
    · obtain rfl : k = 12 := by omega
      have HM : Hid (okM s) := Lib.hid hj
      clear hj hlt hk
      go_wp2
      go_loopw [5] (fun i wr => DRel s (w.alloc (.cells #[.int .i64 (s 0), .int .i64 (s 1), .int .i64 (s 2), .int .i64 (s 3), .int .i64 (s 4), .int .i64 (s 5), .int .i64 (s 6), .int .i64 (s 7), .int .i64 (s 8), .int .i64 (s 9), .int .i64 (s 10), .int .i64 (s 11)] 30)) i wr) (fun i _ => 13 - (intOf i).toNat)
      case atStart => exact ⟨0, by omega, rfl, by omega, Later.refl _⟩
      case round =>
        obtain ⟨k, hk, rfl, hj, hg⟩ := hrel
        have HGR := Lib.hid hg
        clear hg
        by_cases hlt : k < 12
        · obtain ⟨k0, k1, k2, k3, k4, k5, k6, k7, k8, k9, k10, k11⟩ := (HN.out.later HGR.out).all
          have b0 := HM.out k hlt
          have b1 := HM.out ((k + 1) % 12) (by omega)
          go_wp2_with fail
          refine (X.out _ _ (by omega) (by omega)).mono ?_
          rintro e w1 ⟨rfl, hg1⟩
          have HG1 := Lib.hid (gtrans HGR.out hg1)
          clear hg1 k0 k1 k2 k3 k4 k5 k6 k7 k8 k9 k10 k11
          rw [show ((k : Int) + 1).toNat - 1 = k by omega, show ((k : Int) + 1).toNat = k + 1 by omega]
          cases hw : wiB (s ((k + 1) % 12) - s k) (-120) 120 with
          | false =>
            have HV := Lib.hid (sk_s s k hlt HM.out (mt (wiB_iff _ _ _).2 (by rw [hw]; simp)))
            clear hj
            go_wp2_with (go_at_call 49; refine (K.out _ _ _ _).mono ?_; rintro e w1 ⟨rfl, rfl⟩)
            go_ret
            exact ⟨reti HV.out.symm, gtrans HG.out HG1.out⟩
          | true =>
            have hin := (wiB_iff _ _ _).1 hw
            have HJ : Hid (∀ j, j < k + 1 → -120 ≤ s ((j + 1) % 12) - s j ∧ s ((j + 1) % 12) - s j ≤ 120) := Lib.hid (fun j h => by
              by_cases e : j = k
              · rw [e]; exact hin
              · exact hj j (by omega))
            clear hj hin
            go_wp2_with (go_at_call 49; refine (K.out _ _ _ _).mono ?_; rintro e w1 ⟨rfl, rfl⟩)
            go_roundw
            case rel => exact ⟨k + 1, by omega, by go_num, HJ.out, HG1.out⟩
            case measure => simp [intOf]; omega
        · obtain rfl : k = 12 := by omega
          have HV := Lib.hid ((sk_ok s).2 ⟨HM.out, hj⟩)
          clear hj hlt hk
          go_wp2
          go_ret
          exact ⟨reti HV.out.symm, gtrans HG.out HGR.out⟩

end Go.Proofs.Ythbgllbbliijlaa.Sun
