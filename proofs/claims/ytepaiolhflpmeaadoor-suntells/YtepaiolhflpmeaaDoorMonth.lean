/-
  What monthStart and monthOf answer. Conditions: the year is from 1 to 9999, the month from 1 to 12, the day one of the year's, the table of months lies where the program lays it.
-/
import Derived.Test.YtepaiolhflpmeaaDoorAhead
namespace Go.Proofs.YtepaiolhflpmeaaDoor.Greg
open Go.ChangeShapes Go.WideShapes Go.ChangeAt Go.RowKit
open Go.Proofs.YtepaiolhflpmeaaDoor.Divs Go.Proofs.YtepaiolhflpmeaaDoor.Grow
open Go.Proofs.YtepaiolhflpmeaaDoor.Cal (lp ln tab dm ya ma dn yr mo om od)

theorem arr_cell (y : Int) (w : World) (j : Nat) (h : j < 12) : (w.alloc (.cells #[.int .i64 (ma y 1), .int .i64 (ma y 2), .int .i64 (ma y 3), .int .i64 (ma y 4), .int .i64 (ma y 5), .int .i64 (ma y 6), .int .i64 (ma y 7), .int .i64 (ma y 8), .int .i64 (ma y 9), .int .i64 (ma y 10), .int .i64 (ma y 11), .int .i64 (ma y 12)] 22)).cell? ⟨w.heap.size, j, none⟩ = some (.int .i64 (ma y ((j : Int) + 1))) := by
  rw [World.cell?_alloc_new, ← arr_all, arr_get y 12 j h, if_pos h]

theorem ln_le (y : Int) : 365 ≤ ln y ∧ ln y ≤ 366 := by rcases Cal.ln_cases y with ⟨_, e⟩ | ⟨_, e⟩ <;> omega

set_option maxHeartbeats 1000000 in
theorem mstart_any (y m : Int) (w : World) (hL : Laid w) (h1 : 1 ≤ y) (h2 : y ≤ 9999) (h3 : 1 ≤ m) (h4 : m ≤ 12) : Calls Tryd.prog 30 #[.int .i64 y, .int .i64 m] w fun e w' => e = .returned (.int .i64 (ya y + ma y m + 1)) ∧ Later w w' := by
  have hy := Cal.ya_bd y h1 (by omega)
  have hm := Cal.ma_bd y m (by omega)
  have hl := ln_le y
  go_enter Tryd.func30, Tryd.ntmps30
  go_wp2_with fail
  refine (ahead_any _ _ hL h1 h2).mono ?_
  rintro e w1 ⟨rfl, hg1⟩
  unfold aheadV
  go_wp2_with fail
  have hc := arr_cell y w1 (m.toNat - 1) (by omega)
  rw [show (((m.toNat - 1 : Nat) : Int) + 1) = m from by omega] at hc
  have hx := gw_cell hc
  have hG : Later w (w1.alloc (.cells #[.int .i64 (ma y 1), .int .i64 (ma y 2), .int .i64 (ma y 3), .int .i64 (ma y 4), .int .i64 (ma y 5), .int .i64 (ma y 6), .int .i64 (ma y 7), .int .i64 (ma y 8), .int .i64 (ma y 9), .int .i64 (ma y 10), .int .i64 (ma y 11), .int .i64 (ma y 12)] 22)) := hg1.alloc _ _
  clear hc
  generalize w1.alloc (.cells #[.int .i64 (ma y 1), .int .i64 (ma y 2), .int .i64 (ma y 3), .int .i64 (ma y 4), .int .i64 (ma y 5), .int .i64 (ma y 6), .int .i64 (ma y 7), .int .i64 (ma y 8), .int .i64 (ma y 9), .int .i64 (ma y 10), .int .i64 (ma y 11), .int .i64 (ma y 12)] 22) = W at *
  refine region_grown (by kernel_rfl) (by kernel_rfl) ?_
  repeat (go_big_quiet_step ((go_at_call 34; exact in_grown (same_g (ya_any _ _ h1 (by omega))))))
  refine wpQuiet_nil (grown_end ?_)
  intro w2 hg2
  go_wp2_with fail
  go_ret
  exact ⟨rfl, gtrans hG hg2⟩

/-- The loop's relation: every month ahead of the k-th ends ahead of the day. -/
def MRel (y d : Int) (s i : Value) : Prop := ∃ k : Nat, 1 ≤ k ∧ k ≤ 12 ∧ ma y k < d ∧ i = .int .i64 (k : Int) ∧ s = .int .i64 12

set_option maxHeartbeats 1000000 in
theorem mof_any (y d : Int) (w : World) (hL : Laid w) (h1 : 1 ≤ y) (h2 : y ≤ 9999) (h3 : 1 ≤ d) (h4 : d ≤ ln y) :
    Calls Tryd.prog 33 #[.int .i64 y, .int .i64 d] w fun e w' => e = .returned (.tuple #[.int .i64 (mo y d), .int .i64 (d - ma y (mo y d))]) ∧ Later w w' := by
  have hl := ln_le y
  go_enter Tryd.func33, Tryd.ntmps33
  go_wp2
  go_step3
  go_wp2_with fail
  refine (ahead_any _ _ hL h1 h2).mono ?_
  rintro e w1 ⟨rfl, hg1⟩
  unfold aheadV
  go_wp2_with fail
  have hc := fun j hj => arr_cell y w1 j hj
  have hG : Later w (w1.alloc (.cells #[.int .i64 (ma y 1), .int .i64 (ma y 2), .int .i64 (ma y 3), .int .i64 (ma y 4), .int .i64 (ma y 5), .int .i64 (ma y 6), .int .i64 (ma y 7), .int .i64 (ma y 8), .int .i64 (ma y 9), .int .i64 (ma y 10), .int .i64 (ma y 11), .int .i64 (ma y 12)] 22)) := hg1.alloc _ _
  generalize w1.alloc (.cells #[.int .i64 (ma y 1), .int .i64 (ma y 2), .int .i64 (ma y 3), .int .i64 (ma y 4), .int .i64 (ma y 5), .int .i64 (ma y 6), .int .i64 (ma y 7), .int .i64 (ma y 8), .int .i64 (ma y 9), .int .i64 (ma y 10), .int .i64 (ma y 11), .int .i64 (ma y 12)] 22) = W at *
  generalize w1.heap.size = b at *
  have HC := Lib.hid hc
  clear hc hg1 hL
  go_step3
  go_wp2
  go_loop [4, 7] (fun s i => MRel y d s i) (fun _ i => 12 - (intOf i).toNat)
  case atStart => exact ⟨1, by omega, by omega, by have := Cal.ma_one y; show ma y 1 < d; omega, rfl, rfl⟩
  case round =>
    obtain ⟨k, hk1, hk2, hk3, rfl, rfl⟩ := hrel
    by_cases hlt : k < 12
    · have hc := HC.out k hlt
      by_cases hd : d ≤ ma y ((k : Int) + 1)
      · have HV := Lib.hid (Cal.mo_only y d k (by omega) (by omega) hk3 hd)
        go_wp2
        have hc2 := HC.out (k - 1) (by omega)
        rw [show (((k - 1 : Nat) : Int) + 1) = (k : Int) from by omega] at hc2
        have hm := Cal.ma_bd y k (by omega)
        clear hc
        go_quiet (fail)
        go_wp2
        rw [Exit.noGoto_ret]
        go_ret2
        exact ⟨ret2 HV.out.symm (by rw [HV.out]), hG⟩
      · go_wp2
        go_round
        case rel => exact ⟨k + 1, by omega, by omega, by rw [show (((k + 1 : Nat)) : Int) = (k : Int) + 1 from by omega]; omega, by go_num, rfl⟩
        case measure => simp [intOf]; omega
    · obtain rfl : k = 12 := by omega
      have HV := Lib.hid (Cal.mo_only y d 12 (by omega) (by omega) hk3 (by have := Cal.ma_end y; show d ≤ ma y 13; omega))
      go_wp2
      have hc2 := HC.out 11 (by omega)
      have hm := Cal.ma_bd y 12 (by omega)
      go_quiet (fail)
      go_wp2
      rw [Exit.noGoto_ret]
      go_ret2
      exact ⟨ret2 HV.out.symm (by rw [HV.out]), hG⟩

end Go.Proofs.YtepaiolhflpmeaaDoor.Greg
