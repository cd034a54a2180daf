/-
  The chapter's example is met by the program. Condition: the table of months lies where the program lays it.
-/
import Derived.Test.YtepaiolhflpmeaaDoorSr
namespace Go.Proofs.YtepaiolhflpmeaaDoor.Sun
open Go.ChangeShapes Go.WideShapes Go.ChangeAt Go.RowKit
open Go.Proofs.YtepaiolhflpmeaaDoor.Divs Go.Proofs.YtepaiolhflpmeaaDoor.Grow Go.Proofs.YtepaiolhflpmeaaDoor.Zone
open Go.Proofs.YtepaiolhflpmeaaDoor.Greg (Laid)
open Go.Proofs.YtepaiolhflpmeaaDoor.Cal (dm dn yr om od)
open Go.Proofs.YtepaiolhflpmeaaDoor.Zo Go.Proofs.YtepaiolhflpmeaaDoor.Su

def s0 : Nat → Int := fun i => [1000, 1050, 1100, 1150, 1180, 1200, 1170, 1130, 1080, 1030, 1000, 990].getD i 0
def z1 : Zn := ⟨60, 0, ⟨0, 0, 0, 0⟩, ⟨0, 0, 0, 0⟩⟩

theorem ex_n : dn 2023 6 16 = 738687 := by decide +kernel
theorem ex_m : 16 ≤ dm 2023 6 := by decide +kernel
theorem ex_sk : sk s0 = 0 := by decide +kernel
theorem ex_a : aV s0 738687 = 1185 := by decide +kernel
theorem ex_e : aE s0 738687 = 0 := by decide +kernel
theorem ex_t : mV z1 s0 738687 = 1063710405 := by decide +kernel
theorem ex_f : mE z1 s0 738687 = 0 := by decide +kernel

theorem aw_day (w : World) (hL : Laid w) : Calls Tryd.prog 16 #[.agg #[.int .i64 2023, .int .i64 6, .int .i64 16]] w fun e w' => e = .returned (.tuple #[.int .i64 738687, .int .i64 0]) ∧ Later w w' := by
  have := Greg.day_yes 2023 6 16 w hL (by omega) (by omega) (by omega) (by omega) (by omega) ex_m
  rw [ex_n] at this
  exact this

theorem aw_at (w : World) (hL : Laid w) : Calls Tryd.prog 10 #[.agg #[.int .i64 1000, .int .i64 1050, .int .i64 1100, .int .i64 1150, .int .i64 1180, .int .i64 1200, .int .i64 1170, .int .i64 1130, .int .i64 1080, .int .i64 1030, .int .i64 1000, .int .i64 990], .int .i64 738687] w fun e w' => e = .returned (.tuple #[.int .i64 1185, .int .i64 0]) ∧ Later w w' := by
  have := at_any s0 738687 w hL
  rw [ex_a, ex_e] at this
  exact this

theorem aw_moment (w : World) (hL : Laid w) : Calls Tryd.prog 12 #[.agg #[.int .i64 60, .int .i64 0, .int .i64 0, .int .i64 0, .int .i64 0, .int .i64 0, .int .i64 0, .int .i64 0, .int .i64 0, .int .i64 0], .agg #[.int .i64 1000, .int .i64 1050, .int .i64 1100, .int .i64 1150, .int .i64 1180, .int .i64 1200, .int .i64 1170, .int .i64 1130, .int .i64 1080, .int .i64 1030, .int .i64 1000, .int .i64 990], .int .i64 738687] w fun e w' => e = .returned (.tuple #[.int .i64 1063710405, .int .i64 0]) ∧ Later w w' := by
  have := moment_any z1 s0 738687 w hL
  rw [ex_t, ex_f] at this
  exact this

theorem aw_check (w : World) : Calls Tryd.prog 8 #[.agg #[.int .i64 1000, .int .i64 1050, .int .i64 1100, .int .i64 1150, .int .i64 1180, .int .i64 1200, .int .i64 1170, .int .i64 1130, .int .i64 1080, .int .i64 1030, .int .i64 1000, .int .i64 990]] w fun e w' => e = .returned (.int .i64 0) ∧ Later w w' := by
  have := check_any s0 w
  rw [ex_sk] at this
  exact this

theorem aw_tab (w : World) : Sat (w.alloc (.cells #[.int .i64 1000, .int .i64 1050, .int .i64 1100, .int .i64 1150, .int .i64 1180, .int .i64 1200, .int .i64 1170, .int .i64 1130, .int .i64 1080, .int .i64 1030, .int .i64 1000, .int .i64 990] 23)) w.heap.size s0 := Sat.new w s0

set_option maxHeartbeats 1000000 in
theorem awake_any (w : World) (hL : Laid w) : Calls Tryd.prog 7 #[] w fun e w' => e = .returned (.bool true) ∧ Later w w' := by
  have D := Lib.hid (fun W hW => aw_day W hW)
  have A := Lib.hid (fun W hW => aw_at W hW)
  have M := Lib.hid (fun W hW => aw_moment W hW)
  have C := Lib.hid (fun W => aw_check W)
  have HT := Lib.hid (aw_tab w)
  have HG0 := Lib.hid ((Later.refl w).alloc #[.int .i64 1000, .int .i64 1050, .int .i64 1100, .int .i64 1150, .int .i64 1180, .int .i64 1200, .int .i64 1170, .int .i64 1130, .int .i64 1080, .int .i64 1030, .int .i64 1000, .int .i64 990] 23)
  have HL := Lib.hid hL
  clear hL
  go_enter Tryd.func7, Tryd.ntmps7
  go_wp2_with fail
  refine (D.out _ (HL.out.grown HG0.out)).mono ?_
  rintro e w1 ⟨rfl, hg1⟩
  have HG1 := Lib.hid hg1
  clear hg1
  obtain ⟨k0, k1, k2, k3, k4, k5, k6, k7, k8, k9, k10, k11⟩ := (HT.out.later HG1.out).all
  simp only [s0, List.getD_cons_zero, List.getD_cons_succ] at k0 k1 k2 k3 k4 k5 k6 k7 k8 k9 k10 k11
  go_wp2_with fail
  refine (A.out _ (HL.out.grown (gtrans HG0.out HG1.out))).mono ?_
  rintro e w2 ⟨rfl, hg2⟩
  have HG2 := Lib.hid (gtrans HG1.out hg2)
  clear hg2 k0 k1 k2 k3 k4 k5 k6 k7 k8 k9 k10 k11
  obtain ⟨k0, k1, k2, k3, k4, k5, k6, k7, k8, k9, k10, k11⟩ := (HT.out.later HG2.out).all
  simp only [s0, List.getD_cons_zero, List.getD_cons_succ] at k0 k1 k2 k3 k4 k5 k6 k7 k8 k9 k10 k11
  go_wp2_with fail
  refine (M.out _ (HL.out.grown (gtrans HG0.out HG2.out))).mono ?_
  rintro e w3 ⟨rfl, hg3⟩
  have HG3 := Lib.hid (gtrans HG2.out hg3)
  clear hg3 k0 k1 k2 k3 k4 k5 k6 k7 k8 k9 k10 k11
  obtain ⟨k0, k1, k2, k3, k4, k5, k6, k7, k8, k9, k10, k11⟩ := (HT.out.later HG3.out).all
  simp only [s0, List.getD_cons_zero, List.getD_cons_succ] at k0 k1 k2 k3 k4 k5 k6 k7 k8 k9 k10 k11
  go_wp2_with fail
  refine (C.out _).mono ?_
  rintro e w4 ⟨rfl, hg4⟩
  clear k0 k1 k2 k3 k4 k5 k6 k7 k8 k9 k10 k11
  go_wp2_with fail
  go_ret
  exact ⟨rfl, gtrans HG0.out (gtrans HG3.out hg4)⟩

end Go.Proofs.YtepaiolhflpmeaaDoor.Sun
