/-
  What the chapter's example of layer 6 fixes. Condition: the table of months lies where the program lays it.
-/
import Derived.Test.YthmlaidmbcgmdaaDoorZs
import Derived.Test.YthmlaidmbcgmdaaDoorZm
namespace Go.Proofs.YthmlaidmbcgmdaaDoor.Zone
open Go.ChangeShapes Go.WideShapes Go.ChangeAt Go.RowKit
open Go.Proofs.YthmlaidmbcgmdaaDoor.Divs Go.Proofs.YthmlaidmbcgmdaaDoor.Grow
open Go.Proofs.YthmlaidmbcgmdaaDoor.Greg (Laid)
open Go.Proofs.YthmlaidmbcgmdaaDoor.Zo

/-- The chapter's zone. -/
def z0 : Zn := ⟨60, 60, ⟨3, 5, 0, 120⟩, ⟨10, 5, 0, 120⟩⟩

theorem ex_ck : ck z0 = 0 := by decide +kernel
theorem ex_e1 : iE z0 738605 179 = 0 := by decide +kernel
theorem ex_e2 : iE z0 738822 120 = 0 := by decide +kernel
theorem ex_e3 : iE z0 738605 180 = 0 := by decide +kernel
theorem ex_l1 : iL z0 738605 179 = [] := by decide +kernel
theorem ex_l2 : iL z0 738822 120 = [1063903680, 1063903740] := by decide +kernel
theorem ex_l3 : iL z0 738605 180 = [1063591260] := by decide +kernel
theorem ex_d : lD z0 1063591260 = 738605 := by decide +kernel
theorem ex_m : lM z0 1063591260 = 180 := by decide +kernel
theorem ex_s : sE z0 1063591260 = 0 := by decide +kernel
theorem ex_v : sV z0 1063591260 = true := by decide +kernel

theorem aw_1 (w : World) (hL : Laid w) : Calls Tryd.prog 18 #[.agg (zc z0), .int .i64 738605, .int .i64 179] w fun e w' => ∃ a c, e = .returned (.tuple #[.slice a 0 c, .int .i64 0]) ∧ Later w w' := by
  refine (instants_any z0 738605 179 w hL).mono ?_
  rintro e w' ⟨v, rfl, hs, hg⟩
  rw [ex_l1] at hs
  obtain ⟨a, c, rfl⟩ := hs.none
  exact ⟨a, c, by rw [ex_e1], hg⟩

theorem aw_2 (w : World) (hL : Laid w) : Calls Tryd.prog 18 #[.agg (zc z0), .int .i64 738822, .int .i64 120] w fun e w' => ∃ g c, e = .returned (.tuple #[.slice (some ⟨g, 0, none⟩) 2 c, .int .i64 0]) ∧ w'.cell? ⟨g, 0, none⟩ = some (.int .i64 1063903680) ∧ w'.cell? ⟨g, 1, none⟩ = some (.int .i64 1063903740) ∧ Later w w' := by
  refine (instants_any z0 738822 120 w hL).mono ?_
  rintro e w' ⟨v, rfl, hs, hg⟩
  rw [ex_l2] at hs
  obtain ⟨g, c, rfl, hc⟩ := hs.some
  exact ⟨g, c, by rw [ex_e2]; rfl, hc 0 _ rfl, hc 1 _ rfl, hg⟩

theorem aw_3 (w : World) (hL : Laid w) : Calls Tryd.prog 18 #[.agg (zc z0), .int .i64 738605, .int .i64 180] w fun e w' => ∃ g c, e = .returned (.tuple #[.slice (some ⟨g, 0, none⟩) 1 c, .int .i64 0]) ∧ w'.cell? ⟨g, 0, none⟩ = some (.int .i64 1063591260) ∧ Later w w' := by
  refine (instants_any z0 738605 180 w hL).mono ?_
  rintro e w' ⟨v, rfl, hs, hg⟩
  rw [ex_l3] at hs
  obtain ⟨g, c, rfl, hc⟩ := hs.some
  exact ⟨g, c, by rw [ex_e3]; rfl, hc 0 _ rfl, hg⟩

theorem aw_local (w : World) (hL : Laid w) : Calls Tryd.prog 14 #[.agg (zc z0), .int .i64 1063591260] w fun e w' => e = .returned (.tuple #[.int .i64 738605, .int .i64 180, .int .i64 0]) ∧ Later w w' := by
  have h := local_any z0 1063591260 w hL
  rw [ex_d, ex_m, ex_s] at h
  exact h

theorem aw_summer (w : World) (hL : Laid w) : Calls Tryd.prog 13 #[.agg (zc z0), .int .i64 1063591260] w fun e w' => e = .returned (.tuple #[.bool true, .int .i64 0]) ∧ Later w w' := by
  have h := summer_any z0 1063591260 w hL
  rw [ex_v, ex_s] at h
  exact h

theorem aw_check (w : World) : Calls Tryd.prog 11 #[.agg (zc z0)] w fun e w' => e = .returned (.int .i64 0) ∧ Later w w' := by
  have h := check_any z0 w
  rw [ex_ck] at h
  exact h

set_option maxHeartbeats 4000000 in
theorem awake_any (w : World) (hL : Laid w) : Calls Tryd.prog 10 #[] w fun e w' => e = .returned (.bool true) ∧ Later w w' := by
  have A1 := Lib.hid aw_1
  have A2 := Lib.hid aw_2
  have A3 := Lib.hid aw_3
  have AL := Lib.hid aw_local
  have AS := Lib.hid aw_summer
  have AC := Lib.hid aw_check
  have HN := Lib.hid (Zat.new w z0)
  have HL := Lib.hid hL
  clear hL
  go_enter Tryd.func10, Tryd.ntmps10
  go_wp2_with fail
  refine (A1.out _ (HL.out.grown ((Later.refl w).alloc _ _))).mono ?_
  rintro e w1 ⟨a1, c1, rfl, hg1⟩
  have HG1 : Hid (Later (w.alloc (.cells (zc z0) 25)) w1) := Lib.hid hg1
  have HW := Lib.hid ((Later.refl w).alloc (zc z0) 25)
  obtain ⟨k0, k1, k2, k3, k4, k5, k6, k7, k8, k9⟩ := HN.out.later HG1.out
  clear hg1
  go_wp2_with fail
  refine (A2.out _ (HL.out.grown (gtrans HW.out HG1.out))).mono ?_
  rintro e w2 ⟨g2, c2, rfl, x0, x1, hg2⟩
  have HX0 := Lib.hid x0
  have HX1 := Lib.hid x1
  have HG2 := Lib.hid (gtrans HG1.out hg2)
  clear k0 k1 k2 k3 k4 k5 k6 k7 k8 k9 hg2 x0 x1
  obtain ⟨k0, k1, k2, k3, k4, k5, k6, k7, k8, k9⟩ := HN.out.later HG2.out
  go_wp2_with fail
  refine (A3.out _ (HL.out.grown (gtrans HW.out HG2.out))).mono ?_
  rintro e w3 ⟨g3, c3, rfl, y0, hg3⟩
  have HY0 := Lib.hid y0
  have HX03 := Lib.hid (gsome hg3 HX0.out)
  have HX13 := Lib.hid (gsome hg3 HX1.out)
  have HG3 := Lib.hid (gtrans HG2.out hg3)
  clear k0 k1 k2 k3 k4 k5 k6 k7 k8 k9 hg3 y0
  go_wp2_with fail
  obtain ⟨k0, k1, k2, k3, k4, k5, k6, k7, k8, k9⟩ := HN.out.later HG3.out
  have d0 := gw_cell k0
  have d1 := gw_cell k1
  have d2 := gw_cell k2
  have d3 := gw_cell k3
  have d4 := gw_cell k4
  have d5 := gw_cell k5
  have d6 := gw_cell k6
  have d7 := gw_cell k7
  have d8 := gw_cell k8
  have d9 := gw_cell k9
  have y := gw_cell HY0.out
  have hL3 : Laid w3 := HL.out.grown (gtrans HW.out HG3.out)
  clear k0 k1 k2 k3 k4 k5 k6 k7 k8 k9
  refine region_grown (by kernel_rfl) (by kernel_rfl) ?_
  repeat (go_big_quiet_step ((go_at_call 14; exact in_grown (AL.out _ (hL3.gw _)))))
  refine wpQuiet_nil (grown_end ?_)
  intro w4 hg4
  have HG4 := Lib.hid (gtrans HG3.out hg4)
  have HY4 := Lib.hid (gsome hg4 HY0.out)
  have HX04 := Lib.hid (gsome hg4 HX03.out)
  have HX14 := Lib.hid (gsome hg4 HX13.out)
  clear d0 d1 d2 d3 d4 d5 d6 d7 d8 d9 y hL3 hg4
  go_wp2_with fail
  obtain ⟨k0, k1, k2, k3, k4, k5, k6, k7, k8, k9⟩ := HN.out.later HG4.out
  have d0 := gw_cell k0
  have d1 := gw_cell k1
  have d2 := gw_cell k2
  have d3 := gw_cell k3
  have d4 := gw_cell k4
  have d5 := gw_cell k5
  have d6 := gw_cell k6
  have d7 := gw_cell k7
  have d8 := gw_cell k8
  have d9 := gw_cell k9
  have y := gw_cell HY4.out
  have hL4 : Laid w4 := HL.out.grown (gtrans HW.out HG4.out)
  clear k0 k1 k2 k3 k4 k5 k6 k7 k8 k9
  refine region_grown (by kernel_rfl) (by kernel_rfl) ?_
  repeat (go_big_quiet_step ((go_at_call 13; exact in_grown (AS.out _ (hL4.gw _)))))
  refine wpQuiet_nil (grown_end ?_)
  intro w5 hg5
  have HG5 := Lib.hid (gtrans HG4.out hg5)
  have HX05 := Lib.hid (gsome hg5 HX04.out)
  have HX15 := Lib.hid (gsome hg5 HX14.out)
  clear d0 d1 d2 d3 d4 d5 d6 d7 d8 d9 y hL4 hg5
  go_wp2_with fail
  obtain ⟨k0, k1, k2, k3, k4, k5, k6, k7, k8, k9⟩ := HN.out.later HG5.out
  have d0 := gw_cell k0
  have d1 := gw_cell k1
  have d2 := gw_cell k2
  have d3 := gw_cell k3
  have d4 := gw_cell k4
  have d5 := gw_cell k5
  have d6 := gw_cell k6
  have d7 := gw_cell k7
  have d8 := gw_cell k8
  have d9 := gw_cell k9
  have y0 := gw_cell HX05.out
  have y1 := gw_cell HX15.out
  clear k0 k1 k2 k3 k4 k5 k6 k7 k8 k9
  refine region_grown (by kernel_rfl) (by kernel_rfl) ?_
  repeat (go_big_quiet_step ((go_at_call 11; exact in_grown (AC.out _))))
  refine wpQuiet_nil (grown_end ?_)
  intro w6 hg6
  clear d0 d1 d2 d3 d4 d5 d6 d7 d8 d9 y0 y1
  go_wp2_with fail
  go_ret
  exact ⟨rfl, gtrans (gtrans HW.out HG5.out) hg6⟩

end Go.Proofs.YthmlaidmbcgmdaaDoor.Zone
