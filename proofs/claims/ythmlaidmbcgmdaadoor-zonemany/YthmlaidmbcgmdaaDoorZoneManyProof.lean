/-
  A minute is told at most twice, Shift apart; without a shift just once: for every zone and every two ints. Condition: the table of months starts as the program's text lays it.
-/
import Derived.Test.YthmlaidmbcgmdaaDoorLift
namespace Go.Proofs.YthmlaidmbcgmdaaDoor.zoneMany
open Go.ChangeShapes Go.WideShapes Go.ChangeAt Go.RowKit Go.Joins
open Go.Proofs.YthmlaidmbcgmdaaDoor.Divs Go.Proofs.YthmlaidmbcgmdaaDoor.Grow Go.Proofs.YthmlaidmbcgmdaaDoor.Zo Go.Proofs.YthmlaidmbcgmdaaDoor.Zone
open Go.Proofs.YthmlaidmbcgmdaaDoor.Greg (Laid laidL own of_laid door_met Zwf zd open_zone shut_zone)
set_option linter.unusedVariables false

theorem none_any (z : Zn) (d m : Int) (w : World) (hL : Laid w) (h : ¬ iE z d m = 0) : Calls Tryd.prog 18 #[.agg (zc z), .int .i64 d, .int .i64 m] w fun e w' => ∃ a c, e = .returned (.tuple #[.slice a 0 c, .int .i64 (iE z d m)]) ∧ Later w w' := by
  refine (instants_any z d m w hL).mono ?_
  rintro e w' ⟨v, rfl, hs, hg⟩
  rw [iL_no z d m h] at hs
  obtain ⟨a, c, rfl⟩ := hs.none
  exact ⟨a, c, rfl, hg⟩

theorem walk_no (z : Zn) (d m : Int) (w : World) (hL : Laid w) (h : ¬ iE z d m = 0) : Calls Tryd.prog 8 #[.agg (zc z), .int .i64 d, .int .i64 m] w fun e w' => e = .returned (.bool true) ∧ Later w w' := by
  have HS := Lib.hid (fun W hW => none_any z d m W hW h)
  have HN := Lib.hid (Zat.new w z)
  have HW := Lib.hid ((Later.refl w).alloc (zc z) 25)
  have HL := Lib.hid (hL.grown HW.out)
  have A := Lib.hid awake_any
  have e2 : (iE z d m != 0) = true := by simpa using h
  clear hL h
  unfold zc at HL ⊢
  go_enter Tryd.func8, Tryd.ntmps8
  go_wp2_with fail
  refine (HS.out _ HL.out).mono ?_
  rintro e w1 ⟨a, c, rfl, hg1⟩
  have G1 : Hid (Later (w.alloc (.cells (zc z) 25)) w1) := Lib.hid hg1
  have L1 := Lib.hid (HL.out.grown hg1)
  clear hg1
  obtain ⟨k0, k1, k2, k3, k4, k5, k6, k7, k8, k9⟩ := HN.out.later G1.out
  go_wp2_with fail
  refine (A.out _ L1.out).mono ?_
  rintro e w2 ⟨rfl, hg2⟩
  go_wp2_with fail
  go_ret
  exact ⟨rfl, gtrans HW.out (gtrans G1.out hg2)⟩

theorem ins_still (z : Zn) (n : Int) (h : z.s = 0) : ins z n = [n - z.b] := by
  unfold ins
  rw [sm_zero z _ h, sm_zero z _ h]
  rfl

theorem ins_both (z : Zn) (n : Int) : ins z n = [] ∨ (∃ a, ins z n = [a]) ∨ ins z n = [n - z.b - z.s, n - z.b] := by
  unfold ins
  cases sm z (n - z.b - z.s) <;> cases sm z (n - z.b) <;> simp

theorem walk_still (z : Zn) (d m : Int) (w : World) (hL : Laid w) (hE : iE z d m = 0) (hs : z.s = 0) : Calls Tryd.prog 8 #[.agg (zc z), .int .i64 d, .int .i64 m] w fun e w' => e = .returned (.bool true) ∧ Later w w' := by
  obtain ⟨hm, d0, d1, m0, m1⟩ := (iE_ok z d m).1 hE
  obtain ⟨b0, b1, _⟩ := hm
  have S := fun W hW => instants_any z d m W hW
  rw [show iL z d m = [d * 1440 + m - z.b] by unfold iL; rw [if_pos hE, ins_still z _ hs], hE] at S
  have HS := Lib.hid S
  have HN := Lib.hid (Zat.new w z)
  have HW := Lib.hid ((Later.refl w).alloc (zc z) 25)
  have HL := Lib.hid (hL.grown HW.out)
  have A := Lib.hid awake_any
  have e0 : (z.s == 0) = true := by simpa using hs
  have e1 : (d * 1440 + m - z.b == d * 1440 + m - z.b) = true := by simp
  clear hL hE S hs
  unfold zc at HL ⊢
  go_enter Tryd.func8, Tryd.ntmps8
  go_wp2_with fail
  refine (HS.out _ HL.out).mono ?_
  rintro e w1 ⟨v, rfl, hv, hg1⟩
  obtain ⟨g, c, rfl, hc⟩ := hv.some
  have HC := Lib.hid (hc 0 _ rfl)
  clear hv hc
  have G1 : Hid (Later (w.alloc (.cells (zc z) 25)) w1) := Lib.hid hg1
  have L1 := Lib.hid (HL.out.grown hg1)
  clear hg1
  obtain ⟨k0, k1, k2, k3, k4, k5, k6, k7, k8, k9⟩ := HN.out.later G1.out
  go_wp2_with fail
  have d0 := gw_cell k0
  have d1 := gw_cell k1
  have d2 := gw_cell k2
  have d3 := gw_cell k3
  have d4 := gw_cell k4
  have d5 := gw_cell k5
  have d6 := gw_cell k6
  have d7 := gw_cell k7
  have d8 := gw_cell k8
  have d9 := gw_cell k9
  clear k0 k1 k2 k3 k4 k5 k6 k7 k8 k9
  have x0 := gw_cell HC.out
  have hL1 := L1.out
  refine region_grown (by kernel_rfl) (by kernel_rfl) ?_
  repeat (go_big_quiet_step ((go_at_call 10; exact in_grown (A.out _ (hL1.gw _)))))
  refine wpQuiet_nil (grown_end ?_)
  intro w2 hg2
  clear d0 d1 d2 d3 d4 d5 d6 d7 d8 d9
  clear x0 hL1
  go_wp2_with fail
  go_ret
  exact ⟨rfl, gtrans HW.out (gtrans G1.out hg2)⟩

theorem walk_none (z : Zn) (d m : Int) (w : World) (hL : Laid w) (hE : iE z d m = 0) (hs : ¬ z.s = 0) (hi : ins z (d * 1440 + m) = []) : Calls Tryd.prog 8 #[.agg (zc z), .int .i64 d, .int .i64 m] w fun e w' => e = .returned (.bool true) ∧ Later w w' := by
  have S := fun W hW => instants_any z d m W hW
  rw [show iL z d m = [] by unfold iL; rw [if_pos hE, hi], hE] at S
  have HS := Lib.hid S
  have HN := Lib.hid (Zat.new w z)
  have HW := Lib.hid ((Later.refl w).alloc (zc z) 25)
  have HL := Lib.hid (hL.grown HW.out)
  have A := Lib.hid awake_any
  have e0 : (z.s == 0) = false := by simpa using hs
  clear hL hE S hs hi
  unfold zc at HL ⊢
  go_enter Tryd.func8, Tryd.ntmps8
  go_wp2_with fail
  refine (HS.out _ HL.out).mono ?_
  rintro e w1 ⟨v, rfl, hv, hg1⟩
  obtain ⟨a, c, rfl⟩ := hv.none
  clear hv
  have G1 : Hid (Later (w.alloc (.cells (zc z) 25)) w1) := Lib.hid hg1
  have L1 := Lib.hid (HL.out.grown hg1)
  clear hg1
  obtain ⟨k0, k1, k2, k3, k4, k5, k6, k7, k8, k9⟩ := HN.out.later G1.out
  go_wp2_with fail
  have d0 := gw_cell k0
  have d1 := gw_cell k1
  have d2 := gw_cell k2
  have d3 := gw_cell k3
  have d4 := gw_cell k4
  have d5 := gw_cell k5
  have d6 := gw_cell k6
  have d7 := gw_cell k7
  have d8 := gw_cell k8
  have d9 := gw_cell k9
  clear k0 k1 k2 k3 k4 k5 k6 k7 k8 k9
  have hL1 := L1.out
  refine region_grown (by kernel_rfl) (by kernel_rfl) ?_
  repeat (go_big_quiet_step ((go_at_call 10; exact in_grown (A.out _ (hL1.gw _)))))
  refine wpQuiet_nil (grown_end ?_)
  intro w2 hg2
  clear d0 d1 d2 d3 d4 d5 d6 d7 d8 d9
  clear hL1
  go_wp2_with fail
  go_ret
  exact ⟨rfl, gtrans HW.out (gtrans G1.out hg2)⟩

theorem walk_one (z : Zn) (d m x : Int) (w : World) (hL : Laid w) (hE : iE z d m = 0) (hs : ¬ z.s = 0) (hi : ins z (d * 1440 + m) = [x]) : Calls Tryd.prog 8 #[.agg (zc z), .int .i64 d, .int .i64 m] w fun e w' => e = .returned (.bool true) ∧ Later w w' := by
  have S := fun W hW => instants_any z d m W hW
  rw [show iL z d m = [x] by unfold iL; rw [if_pos hE, hi], hE] at S
  have HS := Lib.hid S
  have HN := Lib.hid (Zat.new w z)
  have HW := Lib.hid ((Later.refl w).alloc (zc z) 25)
  have HL := Lib.hid (hL.grown HW.out)
  have A := Lib.hid awake_any
  have e0 : (z.s == 0) = false := by simpa using hs
  clear hL hE S hs hi
  unfold zc at HL ⊢
  go_enter Tryd.func8, Tryd.ntmps8
  go_wp2_with fail
  refine (HS.out _ HL.out).mono ?_
  rintro e w1 ⟨v, rfl, hv, hg1⟩
  obtain ⟨g, c, rfl, hc⟩ := hv.some
  have HC := Lib.hid (hc 0 _ rfl)
  clear hv hc
  have G1 : Hid (Later (w.alloc (.cells (zc z) 25)) w1) := Lib.hid hg1
  have L1 := Lib.hid (HL.out.grown hg1)
  clear hg1
  obtain ⟨k0, k1, k2, k3, k4, k5, k6, k7, k8, k9⟩ := HN.out.later G1.out
  go_wp2_with fail
  have d0 := gw_cell k0
  have d1 := gw_cell k1
  have d2 := gw_cell k2
  have d3 := gw_cell k3
  have d4 := gw_cell k4
  have d5 := gw_cell k5
  have d6 := gw_cell k6
  have d7 := gw_cell k7
  have d8 := gw_cell k8
  have d9 := gw_cell k9
  clear k0 k1 k2 k3 k4 k5 k6 k7 k8 k9
  have x0 := gw_cell HC.out
  have hL1 := L1.out
  refine region_grown (by kernel_rfl) (by kernel_rfl) ?_
  repeat (go_big_quiet_step ((go_at_call 10; exact in_grown (A.out _ (hL1.gw _)))))
  refine wpQuiet_nil (grown_end ?_)
  intro w2 hg2
  clear d0 d1 d2 d3 d4 d5 d6 d7 d8 d9
  clear x0 hL1
  go_wp2_with fail
  go_ret
  exact ⟨rfl, gtrans HW.out (gtrans G1.out hg2)⟩

theorem walk_two (z : Zn) (d m : Int) (w : World) (hL : Laid w) (hE : iE z d m = 0) (hs : ¬ z.s = 0) (hi : ins z (d * 1440 + m) = [d * 1440 + m - z.b - z.s, d * 1440 + m - z.b]) : Calls Tryd.prog 8 #[.agg (zc z), .int .i64 d, .int .i64 m] w fun e w' => e = .returned (.bool true) ∧ Later w w' := by
  obtain ⟨hm, d0, d1, m0, m1⟩ := (iE_ok z d m).1 hE
  obtain ⟨b0, b1, s0, s1, _⟩ := hm
  have S := fun W hW => instants_any z d m W hW
  rw [show iL z d m = [d * 1440 + m - z.b - z.s, d * 1440 + m - z.b] by unfold iL; rw [if_pos hE, hi], hE] at S
  have HS := Lib.hid S
  have HN := Lib.hid (Zat.new w z)
  have HW := Lib.hid ((Later.refl w).alloc (zc z) 25)
  have HL := Lib.hid (hL.grown HW.out)
  have A := Lib.hid awake_any
  have e0 : (z.s == 0) = false := by simpa using hs
  have e1 : (d * 1440 + m - z.b - (d * 1440 + m - z.b - z.s) == z.s) = true := by simp; omega
  clear hL hE S hs hi
  unfold zc at HL ⊢
  go_enter Tryd.func8, Tryd.ntmps8
  go_wp2_with fail
  refine (HS.out _ HL.out).mono ?_
  rintro e w1 ⟨v, rfl, hv, hg1⟩
  obtain ⟨g, c, rfl, hc⟩ := hv.some
  have HC0 := Lib.hid (hc 0 _ rfl)
  have HC1 := Lib.hid (hc 1 _ rfl)
  clear hv hc
  have G1 : Hid (Later (w.alloc (.cells (zc z) 25)) w1) := Lib.hid hg1
  have L1 := Lib.hid (HL.out.grown hg1)
  clear hg1
  obtain ⟨k0, k1, k2, k3, k4, k5, k6, k7, k8, k9⟩ := HN.out.later G1.out
  go_wp2_with fail
  have d0 := gw_cell k0
  have d1 := gw_cell k1
  have d2 := gw_cell k2
  have d3 := gw_cell k3
  have d4 := gw_cell k4
  have d5 := gw_cell k5
  have d6 := gw_cell k6
  have d7 := gw_cell k7
  have d8 := gw_cell k8
  have d9 := gw_cell k9
  clear k0 k1 k2 k3 k4 k5 k6 k7 k8 k9
  have x0 := gw_cell HC0.out
  have x1 := gw_cell HC1.out
  have hL1 := L1.out
  refine region_grown (by kernel_rfl) (by kernel_rfl) ?_
  repeat (go_big_quiet_step ((go_at_call 10; exact in_grown (A.out _ (hL1.gw _)))))
  refine wpQuiet_nil (grown_end ?_)
  intro w2 hg2
  clear d0 d1 d2 d3 d4 d5 d6 d7 d8 d9
  clear x0 x1 hL1
  go_wp2_with fail
  go_ret
  exact ⟨rfl, gtrans HW.out (gtrans G1.out hg2)⟩

theorem walk (z : Zn) (d m : Int) (hz : Zwf z) (hd : (Lit.int .i64 d).wf = true) (hm : (Lit.int .i64 m).wf = true) (w : World) (hL : Laid w) : Calls Tryd.prog 8 #[.agg (zc z), .int .i64 d, .int .i64 m] w fun e w' => e = .returned (.bool true) ∧ Later w w' := by
  by_cases h : iE z d m = 0
  · by_cases hs : z.s = 0
    · exact walk_still z d m w hL h hs
    · rcases ins_both z (d * 1440 + m) with hi | ⟨x, hi⟩ | hi
      · exact walk_none z d m w hL h hs hi
      · exact walk_one z d m x w hL h hs hi
      · exact walk_two z d m w hL h hs hi
  · exact walk_no z d m w hL h

set_option maxHeartbeats 1000000 in
set_option maxRecDepth 100000 in
theorem lifted (os : Os) (started : os.Started) (H : Type) (enc : TypeId × Value → H) :
    ReturnsInHanded {} Tryd.checked os 8 .any (fun w args => (Rows.zoneManySpec.pre enc Tryd.prog Tryd.f8 [] false w args ∧ laidMetH Tryd.prog laidL w) ∧ sizedMet enc Tryd.prog Tryd.f8 (OpenSpec.ofChange Rows.zoneManySpec) false w args)
      (Rows.zoneManySpec.post enc Tryd.prog Tryd.f8 false true false false) := by
  refine returnsInHanded_of_change_and (C := Tryd.checked) (X := fun w _ => laidMetH Tryd.prog laidL w) (fun _ _ _ hh h => h.of_heap hh) own started (by kernel_rfl) Tryd.func8
    (ChangeSpec.witness_shaped (enc := enc) (C := Tryd.checked) (os := os) (X := fun w _ => laidMetH Tryd.prog laidL w) false (World.doorLaid Tryd.prog 400 os) #[.agg #[.int .i64 0, .int .i64 0, .int .i64 0, .int .i64 0, .int .i64 0, .int .i64 0, .int .i64 0, .int .i64 0, .int .i64 0, .int .i64 0], .int .i64 0, .int .i64 0] 8 rfl (World.shaped_of_RefB (by kernel_rfl) (by kernel_rfl)) (by kernel_rfl) (by kernel_rfl) (by kernel_rfl) (door_met os _)) ?_
  intro W base args ds gs before hval0 hW _ _ hL _
  have hval : ∀ (j : Nat) t v, Tryd.f8.params[j]? = some t → args[j]? = some v → Value.okWide Tryd.prog W .any base t v := hval0
  have hW' := hW
  obtain ⟨p, q, hA0, hV, rfl, hfz, hnd⟩ := hW
  have hA : DataW.TrodAll enc Tryd.prog W 0 (fun _ => true) true Tryd.f8.params.toList args.toList ds p := hA0
  rw [Tryd.params8] at hA hval
  obtain ⟨v0, vs0, d0, ds0, p0, q0, hargs, rfl, rfl, h0, r0⟩ := trodAll_cons hA
  obtain ⟨v1, vs1, d1, ds1, p1, q1, rfl, rfl, rfl, h1, r1⟩ := trodAll_cons r0
  obtain ⟨v2, vs2, d2, ds2, p2, q2, rfl, rfl, rfl, h2, r2⟩ := trodAll_cons r1
  obtain ⟨rfl, rfl, rfl⟩ := trodAll_nil r2
  obtain rfl : args = #[v0, v1, v2] := by cases args; simp_all
  obtain ⟨rfl, rfl⟩ := trodVars_none hV
  obtain ⟨a0, rfl, rfl, rfl, w0⟩ := open_zone (hval 0 25 v0 rfl rfl) h0
  obtain ⟨a1, rfl, rfl, rfl, w1⟩ := open_int Tryd.underlying3 (hval 1 3 v1 rfl rfl) h1
  obtain ⟨a2, rfl, rfl, rfl, w2⟩ := open_int Tryd.underlying3 (hval 2 3 v2 rfl rfl) h2
  clear hA0 hval0
  simp only [List.append_nil] at hW'
  refine (walk a0 a1 a2 w0 w1 w2 W (of_laid hL)).mono fun e W' ⟨he, hg⟩ => ?_
  subst he
  exact ⟨_, rfl, post_bare hW' (fun _ _ _ => (trodAll_cons_mk (shut_bool Tryd.underlying4 _) trodAll_mk0)) (fun sp => (trodAll_cons_mk (shut_zone a0 w0) (trodAll_cons_mk (shut_int Tryd.underlying3 w1) (trodAll_cons_mk (shut_int Tryd.underlying3 w2) trodAll_mk0)))) (fun _ => rfl) hg
    (ok_one (by kernel_rfl) rfl (okWide_bool_mk Tryd.underlying4 _))⟩

theorem over : Rows.zoneManyRow.holds Tryd.pinned (OpenSpec.ofChange Rows.zoneManySpec) :=
  OpenClaim.holds_of_wide 8 Tryd.f8 rfl rfl rfl rfl rfl rfl rfl ⟨rfl, rfl, rfl, rfl, rfl⟩ rfl rfl rfl rfl rfl (by kernel_rfl) Tryd.func8 (by kernel_rfl)
    (of_decide_eq_true (by kernel_rfl)) (by unfold Func.isWrapper; first | (rw [if_pos (by decide +kernel)]; kernel_rfl) | (rw [if_neg (by decide +kernel)]; exact ⟨rfl, rfl⟩))
    (fun os started H enc _ => lifted os started H enc)

/-- The statement. -/
theorem proved : Rows.ZoneManyCardSaid :=
  Claim7.holds_tied_plain_at .later [] [.data] true (true, "f5e48cc57892619de836986e666817daa5421fbb5699f7094e0e3d8dbc488e05") false
    over (fun _ h => by cases h) (by kernel_rfl) (fun _ h => by cases h) zoneMany_row_tie rfl ⟨rfl, rfl⟩ (by kernel_rfl) rfl
    (fun f fn hf hfn => by
      obtain rfl : f = 8 := Option.some.inj ((show Tryd.prog.funcNamed "newel/newellaw06.ZoneMany" = some 8 by kernel_rfl).symm.trans hf) |>.symm
      obtain rfl : fn = Tryd.f8 := (Option.some.inj (Tryd.func8.symm.trans hfn)).symm
      exact ⟨by kernel_rfl, fun j t ht => by
        rw [Tryd.params8] at ht
        have hm : t ∈ [25, 3, 3] := by simpa using Array.mem_of_getElem? ht
        have hall : ([25, 3, 3].all fun u => !Tryd.prog.wantsStandIn u) = true := by kernel_rfl
        exact (show Tryd.prog.wantsStandIn t = false by simpa using List.all_eq_true.1 hall t hm)⟩)
    (by kernel_rfl)
#print axioms proved
end Go.Proofs.YthmlaidmbcgmdaaDoor.zoneMany
