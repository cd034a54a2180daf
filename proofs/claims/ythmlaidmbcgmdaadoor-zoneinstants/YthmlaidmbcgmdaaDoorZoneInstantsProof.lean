/-
  The instants at which clocks tell any minute are the document's, for every zone and every two ints. Condition: the table of months starts as the program's text lays it.
-/
import Derived.Test.YthmlaidmbcgmdaaDoorLift
namespace Go.Proofs.YthmlaidmbcgmdaaDoor.zoneInstants
open Go.ChangeShapes Go.WideShapes Go.ChangeAt Go.RowKit Go.Joins
open Go.Proofs.YthmlaidmbcgmdaaDoor.Divs Go.Proofs.YthmlaidmbcgmdaaDoor.Grow Go.Proofs.YthmlaidmbcgmdaaDoor.Zo Go.Proofs.YthmlaidmbcgmdaaDoor.Zone
open Go.Proofs.YthmlaidmbcgmdaaDoor.Greg (Laid laidL own of_laid door_met Zwf zd open_zone shut_zone)
set_option linter.unusedVariables false

theorem none_any (z : Zn) (d m : Int) (w : World) (hL : Laid w) (h : ¬ iE z d m = 0) : Calls Tryd.prog 18 #[.agg (zc z), .int .i64 d, .int .i64 m] w fun e w' => ∃ a c, e = .returned (.tuple #[.slice a 0 c, .int .i64 (iE z d m)]) ∧ Later w w' := by
  refine (instants_any z d m w hL).mono ?_
  rintro e w' ⟨v, rfl, hs, hg⟩
  rw [iL_no z d m h] at hs
  obtain ⟨a, c, rfl⟩ := hs.none
  exact ⟨a, c, rfl, hg⟩

theorem walk_zone (z : Zn) (d m : Int) (w : World) (hL : Laid w) (h : ¬ ck z = 0) : Calls Tryd.prog 5 #[.agg (zc z), .int .i64 d, .int .i64 m] w fun e w' => e = .returned (.bool true) ∧ Later w w' := by
  have hE : iE z d m = ck z := by unfold iE; rw [if_neg h]
  have S := fun W hW => none_any z d m W hW (by omega)
  rw [hE] at S
  have HS := Lib.hid S
  have R := Lib.hid (fun W => rcheck_any z W)
  have HN := Lib.hid (Zat.new w z)
  have HW := Lib.hid ((Later.refl w).alloc (zc z) 25)
  have HL := Lib.hid (hL.grown HW.out)
  have A := Lib.hid awake_any
  have e0 : (ck z == ck z) = true := by simp
  have e1 : (ck z == 0) = false := by simpa using h
  have e2 : (ck z != 0) = true := by simpa using h
  clear hL h hE S
  unfold zc at HL ⊢
  go_enter Tryd.func5, Tryd.ntmps5
  go_wp2_with fail
  refine (HS.out _ HL.out).mono ?_
  rintro e w1 ⟨a, c, rfl, hg1⟩
  have G1 : Hid (Later (w.alloc (.cells (zc z) 25)) w1) := Lib.hid hg1
  have L1 := Lib.hid (HL.out.grown hg1)
  clear hg1
  obtain ⟨k0, k1, k2, k3, k4, k5, k6, k7, k8, k9⟩ := HN.out.later G1.out
  go_wp2_with fail
  refine (R.out _).mono ?_
  rintro e w2 ⟨rfl, hg2⟩
  have G2 := Lib.hid (gtrans G1.out hg2)
  have L2 := Lib.hid (L1.out.grown hg2)
  clear hg2
  clear k0 k1 k2 k3 k4 k5 k6 k7 k8 k9
  go_wp2_with fail
  refine (A.out _ L2.out).mono ?_
  rintro e w3 ⟨rfl, hg3⟩
  go_wp2_with fail
  go_ret
  exact ⟨rfl, gtrans HW.out (gtrans G2.out hg3)⟩

theorem walk_day (z : Zn) (d m : Int) (w : World) (hL : Laid w) (h : ck z = 0) (hd : ¬ (401 ≤ d ∧ d ≤ 3651998 ∧ 0 ≤ m ∧ m ≤ 1439)) : Calls Tryd.prog 5 #[.agg (zc z), .int .i64 d, .int .i64 m] w fun e w' => e = .returned (.bool true) ∧ Later w w' := by
  have hE : iE z d m = 64 := by unfold iE; rw [if_pos h, if_neg hd]
  have S := fun W hW => none_any z d m W hW (by omega)
  rw [hE] at S
  have HS := Lib.hid S
  have R := fun W => rcheck_any z W
  rw [h] at R
  have HR := Lib.hid R
  have D := fun W => rday_any d m W
  rw [show dyB d m = false by unfold dyB; simpa using hd] at D
  have HD := Lib.hid D
  have HN := Lib.hid (Zat.new w z)
  have HW := Lib.hid ((Later.refl w).alloc (zc z) 25)
  have HL := Lib.hid (hL.grown HW.out)
  have A := Lib.hid awake_any
  clear hL h hE S R D hd
  unfold zc at HL ⊢
  go_enter Tryd.func5, Tryd.ntmps5
  go_wp2_with fail
  refine (HS.out _ HL.out).mono ?_
  rintro e w1 ⟨a, c, rfl, hg1⟩
  have G1 : Hid (Later (w.alloc (.cells (zc z) 25)) w1) := Lib.hid hg1
  have L1 := Lib.hid (HL.out.grown hg1)
  clear hg1
  obtain ⟨k0, k1, k2, k3, k4, k5, k6, k7, k8, k9⟩ := HN.out.later G1.out
  go_wp2_with fail
  refine (HR.out _).mono ?_
  rintro e w2 ⟨rfl, hg2⟩
  have G2 := Lib.hid (gtrans G1.out hg2)
  have L2 := Lib.hid (L1.out.grown hg2)
  clear hg2
  clear k0 k1 k2 k3 k4 k5 k6 k7 k8 k9
  go_wp2_with fail
  refine (HD.out _).mono ?_
  rintro e w' ⟨rfl, rfl⟩
  go_wp2_with fail
  refine (A.out _ L2.out).mono ?_
  rintro e w3 ⟨rfl, hg3⟩
  go_wp2_with fail
  go_ret
  exact ⟨rfl, gtrans HW.out (gtrans G2.out hg3)⟩

theorem walk_yes (z : Zn) (d m : Int) (w : World) (hL : Laid w) (hE : iE z d m = 0) : Calls Tryd.prog 5 #[.agg (zc z), .int .i64 d, .int .i64 m] w fun e w' => e = .returned (.bool true) ∧ Later w w' := by
  obtain ⟨hm, d0, d1, m0, m1⟩ := (iE_ok z d m).1 hE
  have S := fun W hW => instants_any z d m W hW
  rw [show iL z d m = ins z (d * 1440 + m) by unfold iL; rw [if_pos hE], hE] at S
  have HS := Lib.hid S
  have R := fun W => rcheck_any z W
  rw [(ck_may z).2 hm] at R
  have HR := Lib.hid R
  have D := fun W => rday_any d m W
  rw [(dyB_iff d m).2 ⟨d0, d1, m0, m1⟩] at D
  have HD := Lib.hid D
  have I := Lib.hid (fun W => rinstants_any z d m W hm d0 d1 m0 m1)
  have Q := Lib.hid (fun u v W hu hv => rsame_any z (d * 1440 + m) u v W hu hv)
  have HN := Lib.hid (Zat.new w z)
  have HW := Lib.hid ((Later.refl w).alloc (zc z) 25)
  have HL := Lib.hid (hL.grown HW.out)
  have A := Lib.hid awake_any
  clear hL hE S R D hm d0 d1 m0 m1
  unfold zc at HL ⊢
  go_enter Tryd.func5, Tryd.ntmps5
  go_wp2_with fail
  refine (HS.out _ HL.out).mono ?_
  rintro e w1 ⟨v, rfl, hv, hg1⟩
  have HV1 := Lib.hid hv
  clear hv
  have G1 : Hid (Later (w.alloc (.cells (zc z) 25)) w1) := Lib.hid hg1
  have L1 := Lib.hid (HL.out.grown hg1)
  clear hg1
  obtain ⟨k0, k1, k2, k3, k4, k5, k6, k7, k8, k9⟩ := HN.out.later G1.out
  go_wp2_with fail
  refine (HR.out _).mono ?_
  rintro e w2 ⟨rfl, hg2⟩
  have HV2 := Lib.hid (HV1.out.later hg2)
  have G2 := Lib.hid (gtrans G1.out hg2)
  have L2 := Lib.hid (L1.out.grown hg2)
  clear hg2
  clear k0 k1 k2 k3 k4 k5 k6 k7 k8 k9
  obtain ⟨k0, k1, k2, k3, k4, k5, k6, k7, k8, k9⟩ := HN.out.later G2.out
  go_wp2_with fail
  refine (HD.out _).mono ?_
  rintro e w' ⟨rfl, rfl⟩
  go_wp2_with fail
  refine (A.out _ L2.out).mono ?_
  rintro e w3 ⟨rfl, hg3⟩
  have HV3 := Lib.hid (HV2.out.later hg3)
  have G3 := Lib.hid (gtrans G2.out hg3)
  have L3 := Lib.hid (L2.out.grown hg3)
  clear hg3
  clear k0 k1 k2 k3 k4 k5 k6 k7 k8 k9
  obtain ⟨k0, k1, k2, k3, k4, k5, k6, k7, k8, k9⟩ := HN.out.later G3.out
  go_wp2_with fail
  refine (I.out _).mono ?_
  rintro e w4 ⟨u, rfl, hu, hg4⟩
  have HV4 := Lib.hid (HV3.out.later hg4)
  have HU4 := Lib.hid hu
  clear hu
  have G4 := Lib.hid (gtrans G3.out hg4)
  have L4 := Lib.hid (L3.out.grown hg4)
  clear hg4
  clear k0 k1 k2 k3 k4 k5 k6 k7 k8 k9
  go_wp2_with fail
  refine (Q.out _ _ _ HV4.out HU4.out).mono ?_
  rintro e w5 ⟨rfl, hg5⟩
  go_wp2_with fail
  go_ret
  exact ⟨rfl, gtrans HW.out (gtrans G4.out hg5)⟩

theorem walk (z : Zn) (d m : Int) (hz : Zwf z) (hd : (Lit.int .i64 d).wf = true) (hm : (Lit.int .i64 m).wf = true) (w : World) (hL : Laid w) : Calls Tryd.prog 5 #[.agg (zc z), .int .i64 d, .int .i64 m] w fun e w' => e = .returned (.bool true) ∧ Later w w' := by
  by_cases h : ck z = 0
  · by_cases h1 : 401 ≤ d ∧ d ≤ 3651998 ∧ 0 ≤ m ∧ m ≤ 1439
    · exact walk_yes z d m w hL ((iE_ok z d m).2 ⟨(ck_may z).1 h, h1⟩)
    · exact walk_day z d m w hL h h1
  · exact walk_zone z d m w hL h

set_option maxHeartbeats 1000000 in
set_option maxRecDepth 100000 in
theorem lifted (os : Os) (started : os.Started) (H : Type) (enc : TypeId × Value → H) :
    ReturnsInHanded {} Tryd.checked os 5 .any (fun w args => (Rows.zoneInstantsSpec.pre enc Tryd.prog Tryd.f5 [] false w args ∧ laidMetH Tryd.prog laidL w) ∧ sizedMet enc Tryd.prog Tryd.f5 (OpenSpec.ofChange Rows.zoneInstantsSpec) false w args)
      (Rows.zoneInstantsSpec.post enc Tryd.prog Tryd.f5 false true false false) := by
  refine returnsInHanded_of_change_and (C := Tryd.checked) (X := fun w _ => laidMetH Tryd.prog laidL w) (fun _ _ _ hh h => h.of_heap hh) own started (by kernel_rfl) Tryd.func5
    (ChangeSpec.witness_shaped (enc := enc) (C := Tryd.checked) (os := os) (X := fun w _ => laidMetH Tryd.prog laidL w) false (World.doorLaid Tryd.prog 400 os) #[.agg #[.int .i64 0, .int .i64 0, .int .i64 0, .int .i64 0, .int .i64 0, .int .i64 0, .int .i64 0, .int .i64 0, .int .i64 0, .int .i64 0], .int .i64 0, .int .i64 0] 8 rfl (World.shaped_of_RefB (by kernel_rfl) (by kernel_rfl)) (by kernel_rfl) (by kernel_rfl) (by kernel_rfl) (door_met os _)) ?_
  intro W base args ds gs before hval0 hW _ _ hL _
  have hval : ∀ (j : Nat) t v, Tryd.f5.params[j]? = some t → args[j]? = some v → Value.okWide Tryd.prog W .any base t v := hval0
  have hW' := hW
  obtain ⟨p, q, hA0, hV, rfl, hfz, hnd⟩ := hW
  have hA : DataW.TrodAll enc Tryd.prog W 0 (fun _ => true) true Tryd.f5.params.toList args.toList ds p := hA0
  rw [Tryd.params5] at hA hval
  obtain ⟨v0, vs0, d0, ds0, p0, q0, hargs, rfl, rfl, h0, r0⟩ := trodAll_cons hA
  obtain ⟨v1, vs1, d1, ds1, p1, q1, rfl, rfl, rfl, h1, r1⟩ := trodAll_cons r0
  obtain ⟨v2, vs2, d2, ds2, p2, q2, rfl, rfl, rfl, h2, r2⟩ := trodAll_cons r1
  obtain ⟨rfl, rfl, rfl⟩ := trodAll_nil r2
  obtain rfl : args = #[v0, v1, v2] := by cases args; simp_all
  obtain ⟨rfl, rfl⟩ := trodVars_none hV
  obtain ⟨a0, rfl, rfl, rfl, w0⟩ := open_zone (hval 0 25 v0 rfl rfl) h0
  obtain ⟨a1, rfl, rfl, rfl, w1⟩ := open_int Tryd.underlying3 (hval 1 3 v1 rfl rfl) h1
  obtain ⟨a2, rfl, rfl, rfl, w2⟩ := open_int Tryd.underlying3 (hval 2 3 v2 rfl rfl) h2
  clear hA0 hval0
  simp only [List.append_nil] at hW'
  refine (walk a0 a1 a2 w0 w1 w2 W (of_laid hL)).mono fun e W' ⟨he, hg⟩ => ?_
  subst he
  exact ⟨_, rfl, post_bare hW' (fun _ _ _ => (trodAll_cons_mk (shut_bool Tryd.underlying4 _) trodAll_mk0)) (fun sp => (trodAll_cons_mk (shut_zone a0 w0) (trodAll_cons_mk (shut_int Tryd.underlying3 w1) (trodAll_cons_mk (shut_int Tryd.underlying3 w2) trodAll_mk0)))) (fun _ => rfl) hg
    (ok_one (by kernel_rfl) rfl (okWide_bool_mk Tryd.underlying4 _))⟩

theorem over : Rows.zoneInstantsRow.holds Tryd.pinned (OpenSpec.ofChange Rows.zoneInstantsSpec) :=
  OpenClaim.holds_of_wide 5 Tryd.f5 rfl rfl rfl rfl rfl rfl rfl ⟨rfl, rfl, rfl, rfl, rfl⟩ rfl rfl rfl rfl rfl (by kernel_rfl) Tryd.func5 (by kernel_rfl)
    (of_decide_eq_true (by kernel_rfl)) (by unfold Func.isWrapper; first | (rw [if_pos (by decide +kernel)]; kernel_rfl) | (rw [if_neg (by decide +kernel)]; exact ⟨rfl, rfl⟩))
    (fun os started H enc _ => lifted os started H enc)

/-- The statement. -/
theorem proved : Rows.ZoneInstantsCardSaid :=
  Claim7.holds_tied_plain_at .later [] [.data] true (true, "f5e48cc57892619de836986e666817daa5421fbb5699f7094e0e3d8dbc488e05") false
    over (fun _ h => by cases h) (by kernel_rfl) (fun _ h => by cases h) zoneInstants_row_tie rfl ⟨rfl, rfl⟩ (by kernel_rfl) rfl
    (fun f fn hf hfn => by
      obtain rfl : f = 5 := Option.some.inj ((show Tryd.prog.funcNamed "newel/newellaw06.ZoneInstants" = some 5 by kernel_rfl).symm.trans hf) |>.symm
      obtain rfl : fn = Tryd.f5 := (Option.some.inj (Tryd.func5.symm.trans hfn)).symm
      exact ⟨by kernel_rfl, fun j t ht => by
        rw [Tryd.params5] at ht
        have hm : t ∈ [25, 3, 3] := by simpa using Array.mem_of_getElem? ht
        have hall : ([25, 3, 3].all fun u => !Tryd.prog.wantsStandIn u) = true := by kernel_rfl
        exact (show Tryd.prog.wantsStandIn t = false by simpa using List.all_eq_true.1 hall t hm)⟩)
    (by kernel_rfl)
#print axioms proved
end Go.Proofs.YthmlaidmbcgmdaaDoor.zoneInstants
