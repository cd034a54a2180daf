/-
  What clocks tell at any instant, and whether they are shifted, is the document's, for every zone and every int. Condition: the table of months starts as the program's text lays it.
-/
import Derived.Test.YthmlaidmbcgmdaaDoorLift
namespace Go.Proofs.YthmlaidmbcgmdaaDoor.zoneLocals
open Go.ChangeShapes Go.WideShapes Go.ChangeAt Go.RowKit Go.Joins
open Go.Proofs.YthmlaidmbcgmdaaDoor.Divs Go.Proofs.YthmlaidmbcgmdaaDoor.Grow Go.Proofs.YthmlaidmbcgmdaaDoor.Zo Go.Proofs.YthmlaidmbcgmdaaDoor.Zone
open Go.Proofs.YthmlaidmbcgmdaaDoor.Greg (Laid laidL own of_laid door_met Zwf zd open_zone shut_zone)
set_option linter.unusedVariables false

theorem walk_zone (z : Zn) (t : Int) (w : World) (hL : Laid w) (h : ¬ ck z = 0) : Calls Tryd.prog 4 #[.agg (zc z), .int .i64 t] w fun e w' => e = .returned (.bool true) ∧ Later w w' := by
  have hE : sE z t = ck z := by unfold sE; rw [if_neg h]
  have hV : sV z t = false := by unfold sV; rw [if_neg (by omega)]
  have hD : lD z t = 0 := by unfold lD; rw [if_neg (by omega)]
  have hM : lM z t = 0 := by unfold lM; rw [if_neg (by omega)]
  have A := Lib.hid awake_any
  have S := fun W hW => summer_any z t W hW
  have K := fun W hW => local_any z t W hW
  rw [hE, hV] at S
  rw [hD, hM, hE] at K
  have HS := Lib.hid S
  have HK := Lib.hid K
  have R := Lib.hid (fun W => rcheck_any z W)
  have HN := Lib.hid (Zat.new w z)
  have HW := Lib.hid ((Later.refl w).alloc (zc z) 25)
  have HL := Lib.hid (hL.grown HW.out)
  have e0 : (ck z == ck z) = true := by simp
  have e1 : (ck z == 0) = false := by simpa using h
  have e2 : (ck z != 0) = true := by simpa using h
  clear hL h hE hV hD hM S K
  unfold zc at HL ⊢
  go_enter Tryd.func4, Tryd.ntmps4
  go_wp2_with fail
  refine (HS.out _ HL.out).mono ?_
  rintro e w1 ⟨rfl, hg1⟩
  have G1 : Hid (Later (w.alloc (.cells (zc z) 25)) w1) := Lib.hid hg1
  have L1 := Lib.hid (HL.out.grown hg1)
  clear hg1
  obtain ⟨k0, k1, k2, k3, k4, k5, k6, k7, k8, k9⟩ := HN.out.later G1.out
  go_wp2_with fail
  refine (HK.out _ L1.out).mono ?_
  rintro e w2 ⟨rfl, hg2⟩
  have G2 := Lib.hid (gtrans G1.out hg2)
  have L2 := Lib.hid (L1.out.grown hg2)
  clear hg2
  clear k0 k1 k2 k3 k4 k5 k6 k7 k8 k9
  obtain ⟨k0, k1, k2, k3, k4, k5, k6, k7, k8, k9⟩ := HN.out.later G2.out
  go_wp2_with fail
  refine (R.out _).mono ?_
  rintro e w3 ⟨rfl, hg3⟩
  have G3 := Lib.hid (gtrans G2.out hg3)
  have L3 := Lib.hid (L2.out.grown hg3)
  clear hg3
  clear k0 k1 k2 k3 k4 k5 k6 k7 k8 k9
  go_wp2_with fail
  refine (A.out _ L3.out).mono ?_
  rintro e w4 ⟨rfl, hg4⟩
  go_wp2_with fail
  go_ret
  exact ⟨rfl, gtrans HW.out (gtrans G3.out hg4)⟩

theorem walk_time (z : Zn) (t : Int) (w : World) (hL : Laid w) (h : ck z = 0) (ht : ¬ (576000 ≤ t ∧ t ≤ 5258879999)) : Calls Tryd.prog 4 #[.agg (zc z), .int .i64 t] w fun e w' => e = .returned (.bool true) ∧ Later w w' := by
  have hE : sE z t = 63 := by unfold sE; rw [if_pos h, if_neg ht]
  have hV : sV z t = false := by unfold sV; rw [if_neg (by omega)]
  have hD : lD z t = 0 := by unfold lD; rw [if_neg (by omega)]
  have hM : lM z t = 0 := by unfold lM; rw [if_neg (by omega)]
  have A := Lib.hid awake_any
  have S := fun W hW => summer_any z t W hW
  have K := fun W hW => local_any z t W hW
  have R := fun W => rcheck_any z W
  have M := fun W => rtime_any t W
  rw [hE, hV] at S
  rw [hD, hM, hE] at K
  rw [h] at R
  rw [wiB_not _ _ _ ht] at M
  have HS := Lib.hid S
  have HK := Lib.hid K
  have HR := Lib.hid R
  have HM := Lib.hid M
  have HN := Lib.hid (Zat.new w z)
  have HW := Lib.hid ((Later.refl w).alloc (zc z) 25)
  have HL := Lib.hid (hL.grown HW.out)
  clear hL h hE hV hD hM S K R M ht
  unfold zc at HL ⊢
  go_enter Tryd.func4, Tryd.ntmps4
  go_wp2_with fail
  refine (HS.out _ HL.out).mono ?_
  rintro e w1 ⟨rfl, hg1⟩
  have G1 : Hid (Later (w.alloc (.cells (zc z) 25)) w1) := Lib.hid hg1
  have L1 := Lib.hid (HL.out.grown hg1)
  clear hg1
  obtain ⟨k0, k1, k2, k3, k4, k5, k6, k7, k8, k9⟩ := HN.out.later G1.out
  go_wp2_with fail
  refine (HK.out _ L1.out).mono ?_
  rintro e w2 ⟨rfl, hg2⟩
  have G2 := Lib.hid (gtrans G1.out hg2)
  have L2 := Lib.hid (L1.out.grown hg2)
  clear hg2
  clear k0 k1 k2 k3 k4 k5 k6 k7 k8 k9
  obtain ⟨k0, k1, k2, k3, k4, k5, k6, k7, k8, k9⟩ := HN.out.later G2.out
  go_wp2_with fail
  refine (HR.out _).mono ?_
  rintro e w3 ⟨rfl, hg3⟩
  have G3 := Lib.hid (gtrans G2.out hg3)
  have L3 := Lib.hid (L2.out.grown hg3)
  clear hg3
  clear k0 k1 k2 k3 k4 k5 k6 k7 k8 k9
  go_wp2_with fail
  refine (HM.out _).mono ?_
  rintro e w' ⟨rfl, rfl⟩
  go_wp2_with fail
  refine (A.out _ L3.out).mono ?_
  rintro e w4 ⟨rfl, hg4⟩
  go_wp2_with fail
  go_ret
  exact ⟨rfl, gtrans HW.out (gtrans G3.out hg4)⟩

theorem walk_yes (z : Zn) (t : Int) (w : World) (hL : Laid w) (hE : sE z t = 0) : Calls Tryd.prog 4 #[.agg (zc z), .int .i64 t] w fun e w' => e = .returned (.bool true) ∧ Later w w' := by
  obtain ⟨hm, t0, t1⟩ := (sE_ok z t).1 hE
  have hV : sV z t = sm z t := by unfold sV; rw [if_pos hE]
  have hD : lD z t = td z t / 1440 := by unfold lD; rw [if_pos hE]
  have hM : lM z t = td z t % 1440 := by unfold lM; rw [if_pos hE]
  have A := Lib.hid awake_any
  have S := fun W hW => summer_any z t W hW
  have K := fun W hW => local_any z t W hW
  have R := fun W => rcheck_any z W
  have M := fun W => rtime_any t W
  rw [hE, hV] at S
  rw [hD, hM, hE] at K
  rw [(ck_may z).2 hm] at R
  rw [(wiB_iff _ _ _).2 ⟨t0, t1⟩] at M
  have HS := Lib.hid S
  have HK := Lib.hid K
  have HR := Lib.hid R
  have HM := Lib.hid M
  have HO := Lib.hid (fun W => rtold_any z t W hm t0 t1)
  have HU := Lib.hid (fun W => rsummer_any z t W hm t0 t1)
  have HN := Lib.hid (Zat.new w z)
  have HW := Lib.hid ((Later.refl w).alloc (zc z) 25)
  have HL := Lib.hid (hL.grown HW.out)
  have n0 : 0 ≤ td z t := by
    unfold May at hm
    rcases td_cases z t with ⟨_, e⟩ | ⟨_, e⟩ <;> omega
  have n1 : td z t ≤ 6000000000 := by
    unfold May at hm
    rcases td_cases z t with ⟨_, e⟩ | ⟨_, e⟩ <;> omega
  have e0 : (sm z t == sm z t) = true := by simp
  have e1 : (td z t / 1440 == td z t / 1440) = true := by simp
  have e2 : (td z t % 1440 == td z t % 1440) = true := by simp
  clear hL hE hV hD hM S K R M hm t0 t1
  unfold zc at HL ⊢
  go_enter Tryd.func4, Tryd.ntmps4
  go_wp2_with fail
  refine (HS.out _ HL.out).mono ?_
  rintro e w1 ⟨rfl, hg1⟩
  have G1 : Hid (Later (w.alloc (.cells (zc z) 25)) w1) := Lib.hid hg1
  have L1 := Lib.hid (HL.out.grown hg1)
  clear hg1
  obtain ⟨k0, k1, k2, k3, k4, k5, k6, k7, k8, k9⟩ := HN.out.later G1.out
  go_wp2_with fail
  refine (HK.out _ L1.out).mono ?_
  rintro e w2 ⟨rfl, hg2⟩
  have G2 := Lib.hid (gtrans G1.out hg2)
  have L2 := Lib.hid (L1.out.grown hg2)
  clear hg2
  clear k0 k1 k2 k3 k4 k5 k6 k7 k8 k9
  obtain ⟨k0, k1, k2, k3, k4, k5, k6, k7, k8, k9⟩ := HN.out.later G2.out
  go_wp2_with fail
  refine (HR.out _).mono ?_
  rintro e w3 ⟨rfl, hg3⟩
  have G3 := Lib.hid (gtrans G2.out hg3)
  have L3 := Lib.hid (L2.out.grown hg3)
  clear hg3
  clear k0 k1 k2 k3 k4 k5 k6 k7 k8 k9
  obtain ⟨k0, k1, k2, k3, k4, k5, k6, k7, k8, k9⟩ := HN.out.later G3.out
  go_wp2_with fail
  refine (HM.out _).mono ?_
  rintro e w' ⟨rfl, rfl⟩
  go_wp2_with fail
  refine (HO.out _).mono ?_
  rintro e w4 ⟨rfl, hg4⟩
  have G4 := Lib.hid (gtrans G3.out hg4)
  have L4 := Lib.hid (L3.out.grown hg4)
  clear hg4
  clear k0 k1 k2 k3 k4 k5 k6 k7 k8 k9
  obtain ⟨k0, k1, k2, k3, k4, k5, k6, k7, k8, k9⟩ := HN.out.later G4.out
  go_wp2_with fail
  refine (A.out _ L4.out).mono ?_
  rintro e w5 ⟨rfl, hg5⟩
  have G5 := Lib.hid (gtrans G4.out hg5)
  clear hg5
  clear k0 k1 k2 k3 k4 k5 k6 k7 k8 k9
  obtain ⟨k0, k1, k2, k3, k4, k5, k6, k7, k8, k9⟩ := HN.out.later G5.out
  go_wp2_with fail
  refine (HU.out _).mono ?_
  rintro e w6 ⟨rfl, hg6⟩
  clear k0 k1 k2 k3 k4 k5 k6 k7 k8 k9
  go_wp2_with fail
  go_ret
  exact ⟨rfl, gtrans HW.out (gtrans G5.out hg6)⟩

theorem walk (z : Zn) (t : Int) (hz : Zwf z) (ht : (Lit.int .i64 t).wf = true) (w : World) (hL : Laid w) : Calls Tryd.prog 4 #[.agg (zc z), .int .i64 t] w fun e w' => e = .returned (.bool true) ∧ Later w w' := by
  by_cases h : ck z = 0
  · by_cases h1 : 576000 ≤ t ∧ t ≤ 5258879999
    · exact walk_yes z t w hL ((sE_ok z t).2 ⟨(ck_may z).1 h, h1⟩)
    · exact walk_time z t w hL h h1
  · exact walk_zone z t w hL h

set_option maxHeartbeats 1000000 in
set_option maxRecDepth 100000 in
theorem lifted (os : Os) (started : os.Started) (H : Type) (enc : TypeId × Value → H) :
    ReturnsInHanded {} Tryd.checked os 4 .any (fun w args => (Rows.zoneLocalsSpec.pre enc Tryd.prog Tryd.f4 [] false w args ∧ laidMetH Tryd.prog laidL w) ∧ sizedMet enc Tryd.prog Tryd.f4 (OpenSpec.ofChange Rows.zoneLocalsSpec) false w args)
      (Rows.zoneLocalsSpec.post enc Tryd.prog Tryd.f4 false true false false) := by
  refine returnsInHanded_of_change_and (C := Tryd.checked) (X := fun w _ => laidMetH Tryd.prog laidL w) (fun _ _ _ hh h => h.of_heap hh) own started (by kernel_rfl) Tryd.func4
    (ChangeSpec.witness_shaped (enc := enc) (C := Tryd.checked) (os := os) (X := fun w _ => laidMetH Tryd.prog laidL w) false (World.doorLaid Tryd.prog 400 os) #[.agg #[.int .i64 0, .int .i64 0, .int .i64 0, .int .i64 0, .int .i64 0, .int .i64 0, .int .i64 0, .int .i64 0, .int .i64 0, .int .i64 0], .int .i64 0] 8 rfl (World.shaped_of_RefB (by kernel_rfl) (by kernel_rfl)) (by kernel_rfl) (by kernel_rfl) (by kernel_rfl) (door_met os _)) ?_
  intro W base args ds gs before hval0 hW _ _ hL _
  have hval : ∀ (j : Nat) t v, Tryd.f4.params[j]? = some t → args[j]? = some v → Value.okWide Tryd.prog W .any base t v := hval0
  have hW' := hW
  obtain ⟨p, q, hA0, hV, rfl, hfz, hnd⟩ := hW
  have hA : DataW.TrodAll enc Tryd.prog W 0 (fun _ => true) true Tryd.f4.params.toList args.toList ds p := hA0
  rw [Tryd.params4] at hA hval
  obtain ⟨v0, vs0, d0, ds0, p0, q0, hargs, rfl, rfl, h0, r0⟩ := trodAll_cons hA
  obtain ⟨v1, vs1, d1, ds1, p1, q1, rfl, rfl, rfl, h1, r1⟩ := trodAll_cons r0
  obtain ⟨rfl, rfl, rfl⟩ := trodAll_nil r1
  obtain rfl : args = #[v0, v1] := by cases args; simp_all
  obtain ⟨rfl, rfl⟩ := trodVars_none hV
  obtain ⟨a0, rfl, rfl, rfl, w0⟩ := open_zone (hval 0 25 v0 rfl rfl) h0
  obtain ⟨a1, rfl, rfl, rfl, w1⟩ := open_int Tryd.underlying3 (hval 1 3 v1 rfl rfl) h1
  clear hA0 hval0
  simp only [List.append_nil] at hW'
  refine (walk a0 a1 w0 w1 W (of_laid hL)).mono fun e W' ⟨he, hg⟩ => ?_
  subst he
  exact ⟨_, rfl, post_bare hW' (fun _ _ _ => (trodAll_cons_mk (shut_bool Tryd.underlying4 _) trodAll_mk0)) (fun sp => (trodAll_cons_mk (shut_zone a0 w0) (trodAll_cons_mk (shut_int Tryd.underlying3 w1) trodAll_mk0))) (fun _ => rfl) hg
    (ok_one (by kernel_rfl) rfl (okWide_bool_mk Tryd.underlying4 _))⟩

theorem over : Rows.zoneLocalsRow.holds Tryd.pinned (OpenSpec.ofChange Rows.zoneLocalsSpec) :=
  OpenClaim.holds_of_wide 4 Tryd.f4 rfl rfl rfl rfl rfl rfl rfl ⟨rfl, rfl, rfl, rfl, rfl⟩ rfl rfl rfl rfl rfl (by kernel_rfl) Tryd.func4 (by kernel_rfl)
    (of_decide_eq_true (by kernel_rfl)) (by unfold Func.isWrapper; first | (rw [if_pos (by decide +kernel)]; kernel_rfl) | (rw [if_neg (by decide +kernel)]; exact ⟨rfl, rfl⟩))
    (fun os started H enc _ => lifted os started H enc)

/-- The statement. -/
theorem proved : Rows.ZoneLocalsCardSaid :=
  Claim7.holds_tied_plain_at .later [] [.data] true (true, "f5e48cc57892619de836986e666817daa5421fbb5699f7094e0e3d8dbc488e05") false
    over (fun _ h => by cases h) (by kernel_rfl) (fun _ h => by cases h) zoneLocals_row_tie rfl ⟨rfl, rfl⟩ (by kernel_rfl) rfl
    (fun f fn hf hfn => by
      obtain rfl : f = 4 := Option.some.inj ((show Tryd.prog.funcNamed "newel/newellaw06.ZoneLocals" = some 4 by kernel_rfl).symm.trans hf) |>.symm
      obtain rfl : fn = Tryd.f4 := (Option.some.inj (Tryd.func4.symm.trans hfn)).symm
      exact ⟨by kernel_rfl, fun j t ht => by
        rw [Tryd.params4] at ht
        have hm : t ∈ [25, 3] := by simpa using Array.mem_of_getElem? ht
        have hall : ([25, 3].all fun u => !Tryd.prog.wantsStandIn u) = true := by kernel_rfl
        exact (show Tryd.prog.wantsStandIn t = false by simpa using List.all_eq_true.1 hall t hm)⟩)
    (by kernel_rfl)
#print axioms proved
end Go.Proofs.YthmlaidmbcgmdaaDoor.zoneLocals
