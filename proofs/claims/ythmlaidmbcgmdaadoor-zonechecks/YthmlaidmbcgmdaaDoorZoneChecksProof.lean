/-
  Whether any zone may be is the document's, for every zone. Condition: the table of months starts as the program's text lays it.
-/
import Derived.Test.YthmlaidmbcgmdaaDoorLift
namespace Go.Proofs.YthmlaidmbcgmdaaDoor.zoneChecks
open Go.ChangeShapes Go.WideShapes Go.ChangeAt Go.RowKit Go.Joins
open Go.Proofs.YthmlaidmbcgmdaaDoor.Divs Go.Proofs.YthmlaidmbcgmdaaDoor.Grow Go.Proofs.YthmlaidmbcgmdaaDoor.Zo Go.Proofs.YthmlaidmbcgmdaaDoor.Zone
open Go.Proofs.YthmlaidmbcgmdaaDoor.Greg (Laid laidL own of_laid door_met Zwf zd open_zone shut_zone)
set_option linter.unusedVariables false

theorem walk (z : Zn) (hz : Zwf z) (w : World) (hL : Laid w) : Calls Tryd.prog 3 #[.agg (zc z)] w fun e w' => e = .returned (.bool true) ∧ Later w w' := by
  have A := Lib.hid awake_any
  have C := Lib.hid (fun W => check_any z W)
  have R := Lib.hid (fun W => rcheck_any z W)
  have e0 : (ck z == ck z) = true := by simp
  have hL1 := hL.grown ((Later.refl w).alloc (zc z) 25)
  clear hL
  unfold zc at hL1 ⊢
  go_enter Tryd.func3, Tryd.ntmps3
  go_wp2_with fail
  have zn := Zat.new w z
  unfold zc at zn
  obtain ⟨k0, k1, k2, k3, k4, k5, k6, k7, k8, k9⟩ := zn
  have d0 := gw_cell k0
  have d1 := gw_cell k1
  have d2 := gw_cell k2
  have d3 := gw_cell k3
  have d4 := gw_cell k4
  have d5 := gw_cell k5
  have d6 := gw_cell k6
  have d7 := gw_cell k7
  have d8 := gw_cell k8
  have d9 := gw_cell k9
  clear k0 k1 k2 k3 k4 k5 k6 k7 k8 k9
  refine region_grown (by kernel_rfl) (by kernel_rfl) ?_
  repeat (go_big_quiet_step (first | (go_at_call 10; exact in_grown (A.out _ (hL1.gw _))) | (go_at_call 11; exact in_grown (C.out _)) | (go_at_call 12; exact in_grown (R.out _))))
  refine wpQuiet_nil (grown_end ?_)
  intro w2 hg2
  clear d0 d1 d2 d3 d4 d5 d6 d7 d8 d9
  go_wp2_with fail
  go_ret
  exact ⟨rfl, gtrans ((Later.refl w).alloc _ _) hg2⟩

set_option maxHeartbeats 1000000 in
set_option maxRecDepth 100000 in
theorem lifted (os : Os) (started : os.Started) (H : Type) (enc : TypeId × Value → H) :
    ReturnsInHanded {} Tryd.checked os 3 .any (fun w args => (Rows.zoneChecksSpec.pre enc Tryd.prog Tryd.f3 [] false w args ∧ laidMetH Tryd.prog laidL w) ∧ sizedMet enc Tryd.prog Tryd.f3 (OpenSpec.ofChange Rows.zoneChecksSpec) false w args)
      (Rows.zoneChecksSpec.post enc Tryd.prog Tryd.f3 false true false false) := by
  refine returnsInHanded_of_change_and (C := Tryd.checked) (X := fun w _ => laidMetH Tryd.prog laidL w) (fun _ _ _ hh h => h.of_heap hh) own started (by kernel_rfl) Tryd.func3
    (ChangeSpec.witness_shaped (enc := enc) (C := Tryd.checked) (os := os) (X := fun w _ => laidMetH Tryd.prog laidL w) false (World.doorLaid Tryd.prog 400 os) #[.agg #[.int .i64 0, .int .i64 0, .int .i64 0, .int .i64 0, .int .i64 0, .int .i64 0, .int .i64 0, .int .i64 0, .int .i64 0, .int .i64 0]] 8 rfl (World.shaped_of_RefB (by kernel_rfl) (by kernel_rfl)) (by kernel_rfl) (by kernel_rfl) (by kernel_rfl) (door_met os _)) ?_
  intro W base args ds gs before hval0 hW _ _ hL _
  have hval : ∀ (j : Nat) t v, Tryd.f3.params[j]? = some t → args[j]? = some v → Value.okWide Tryd.prog W .any base t v := hval0
  have hW' := hW
  obtain ⟨p, q, hA0, hV, rfl, hfz, hnd⟩ := hW
  have hA : DataW.TrodAll enc Tryd.prog W 0 (fun _ => true) true Tryd.f3.params.toList args.toList ds p := hA0
  rw [Tryd.params3] at hA hval
  obtain ⟨v0, vs0, d0, ds0, p0, q0, hargs, rfl, rfl, h0, r0⟩ := trodAll_cons hA
  obtain ⟨rfl, rfl, rfl⟩ := trodAll_nil r0
  obtain rfl : args = #[v0] := by cases args; simp_all
  obtain ⟨rfl, rfl⟩ := trodVars_none hV
  obtain ⟨a0, rfl, rfl, rfl, w0⟩ := open_zone (hval 0 25 v0 rfl rfl) h0
  clear hA0 hval0
  simp only [List.append_nil] at hW'
  refine (walk a0 w0 W (of_laid hL)).mono fun e W' ⟨he, hg⟩ => ?_
  subst he
  exact ⟨_, rfl, post_bare hW' (fun _ _ _ => (trodAll_cons_mk (shut_bool Tryd.underlying4 _) trodAll_mk0)) (fun sp => (trodAll_cons_mk (shut_zone a0 w0) trodAll_mk0)) (fun _ => rfl) hg
    (ok_one (by kernel_rfl) rfl (okWide_bool_mk Tryd.underlying4 _))⟩

theorem over : Rows.zoneChecksRow.holds Tryd.pinned (OpenSpec.ofChange Rows.zoneChecksSpec) :=
  OpenClaim.holds_of_wide 3 Tryd.f3 rfl rfl rfl rfl rfl rfl rfl ⟨rfl, rfl, rfl, rfl, rfl⟩ rfl rfl rfl rfl rfl (by kernel_rfl) Tryd.func3 (by kernel_rfl)
    (of_decide_eq_true (by kernel_rfl)) (by unfold Func.isWrapper; first | (rw [if_pos (by decide +kernel)]; kernel_rfl) | (rw [if_neg (by decide +kernel)]; exact ⟨rfl, rfl⟩))
    (fun os started H enc _ => lifted os started H enc)

/-- The statement. -/
theorem proved : Rows.ZoneChecksCardSaid :=
  Claim7.holds_tied_plain_at .later [] [.data] true (true, "f5e48cc57892619de836986e666817daa5421fbb5699f7094e0e3d8dbc488e05") false
    over (fun _ h => by cases h) (by kernel_rfl) (fun _ h => by cases h) zoneChecks_row_tie rfl ⟨rfl, rfl⟩ (by kernel_rfl) rfl
    (fun f fn hf hfn => by
      obtain rfl : f = 3 := Option.some.inj ((show Tryd.prog.funcNamed "newel/newellaw06.ZoneChecks" = some 3 by kernel_rfl).symm.trans hf) |>.symm
      obtain rfl : fn = Tryd.f3 := (Option.some.inj (Tryd.func3.symm.trans hfn)).symm
      exact ⟨by kernel_rfl, fun j t ht => by
        rw [Tryd.params3] at ht
        have hm : t ∈ [25] := by simpa using Array.mem_of_getElem? ht
        have hall : ([25].all fun u => !Tryd.prog.wantsStandIn u) = true := by kernel_rfl
        exact (show Tryd.prog.wantsStandIn t = false by simpa using List.all_eq_true.1 hall t hm)⟩)
    (by kernel_rfl)
#print axioms proved
end Go.Proofs.YthmlaidmbcgmdaaDoor.zoneChecks
