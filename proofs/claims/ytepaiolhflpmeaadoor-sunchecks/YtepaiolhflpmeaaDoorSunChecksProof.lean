/-
  Whether any table may be is the document's, for every table. Condition: the table of months starts as the program's text lays it.
-/
import Derived.Test.YtepaiolhflpmeaaDoorLt
namespace Go.Proofs.YtepaiolhflpmeaaDoor.sunChecks
open Go.ChangeShapes Go.WideShapes Go.ChangeAt Go.RowKit Go.Joins
open Go.Proofs.YtepaiolhflpmeaaDoor.Divs Go.Proofs.YtepaiolhflpmeaaDoor.Grow Go.Proofs.YtepaiolhflpmeaaDoor.Zo Go.Proofs.YtepaiolhflpmeaaDoor.Zone
open Go.Proofs.YtepaiolhflpmeaaDoor.Greg (Laid laidL own of_laid door_met Zwf zd open_zone shut_zone)
open Go.Proofs.YtepaiolhflpmeaaDoor.Su
open Go.Proofs.YtepaiolhflpmeaaDoor.Sun
set_option linter.unusedVariables false

set_option maxHeartbeats 1000000 in
theorem walk (s : Nat → Int) (hs : Swf s) (w : World) (hL : Laid w) : Calls Tryd.prog 3 #[.agg (sc s)] w fun e w' => e = .returned (.bool true) ∧ Later w w' := by
  have A := Lib.hid awake_any
  have C := Lib.hid (fun W => Sun.check_any s W)
  have R := Lib.hid (fun W => rcheck_tab s W)
  have e0 : (sk s == sk s) = true := by simp
  have HT := Lib.hid (Sat.new w s)
  have hL1 := hL.grown ((Later.refl w).alloc (sc s) 23)
  clear hL
  unfold sc at *
  go_enter Tryd.func3, Tryd.ntmps3
  go_wp2_with fail
  obtain ⟨t0, t1, t2, t3, t4, t5, t6, t7, t8, t9, t10, t11⟩ := (HT.out.later (Later.refl _)).all
  have g0 := gw_cell t0
  have g1 := gw_cell t1
  have g2 := gw_cell t2
  have g3 := gw_cell t3
  have g4 := gw_cell t4
  have g5 := gw_cell t5
  have g6 := gw_cell t6
  have g7 := gw_cell t7
  have g8 := gw_cell t8
  have g9 := gw_cell t9
  have g10 := gw_cell t10
  have g11 := gw_cell t11
  clear t0 t1 t2 t3 t4 t5 t6 t7 t8 t9 t10 t11
  refine region_grown (by kernel_rfl) (by kernel_rfl) ?_
  repeat (go_big_quiet_step (first | (go_at_call 7; exact in_grown (A.out _ (hL1.gw _))) | (go_at_call 8; exact in_grown (C.out _)) | (go_at_call 9; exact in_grown (R.out _))))
  refine wpQuiet_nil (grown_end ?_)
  intro w2 hg2
  clear g0 g1 g2 g3 g4 g5 g6 g7 g8 g9 g10 g11
  go_wp2_with fail
  go_ret
  exact ⟨rfl, gtrans ((Later.refl w).alloc _ _) hg2⟩

set_option maxHeartbeats 1000000 in
set_option maxRecDepth 100000 in
theorem lifted (os : Os) (started : os.Started) (H : Type) (enc : TypeId × Value → H) :
    ReturnsInHanded {} Tryd.checked os 3 .any (fun w args => (Rows.sunChecksSpec.pre enc Tryd.prog Tryd.f3 [] false w args ∧ laidMetH Tryd.prog laidL w) ∧ sizedMet enc Tryd.prog Tryd.f3 (OpenSpec.ofChange Rows.sunChecksSpec) false w args)
      (Rows.sunChecksSpec.post enc Tryd.prog Tryd.f3 false true false false) := by
  refine returnsInHanded_of_change_and (C := Tryd.checked) (X := fun w _ => laidMetH Tryd.prog laidL w) (fun _ _ _ hh h => h.of_heap hh) own started (by kernel_rfl) Tryd.func3
    (ChangeSpec.witness_shaped (enc := enc) (C := Tryd.checked) (os := os) (X := fun w _ => laidMetH Tryd.prog laidL w) false (World.doorLaid Tryd.prog 400 os) #[.agg #[.int .i64 0, .int .i64 0, .int .i64 0, .int .i64 0, .int .i64 0, .int .i64 0, .int .i64 0, .int .i64 0, .int .i64 0, .int .i64 0, .int .i64 0, .int .i64 0]] 8 rfl (World.shaped_of_RefB (by kernel_rfl) (by kernel_rfl)) (by kernel_rfl) (by kernel_rfl) (by kernel_rfl) (door_met os _)) ?_
  intro W base args ds gs before hval0 hW _ _ hL _
  have hval : ∀ (j : Nat) t v, Tryd.f3.params[j]? = some t → args[j]? = some v → Value.okWide Tryd.prog W .any base t v := hval0
  have hW' := hW
  obtain ⟨p, q, hA0, hV, rfl, hfz, hnd⟩ := hW
  have hA : DataW.TrodAll enc Tryd.prog W 0 (fun _ => true) true Tryd.f3.params.toList args.toList ds p := hA0
  rw [Tryd.params3] at hA hval
  obtain ⟨v0, vs0, d0, ds0, p0, q0, hargs, rfl, rfl, h0, r0⟩ := trodAll_cons hA
  obtain ⟨rfl, rfl, rfl⟩ := trodAll_nil r0
  obtain rfl : args = #[v0] := by cases args; simp_all
  obtain ⟨rfl, rfl⟩ := trodVars_none hV
  obtain ⟨a0, rfl, rfl, rfl, w0⟩ := open_tab (hval 0 23 v0 rfl rfl) h0
  clear hA0 hval0
  simp only [List.append_nil] at hW'
  refine (walk a0 w0 W (of_laid hL)).mono fun e W' ⟨he, hg⟩ => ?_
  subst he
  exact ⟨_, rfl, post_bare hW' (fun _ _ _ => (trodAll_cons_mk (shut_bool Tryd.underlying4 _) trodAll_mk0)) (fun sp => (trodAll_cons_mk (shut_tab a0 w0) trodAll_mk0)) (fun _ => rfl) hg
    (ok_one (by kernel_rfl) rfl (okWide_bool_mk Tryd.underlying4 _))⟩

theorem over : Rows.sunChecksRow.holds Tryd.pinned (OpenSpec.ofChange Rows.sunChecksSpec) :=
  OpenClaim.holds_of_wide 3 Tryd.f3 rfl rfl rfl rfl rfl rfl rfl ⟨rfl, rfl, rfl, rfl, rfl⟩ rfl rfl rfl rfl rfl (by kernel_rfl) Tryd.func3 (by kernel_rfl)
    (of_decide_eq_true (by kernel_rfl)) (by unfold Func.isWrapper; first | (rw [if_pos (by decide +kernel)]; kernel_rfl) | (rw [if_neg (by decide +kernel)]; exact ⟨rfl, rfl⟩))
    (fun os started H enc _ => lifted os started H enc)

/-- The statement. -/
theorem proved : Rows.SunChecksCardSaid :=
  Claim7.holds_tied_plain_at .later [] [.data] true (true, "cda0cf21e3af875b19f88d87297b3dece36d527f926f0c673c6af6d5ca33074c") false
    over (fun _ h => by cases h) (by kernel_rfl) (fun _ h => by cases h) sunChecks_row_tie rfl ⟨rfl, rfl⟩ (by kernel_rfl) rfl
    (fun f fn hf hfn => by
      obtain rfl : f = 3 := Option.some.inj ((show Tryd.prog.funcNamed "newel/newellaw07.SunChecks" = some 3 by kernel_rfl).symm.trans hf) |>.symm
      obtain rfl : fn = Tryd.f3 := (Option.some.inj (Tryd.func3.symm.trans hfn)).symm
      exact ⟨by kernel_rfl, fun j t ht => by
        rw [Tryd.params3] at ht
        have hm : t ∈ [23] := by simpa using Array.mem_of_getElem? ht
        have hall : ([23].all fun u => !Tryd.prog.wantsStandIn u) = true := by kernel_rfl
        exact (show Tryd.prog.wantsStandIn t = false by simpa using List.all_eq_true.1 hall t hm)⟩)
    (by kernel_rfl)
#print axioms proved
end Go.Proofs.YtepaiolhflpmeaaDoor.sunChecks
