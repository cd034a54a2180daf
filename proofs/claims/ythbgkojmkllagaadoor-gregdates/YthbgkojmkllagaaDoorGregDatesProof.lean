/-
  The statement GregDates: for any int Of answers ErrGregDay and no date outside 1 to 3652059, and else OK and the document's date. Condition: the table of months is what the program's text lays (the card ties it).
-/
import Derived.Test.YthbgkojmkllagaaDoorLift
namespace Go.Proofs.YthbgkojmkllagaaDoor.gregDates
open Go.ChangeShapes Go.WideShapes Go.ChangeAt Go.RowKit Go.Joins
open Go.Proofs.YthbgkojmkllagaaDoor.Divs Go.Proofs.YthbgkojmkllagaaDoor.Greg
open Go.Proofs.YthbgkojmkllagaaDoor.Cal (lp ln tab dm ya ma dn yr mo om od)
set_option linter.unusedVariables false

theorem walk (n : Int) (wn : (Lit.int .i64 n).wf = true) (w : World) (hL : Laid w) :
    Calls Tryd.prog 4 #[.int .i64 n] w fun e w' => e = .returned (.bool true) ∧ Grown w w' := by
  clear wn
  by_cases hb : n < 1 ∨ 3652059 < n
  · have HB := Lib.hid (fun W => of_no n W hb)
    by_cases h1 : n < 1
    all_goals
      have h2 : n < 1 ∨ 3652059 < n := hb
      clear h2
      try (have h3 : 3652059 < n := by omega)
      clear hb
      go_enter Tryd.func4, Tryd.ntmps4
      go_wp2_with fail
      refine (HB.out _).mono ?_
      rintro e w1 ⟨rfl, hg1⟩
      go_wp2_with fail
      have hL1 := hL.grown (hg1.alloc #[.int .i64 0, .int .i64 0, .int .i64 0] 23)
      refine (awake_any _ hL1).mono ?_
      rintro e w2 ⟨rfl, hg2⟩
      have c0 : w2.cell? ⟨w1.heap.size, 0, none⟩ = some (.int .i64 0) := gsome hg2 (by simp)
      have c1 : w2.cell? ⟨w1.heap.size, 1, none⟩ = some (.int .i64 0) := gsome hg2 (by simp)
      have c2 : w2.cell? ⟨w1.heap.size, 2, none⟩ = some (.int .i64 0) := gsome hg2 (by simp)
      go_wp2_with fail
      go_ret
      exact ⟨rfl, gtrans (hg1.alloc _ _) hg2⟩
  · have h1 : 1 ≤ n := by omega
    have h2 : n ≤ 3652059 := by omega
    clear hb
    have HY := Lib.hid (fun W hW => of_yes n W hW h1 h2)
    have HR := Lib.hid (fun W => rof_any n W h1 h2)
    generalize yr n = a at HY HR
    generalize om n = b at HY HR
    generalize od n = c at HY HR
    go_enter Tryd.func4, Tryd.ntmps4
    go_wp2_with fail
    refine (HY.out _ hL).mono ?_
    rintro e w1 ⟨rfl, hg1⟩
    go_wp2_with fail
    have hL1 := hL.grown (hg1.alloc #[.int .i64 a, .int .i64 b, .int .i64 c] 23)
    have x0 := gw_new w1 #[.int .i64 a, .int .i64 b, .int .i64 c] 23 0 (.int .i64 a) rfl
    have x1 := gw_new w1 #[.int .i64 a, .int .i64 b, .int .i64 c] 23 1 (.int .i64 b) rfl
    have x2 := gw_new w1 #[.int .i64 a, .int .i64 b, .int .i64 c] 23 2 (.int .i64 c) rfl
    refine region_grown (by kernel_rfl) (by kernel_rfl) ?_
    repeat (go_big_quiet_step (first | (go_at_call 18; exact in_grown (awake_any _ (hL1.gw _))) | (go_at_call 21; exact in_grown (HR.out _))))
    refine wpQuiet_nil (grown_end ?_)
    intro w2 hg2
    clear x0 x1 x2
    go_wp2_with fail
    go_ret
    exact ⟨rfl, gtrans (hg1.alloc _ _) hg2⟩

set_option maxHeartbeats 1000000 in
set_option maxRecDepth 100000 in
theorem lifted (os : Os) (started : os.Started) (H : Type) (enc : TypeId × Value → H) :
    ReturnsInHanded {} Tryd.checked os 4 .any (fun w args => (Rows.gregDatesSpec.pre enc Tryd.prog Tryd.f4 [] false w args ∧ laidMetH Tryd.prog laidL w) ∧ sizedMet enc Tryd.prog Tryd.f4 (OpenSpec.ofChange Rows.gregDatesSpec) false w args)
      (Rows.gregDatesSpec.post enc Tryd.prog Tryd.f4 false true false false) := by
  refine returnsInHanded_of_change_and (C := Tryd.checked) (X := fun w _ => laidMetH Tryd.prog laidL w) (fun _ _ _ hh h => h.of_heap hh) own started (by kernel_rfl) Tryd.func4
    (ChangeSpec.witness_shaped (enc := enc) (C := Tryd.checked) (os := os) (X := fun w _ => laidMetH Tryd.prog laidL w) false (World.doorLaid Tryd.prog 400 os) #[.int .i64 0] 8 rfl (World.shaped_of_RefB (by kernel_rfl) (by kernel_rfl)) (by kernel_rfl) (by kernel_rfl) (by kernel_rfl) (door_met os _)) ?_
  intro W base args ds gs before hval0 hW _ _ hL _
  have hval : ∀ (j : Nat) t v, Tryd.f4.params[j]? = some t → args[j]? = some v → Value.okWide Tryd.prog W .any base t v := hval0
  have hW' := hW
  obtain ⟨p, q, hA0, hV, rfl, hfz, hnd⟩ := hW
  have hA : DataW.TrodAll enc Tryd.prog W 0 (fun _ => true) true Tryd.f4.params.toList args.toList ds p := hA0
  rw [Tryd.params4] at hA hval
  obtain ⟨v0, vs0, d0, ds0, p0, q0, hargs, rfl, rfl, h0, r0⟩ := trodAll_cons hA
  obtain ⟨rfl, rfl, rfl⟩ := trodAll_nil r0
  obtain rfl : args = #[v0] := by cases args; simp_all
  obtain ⟨rfl, rfl⟩ := trodVars_none hV
  obtain ⟨a0, rfl, rfl, rfl, w0⟩ := open_int Tryd.underlying3 (hval 0 3 v0 rfl rfl) h0
  clear hA0 hval0
  simp only [List.append_nil] at hW'
  refine (walk a0 w0 W (of_laid hL)).mono fun e W' ⟨he, hg⟩ => ?_
  subst he
  exact ⟨_, rfl, post_of_same (pa := []) (pv := []) hW' (fun _ _ _ => (trodAll_cons_mk (shut_bool Tryd.underlying4 _) trodAll_mk0)) (fun sp _ => (trodAll_cons_mk (shut_int Tryd.underlying3 w0) trodAll_mk0)) (fun _ _ => rfl) rfl
    (hg.frame _) hg.2.1 (ok_one (by kernel_rfl) rfl (okWide_bool_mk Tryd.underlying4 _))⟩

theorem over : Rows.gregDatesRow.holds Tryd.pinned (OpenSpec.ofChange Rows.gregDatesSpec) :=
  OpenClaim.holds_of_wide 4 Tryd.f4 rfl rfl rfl rfl rfl rfl rfl ⟨rfl, rfl, rfl, rfl, rfl⟩ rfl rfl rfl rfl rfl (by kernel_rfl) Tryd.func4 (by kernel_rfl)
    (of_decide_eq_true (by kernel_rfl)) (by unfold Func.isWrapper; first | (rw [if_pos (by decide +kernel)]; kernel_rfl) | (rw [if_neg (by decide +kernel)]; exact ⟨rfl, rfl⟩))
    (fun os started H enc _ => lifted os started H enc)

/-- The statement. -/
theorem proved : Rows.GregDatesCardSaid :=
  Claim7.holds_tied_plain_at .later [] [.data] true (true, "aacca204a4741e31dc60c47b29a7724d966c80bbda26557ec97b9370967abf46") false
    over (fun _ h => by cases h) (by kernel_rfl) (fun _ h => by cases h) gregDates_row_tie rfl ⟨rfl, rfl⟩ (by kernel_rfl) rfl
    (fun f fn hf hfn => by
      obtain rfl : f = 4 := Option.some.inj ((show Tryd.prog.funcNamed "newel/newellaw02.GregDates" = some 4 by kernel_rfl).symm.trans hf) |>.symm
      obtain rfl : fn = Tryd.f4 := (Option.some.inj (Tryd.func4.symm.trans hfn)).symm
      exact ⟨by kernel_rfl, fun j t ht => by
        rw [Tryd.params4] at ht
        have hm : t ∈ [3] := by simpa using Array.mem_of_getElem? ht
        have hall : ([3].all fun u => !Tryd.prog.wantsStandIn u) = true := by kernel_rfl
        exact (show Tryd.prog.wantsStandIn t = false by simpa using List.all_eq_true.1 hall t hm)⟩)
    (by kernel_rfl)
#print axioms proved
end Go.Proofs.YthbgkojmkllagaaDoor.gregDates
