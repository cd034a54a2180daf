/-
  The statement GregTells: for any date (whether it may be or not) and any int Leap, Days and Weekday are the document's; Day answers 0 and ErrGregDate for a date that may not be, else OK and the document's number. Condition: the table of months is what the program's text lays (the card ties it).
-/
import Derived.Test.YthbgkojmkllagaaDoorLift
namespace Go.Proofs.YthbgkojmkllagaaDoor.gregTells
open Go.ChangeShapes Go.WideShapes Go.ChangeAt Go.RowKit Go.Joins
open Go.Proofs.YthbgkojmkllagaaDoor.Divs Go.Proofs.YthbgkojmkllagaaDoor.Greg
open Go.Proofs.YthbgkojmkllagaaDoor.Cal (lp ln tab dm ya ma dn yr mo om od)
set_option linter.unusedVariables false

theorem walk (y m d n : Int) (wy : (Lit.int .i64 y).wf = true) (wm : (Lit.int .i64 m).wf = true) (wd : (Lit.int .i64 d).wf = true) (wn : (Lit.int .i64 n).wf = true) (w : World) (hL : Laid w) :
    Calls Tryd.prog 3 #[.agg #[.int .i64 y, .int .i64 m, .int .i64 d], .int .i64 n] w fun e w' => e = .returned (.bool true) ∧ Grown w w' := by
  obtain ⟨n0, n1⟩ := bounds_i64 wn
  clear wy wm wd wn
  have hL0 : Laid (w.alloc (.cells #[.int .i64 y, .int .i64 m, .int .i64 d] 23)) := hL.grown ((Grown.refl w).alloc _ _)
  have X0 := Lib.hid (gw_new w #[.int .i64 y, .int .i64 m, .int .i64 d] 23 0 (.int .i64 y) rfl)
  have X1 := Lib.hid (gw_new w #[.int .i64 y, .int .i64 m, .int .i64 d] 23 1 (.int .i64 m) rfl)
  have X2 := Lib.hid (gw_new w #[.int .i64 y, .int .i64 m, .int .i64 d] 23 2 (.int .i64 d) rfl)
  by_cases hm : 1 ≤ d ∧ d ≤ dm y m
  · obtain ⟨h1, h2, h3, h4⟩ := Cal.dm_some y m (by omega)
    have hdm := Cal.dm_le y m
    have HD := Lib.hid (fun W hW => day_yes y m d W hW h1 h2 h3 h4 hm.1 hm.2)
    have HR := Lib.hid (fun W => rday_any y m d W h1 h2 h3 h4 (by omega) (by omega))
    have HM := Lib.hid (fun W => may_any y m d W)
    rw [show mayB y m d = true from by unfold mayB; simp [hm]] at HM
    generalize dn y m d = q at HD HR
    clear hm h1 h2 h3 h4 hdm
    go_enter Tryd.func3, Tryd.ntmps3
    go_wp2_with fail
    refine (HD.out _ hL0).mono ?_
    rintro e w1 ⟨rfl, hg1⟩
    go_wp2_with fail
    have hL1 := hL0.grown hg1
    have x0 := gw_cell (X0.out ⟨w1, hg1⟩)
    have x1 := gw_cell (X1.out ⟨w1, hg1⟩)
    refine region_grown (by kernel_rfl) (by kernel_rfl) ?_
    repeat (go_big_quiet_step (first | (go_at_call 11; exact in_grown (same_g (leap_any _ _))) | (go_at_call 12; exact in_grown (same_g (rleap_any _ _))) | (go_at_call 13; exact in_grown (same_g (days_any _ _ _ (hL1.gw _)))) | (go_at_call 14; exact in_grown (same_g (rdays_any _ _ _))) | (go_at_call 15; exact in_grown (drew_g (weekday_any _ _ n0 n1))) | (go_at_call 16; exact in_grown (same_g (rweekday_any _ _ n0 n1)))))
    refine wpQuiet_nil (grown_end ?_)
    intro w2 hg2
    clear x0 x1
    have hg12 := gtrans hg1 hg2
    have c0 : w2.cell? ⟨w.heap.size, 0, none⟩ = some (.int .i64 y) := X0.out ⟨w2, hg12⟩
    have c1 : w2.cell? ⟨w.heap.size, 1, none⟩ = some (.int .i64 m) := X1.out ⟨w2, hg12⟩
    have c2 : w2.cell? ⟨w.heap.size, 2, none⟩ = some (.int .i64 d) := X2.out ⟨w2, hg12⟩
    go_wp2_with fail
    refine (HM.out _).mono ?_
    rintro e w3 ⟨rfl, hg3⟩
    have hg13 := gtrans hg12 hg3
    clear c0 c1 c2
    go_wp2_with fail
    refine (awake_any _ (hL0.grown hg13)).mono ?_
    rintro e w4 ⟨rfl, hg4⟩
    have hg14 := gtrans hg13 hg4
    have c0 : w4.cell? ⟨w.heap.size, 0, none⟩ = some (.int .i64 y) := X0.out ⟨w4, hg14⟩
    have c1 : w4.cell? ⟨w.heap.size, 1, none⟩ = some (.int .i64 m) := X1.out ⟨w4, hg14⟩
    have c2 : w4.cell? ⟨w.heap.size, 2, none⟩ = some (.int .i64 d) := X2.out ⟨w4, hg14⟩
    go_wp2_with fail
    refine (HR.out _).mono ?_
    rintro e w5 ⟨rfl, hg5⟩
    go_wp2_with fail
    go_ret
    exact ⟨by simp, gtrans (gtrans ((Grown.refl w).alloc _ _) hg14) hg5⟩
  · have HD := Lib.hid (fun W hW => day_no y m d W hW (by omega))
    have HM := Lib.hid (fun W => may_any y m d W)
    rw [show mayB y m d = false from by unfold mayB; simp [hm]] at HM
    clear hm
    go_enter Tryd.func3, Tryd.ntmps3
    go_wp2_with fail
    refine (HD.out _ hL0).mono ?_
    rintro e w1 ⟨rfl, hg1⟩
    go_wp2_with fail
    have hL1 := hL0.grown hg1
    have x0 := gw_cell (X0.out ⟨w1, hg1⟩)
    have x1 := gw_cell (X1.out ⟨w1, hg1⟩)
    refine region_grown (by kernel_rfl) (by kernel_rfl) ?_
    repeat (go_big_quiet_step (first | (go_at_call 11; exact in_grown (same_g (leap_any _ _))) | (go_at_call 12; exact in_grown (same_g (rleap_any _ _))) | (go_at_call 13; exact in_grown (same_g (days_any _ _ _ (hL1.gw _)))) | (go_at_call 14; exact in_grown (same_g (rdays_any _ _ _))) | (go_at_call 15; exact in_grown (drew_g (weekday_any _ _ n0 n1))) | (go_at_call 16; exact in_grown (same_g (rweekday_any _ _ n0 n1)))))
    refine wpQuiet_nil (grown_end ?_)
    intro w2 hg2
    clear x0 x1
    have hg12 := gtrans hg1 hg2
    have c0 : w2.cell? ⟨w.heap.size, 0, none⟩ = some (.int .i64 y) := X0.out ⟨w2, hg12⟩
    have c1 : w2.cell? ⟨w.heap.size, 1, none⟩ = some (.int .i64 m) := X1.out ⟨w2, hg12⟩
    have c2 : w2.cell? ⟨w.heap.size, 2, none⟩ = some (.int .i64 d) := X2.out ⟨w2, hg12⟩
    go_wp2_with fail
    refine (HM.out _).mono ?_
    rintro e w3 ⟨rfl, hg3⟩
    have hg13 := gtrans hg12 hg3
    clear c0 c1 c2
    go_wp2_with fail
    refine (awake_any _ (hL0.grown hg13)).mono ?_
    rintro e w4 ⟨rfl, hg4⟩
    have hg14 := gtrans hg13 hg4
    go_wp2_with fail
    go_ret
    exact ⟨rfl, gtrans ((Grown.refl w).alloc _ _) hg14⟩

set_option maxHeartbeats 1000000 in
set_option maxRecDepth 100000 in
theorem lifted (os : Os) (started : os.Started) (H : Type) (enc : TypeId × Value → H) :
    ReturnsInHanded {} Tryd.checked os 3 .any (fun w args => (Rows.gregTellsSpec.pre enc Tryd.prog Tryd.f3 [] false w args ∧ laidMetH Tryd.prog laidL w) ∧ sizedMet enc Tryd.prog Tryd.f3 (OpenSpec.ofChange Rows.gregTellsSpec) false w args)
      (Rows.gregTellsSpec.post enc Tryd.prog Tryd.f3 false true false false) := by
  refine returnsInHanded_of_change_and (C := Tryd.checked) (X := fun w _ => laidMetH Tryd.prog laidL w) (fun _ _ _ hh h => h.of_heap hh) own started (by kernel_rfl) Tryd.func3
    (ChangeSpec.witness_shaped (enc := enc) (C := Tryd.checked) (os := os) (X := fun w _ => laidMetH Tryd.prog laidL w) false (World.doorLaid Tryd.prog 400 os) #[.agg #[.int .i64 0, .int .i64 0, .int .i64 0], .int .i64 0] 8 rfl (World.shaped_of_RefB (by kernel_rfl) (by kernel_rfl)) (by kernel_rfl) (by kernel_rfl) (by kernel_rfl) (door_met os _)) ?_
  intro W base args ds gs before hval0 hW _ _ hL _
  have hval : ∀ (j : Nat) t v, Tryd.f3.params[j]? = some t → args[j]? = some v → Value.okWide Tryd.prog W .any base t v := hval0
  have hW' := hW
  obtain ⟨p, q, hA0, hV, rfl, hfz, hnd⟩ := hW
  have hA : DataW.TrodAll enc Tryd.prog W 0 (fun _ => true) true Tryd.f3.params.toList args.toList ds p := hA0
  rw [Tryd.params3] at hA hval
  obtain ⟨v0, vs0, d0, ds0, p0, q0, hargs, rfl, rfl, h0, r0⟩ := trodAll_cons hA
  obtain ⟨v1, vs1, d1, ds1, p1, q1, rfl, rfl, rfl, h1, r1⟩ := trodAll_cons r0
  obtain ⟨rfl, rfl, rfl⟩ := trodAll_nil r1
  obtain rfl : args = #[v0, v1] := by cases args; simp_all
  obtain ⟨rfl, rfl⟩ := trodVars_none hV
  obtain ⟨c00, c01, c02, y00, y01, y02, n0, rfl, rfl, rfl, hy00, hy01, hy02⟩ := open_agg3 Tryd.underlying23 (by kernel_rfl) cells23 (hval 0 23 v0 rfl rfl) h0
  obtain ⟨b00, e00, rfl, w00⟩ := DataW.trod_int Tryd.underlying3 hy00
  obtain ⟨b01, e01, rfl, w01⟩ := DataW.trod_int Tryd.underlying3 hy01
  obtain ⟨b02, e02, rfl, w02⟩ := DataW.trod_int Tryd.underlying3 hy02
  simp only [List.cons.injEq, and_true] at e00 e01 e02
  subst e00 e01 e02
  obtain ⟨a1, rfl, rfl, rfl, w1⟩ := open_int Tryd.underlying3 (hval 1 3 v1 rfl rfl) h1
  clear hA0 hval0
  simp only [List.append_nil] at hW'
  refine (walk b00 b01 b02 a1 w00 w01 w02 w1 W (of_laid hL)).mono fun e W' ⟨he, hg⟩ => ?_
  subst he
  exact ⟨_, rfl, post_of_same (pa := []) (pv := []) hW' (fun _ _ _ => (trodAll_cons_mk (shut_bool Tryd.underlying4 _) trodAll_mk0)) (fun sp _ => (trodAll_cons_mk (shut_agg3 (y0 := (.lit (.int .i64 b00), [])) (y1 := (.lit (.int .i64 b01), [])) (y2 := (.lit (.int .i64 b02), [])) Tryd.underlying23 (by kernel_rfl) cells23 ⟨1, by simp [DataW.trod, Tryd.underlying3, w00]⟩ ⟨1, by simp [DataW.trod, Tryd.underlying3, w01]⟩ ⟨1, by simp [DataW.trod, Tryd.underlying3, w02]⟩) (trodAll_cons_mk (shut_int Tryd.underlying3 w1) trodAll_mk0))) (fun _ _ => rfl) rfl
    (hg.frame _) hg.2.1 (ok_one (by kernel_rfl) rfl (okWide_bool_mk Tryd.underlying4 _))⟩

theorem over : Rows.gregTellsRow.holds Tryd.pinned (OpenSpec.ofChange Rows.gregTellsSpec) :=
  OpenClaim.holds_of_wide 3 Tryd.f3 rfl rfl rfl rfl rfl rfl rfl ⟨rfl, rfl, rfl, rfl, rfl⟩ rfl rfl rfl rfl rfl (by kernel_rfl) Tryd.func3 (by kernel_rfl)
    (of_decide_eq_true (by kernel_rfl)) (by unfold Func.isWrapper; first | (rw [if_pos (by decide +kernel)]; kernel_rfl) | (rw [if_neg (by decide +kernel)]; exact ⟨rfl, rfl⟩))
    (fun os started H enc _ => lifted os started H enc)

/-- The statement. -/
theorem proved : Rows.GregTellsCardSaid :=
  Claim7.holds_tied_plain_at .later [] [.data] true (true, "aacca204a4741e31dc60c47b29a7724d966c80bbda26557ec97b9370967abf46") false
    over (fun _ h => by cases h) (by kernel_rfl) (fun _ h => by cases h) gregTells_row_tie rfl ⟨rfl, rfl⟩ (by kernel_rfl) rfl
    (fun f fn hf hfn => by
      obtain rfl : f = 3 := Option.some.inj ((show Tryd.prog.funcNamed "newel/newellaw02.GregTells" = some 3 by kernel_rfl).symm.trans hf) |>.symm
      obtain rfl : fn = Tryd.f3 := (Option.some.inj (Tryd.func3.symm.trans hfn)).symm
      exact ⟨by kernel_rfl, fun j t ht => by
        rw [Tryd.params3] at ht
        have hm : t ∈ [23, 3] := by simpa using Array.mem_of_getElem? ht
        have hall : ([23, 3].all fun u => !Tryd.prog.wantsStandIn u) = true := by kernel_rfl
        exact (show Tryd.prog.wantsStandIn t = false by simpa using List.all_eq_true.1 hall t hm)⟩)
    (by kernel_rfl)
#print axioms proved
end Go.Proofs.YthbgkojmkllagaaDoor.gregTells
