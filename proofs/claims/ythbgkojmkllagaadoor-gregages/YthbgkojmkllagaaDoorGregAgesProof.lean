/-
  The statement GregAges: for any date that may be, up to the year 9599, the date 400 years later has a number greater by 146097, the same weekday, and its year is leap just if that one is; where Day refuses, it answers 0. Condition: the table of months is what the program's text lays (the card ties it).
-/
import Derived.Test.YthbgkojmkllagaaDoorLift
namespace Go.Proofs.YthbgkojmkllagaaDoor.gregAges
open Go.ChangeShapes Go.WideShapes Go.ChangeAt Go.RowKit Go.Joins
open Go.Proofs.YthbgkojmkllagaaDoor.Divs Go.Proofs.YthbgkojmkllagaaDoor.Greg
open Go.Proofs.YthbgkojmkllagaaDoor.Cal (lp ln tab dm ya ma dn yr mo om od)
set_option linter.unusedVariables false

theorem lp_ages (y : Int) : lp (y + 400) = lp y := by
  unfold Cal.lp
  have e4 : (y + 400) % 4 = y % 4 := by omega
  have e100 : (y + 400) % 100 = y % 100 := by omega
  have e400 : (y + 400) % 400 = y % 400 := by omega
  rw [e4, e100, e400]

theorem dm_ages (y m : Int) (h1 : 1 ≤ y) (h2 : y ≤ 9599) : dm (y + 400) m = dm y m := by
  unfold Cal.dm
  rw [lp_ages]
  by_cases h : m < 1 ∨ 12 < m
  · rw [if_pos (by omega), if_pos (by omega)]
  · have a : ¬ (y + 400 < 1 ∨ 9999 < y + 400 ∨ m < 1 ∨ 12 < m) := by omega
    have b : ¬ (y < 1 ∨ 9999 < y ∨ m < 1 ∨ 12 < m) := by omega
    rw [if_neg a, if_neg b]

theorem dn_ages (y m d : Int) : dn (y + 400) m d = dn y m d + 146097 := by
  unfold Cal.dn Cal.ma
  rw [lp_ages]
  have : ya (y + 400) = ya y + 146097 := by unfold Cal.ya; omega
  rw [this]
  omega

theorem walk (y m d : Int) (wy : (Lit.int .i64 y).wf = true) (wm : (Lit.int .i64 m).wf = true) (wd : (Lit.int .i64 d).wf = true) (w : World) (hL : Laid w) :
    Calls Tryd.prog 8 #[.agg #[.int .i64 y, .int .i64 m, .int .i64 d]] w fun e w' => e = .returned (.bool true) ∧ Grown w w' := by
  clear wy wm wd
  have hL0 : Laid (w.alloc (.cells #[.int .i64 y, .int .i64 m, .int .i64 d] 23)) := hL.grown ((Grown.refl w).alloc _ _)
  have X0 := Lib.hid (gw_new w #[.int .i64 y, .int .i64 m, .int .i64 d] 23 0 (.int .i64 y) rfl)
  have X1 := Lib.hid (gw_new w #[.int .i64 y, .int .i64 m, .int .i64 d] 23 1 (.int .i64 m) rfl)
  have X2 := Lib.hid (gw_new w #[.int .i64 y, .int .i64 m, .int .i64 d] 23 2 (.int .i64 d) rfl)
  by_cases hm : 1 ≤ d ∧ d ≤ dm y m
  · obtain ⟨h1, h2, h3, h4⟩ := Cal.dm_some y m (by omega)
    obtain ⟨_, _, q1, q2⟩ := Cal.dn_bd y m d h1 h2 h3 h4 hm.1 hm.2
    have HD := Lib.hid (fun W hW => day_yes y m d W hW h1 h2 h3 h4 hm.1 hm.2)
    by_cases hy : 9599 < y
    · generalize dn y m d = q at *
      clear hm h1 h2 h3 h4
      go_enter Tryd.func8, Tryd.ntmps8
      go_wp2_with fail
      refine (HD.out _ hL0).mono ?_
      rintro e w1 ⟨rfl, hg1⟩
      have c0 : w1.cell? ⟨w.heap.size, 0, none⟩ = some (.int .i64 y) := X0.out ⟨w1, hg1⟩
      go_wp2_with fail
      refine (awake_any _ (hL0.grown hg1)).mono ?_
      rintro e w2 ⟨rfl, hg2⟩
      go_wp2_with fail
      go_ret
      exact ⟨rfl, gtrans (gtrans ((Grown.refl w).alloc _ _) hg1) hg2⟩
    · have HE := fun W hW => day_yes (y + 400) m d W hW (by omega) (by omega) h3 h4 hm.1 (by rw [dm_ages y m h1 (by omega)]; exact hm.2)
      rw [dn_ages] at HE
      generalize dn y m d = q at *
      have E7 := Lib.hid (show (q % 7 == (q + 146097) % 7) = true from by simp; omega)
      have EL := Lib.hid (show (lp y == lp (y + 400)) = true from by rw [lp_ages]; simp)
      have E1 := Lib.hid (show (q + 146097 - q == 146097) = true from by simp; omega)
      have b1 : 1 ≤ q + 146097 := by omega
      have b2 : q + 146097 ≤ 3798156 := by omega
      generalize q + 146097 = b at *
      have HF := Lib.hid HE
      clear HE
      have hy' : y ≤ 9599 := by omega
      clear hm hy
      go_enter Tryd.func8, Tryd.ntmps8
      go_wp2_with fail
      refine (HD.out _ hL0).mono ?_
      rintro e w1 ⟨rfl, hg1⟩
      have c0 : w1.cell? ⟨w.heap.size, 0, none⟩ = some (.int .i64 y) := X0.out ⟨w1, hg1⟩
      have c1 : w1.cell? ⟨w.heap.size, 1, none⟩ = some (.int .i64 m) := X1.out ⟨w1, hg1⟩
      have c2 : w1.cell? ⟨w.heap.size, 2, none⟩ = some (.int .i64 d) := X2.out ⟨w1, hg1⟩
      go_wp2_with fail
      refine (HF.out _ (hL0.grown hg1)).mono ?_
      rintro e w2 ⟨rfl, hg2⟩
      have hg12 := gtrans hg1 hg2
      clear c0 c1 c2
      go_wp2_with fail
      have hL2 := hL0.grown hg12
      have x0 := gw_cell (X0.out ⟨w2, hg12⟩)
      have e1 := E1.out
      have e7 := E7.out
      have el := EL.out
      refine region_grown (by kernel_rfl) (by kernel_rfl) ?_
      repeat (go_big_quiet_step (first | (go_at_call 18; exact in_grown (awake_any _ (hL2.gw _))) | (go_at_call 15; exact in_grown (drew_g (weekday_any _ _ (by omega) (by omega)))) | (go_at_call 11; exact in_grown (same_g (leap_any _ _)))))
      refine wpQuiet_nil (grown_end ?_)
      intro w3 hg3
      clear x0
      go_wp2_with fail
      go_ret
      exact ⟨by simp, gtrans (gtrans ((Grown.refl w).alloc _ _) hg12) hg3⟩
  · have HD := Lib.hid (fun W hW => day_no y m d W hW (by omega))
    clear hm
    go_enter Tryd.func8, Tryd.ntmps8
    go_wp2_with fail
    refine (HD.out _ hL0).mono ?_
    rintro e w1 ⟨rfl, hg1⟩
    go_wp2_with fail
    refine (awake_any _ (hL0.grown hg1)).mono ?_
    rintro e w2 ⟨rfl, hg2⟩
    go_wp2_with fail
    go_ret
    exact ⟨rfl, gtrans (gtrans ((Grown.refl w).alloc _ _) hg1) hg2⟩

set_option maxHeartbeats 1000000 in
set_option maxRecDepth 100000 in
theorem lifted (os : Os) (started : os.Started) (H : Type) (enc : TypeId × Value → H) :
    ReturnsInHanded {} Tryd.checked os 8 .any (fun w args => (Rows.gregAgesSpec.pre enc Tryd.prog Tryd.f8 [] false w args ∧ laidMetH Tryd.prog laidL w) ∧ sizedMet enc Tryd.prog Tryd.f8 (OpenSpec.ofChange Rows.gregAgesSpec) false w args)
      (Rows.gregAgesSpec.post enc Tryd.prog Tryd.f8 false true false false) := by
  refine returnsInHanded_of_change_and (C := Tryd.checked) (X := fun w _ => laidMetH Tryd.prog laidL w) (fun _ _ _ hh h => h.of_heap hh) own started (by kernel_rfl) Tryd.func8
    (ChangeSpec.witness_shaped (enc := enc) (C := Tryd.checked) (os := os) (X := fun w _ => laidMetH Tryd.prog laidL w) false (World.doorLaid Tryd.prog 400 os) #[.agg #[.int .i64 0, .int .i64 0, .int .i64 0]] 8 rfl (World.shaped_of_RefB (by kernel_rfl) (by kernel_rfl)) (by kernel_rfl) (by kernel_rfl) (by kernel_rfl) (door_met os _)) ?_
  intro W base args ds gs before hval0 hW _ _ hL _
  have hval : ∀ (j : Nat) t v, Tryd.f8.params[j]? = some t → args[j]? = some v → Value.okWide Tryd.prog W .any base t v := hval0
  have hW' := hW
  obtain ⟨p, q, hA0, hV, rfl, hfz, hnd⟩ := hW
  have hA : DataW.TrodAll enc Tryd.prog W 0 (fun _ => true) true Tryd.f8.params.toList args.toList ds p := hA0
  rw [Tryd.params8] at hA hval
  obtain ⟨v0, vs0, d0, ds0, p0, q0, hargs, rfl, rfl, h0, r0⟩ := trodAll_cons hA
  obtain ⟨rfl, rfl, rfl⟩ := trodAll_nil r0
  obtain rfl : args = #[v0] := by cases args; simp_all
  obtain ⟨rfl, rfl⟩ := trodVars_none hV
  obtain ⟨c00, c01, c02, y00, y01, y02, n0, rfl, rfl, rfl, hy00, hy01, hy02⟩ := open_agg3 Tryd.underlying23 (by kernel_rfl) cells23 (hval 0 23 v0 rfl rfl) h0
  obtain ⟨b00, e00, rfl, w00⟩ := DataW.trod_int Tryd.underlying3 hy00
  obtain ⟨b01, e01, rfl, w01⟩ := DataW.trod_int Tryd.underlying3 hy01
  obtain ⟨b02, e02, rfl, w02⟩ := DataW.trod_int Tryd.underlying3 hy02
  simp only [List.cons.injEq, and_true] at e00 e01 e02
  subst e00 e01 e02
  clear hA0 hval0
  simp only [List.append_nil] at hW'
  refine (walk b00 b01 b02 w00 w01 w02 W (of_laid hL)).mono fun e W' ⟨he, hg⟩ => ?_
  subst he
  exact ⟨_, rfl, post_of_same (pa := []) (pv := []) hW' (fun _ _ _ => (trodAll_cons_mk (shut_bool Tryd.underlying4 _) trodAll_mk0)) (fun sp _ => (trodAll_cons_mk (shut_agg3 (y0 := (.lit (.int .i64 b00), [])) (y1 := (.lit (.int .i64 b01), [])) (y2 := (.lit (.int .i64 b02), [])) Tryd.underlying23 (by kernel_rfl) cells23 ⟨1, by simp [DataW.trod, Tryd.underlying3, w00]⟩ ⟨1, by simp [DataW.trod, Tryd.underlying3, w01]⟩ ⟨1, by simp [DataW.trod, Tryd.underlying3, w02]⟩) trodAll_mk0)) (fun _ _ => rfl) rfl
    (hg.frame _) hg.2.1 (ok_one (by kernel_rfl) rfl (okWide_bool_mk Tryd.underlying4 _))⟩

theorem over : Rows.gregAgesRow.holds Tryd.pinned (OpenSpec.ofChange Rows.gregAgesSpec) :=
  OpenClaim.holds_of_wide 8 Tryd.f8 rfl rfl rfl rfl rfl rfl rfl ⟨rfl, rfl, rfl, rfl, rfl⟩ rfl rfl rfl rfl rfl (by kernel_rfl) Tryd.func8 (by kernel_rfl)
    (of_decide_eq_true (by kernel_rfl)) (by unfold Func.isWrapper; first | (rw [if_pos (by decide +kernel)]; kernel_rfl) | (rw [if_neg (by decide +kernel)]; exact ⟨rfl, rfl⟩))
    (fun os started H enc _ => lifted os started H enc)

/-- The statement. -/
theorem proved : Rows.GregAgesCardSaid :=
  Claim7.holds_tied_plain_at .later [] [.data] true (true, "aacca204a4741e31dc60c47b29a7724d966c80bbda26557ec97b9370967abf46") false
    over (fun _ h => by cases h) (by kernel_rfl) (fun _ h => by cases h) gregAges_row_tie rfl ⟨rfl, rfl⟩ (by kernel_rfl) rfl
    (fun f fn hf hfn => by
      obtain rfl : f = 8 := Option.some.inj ((show Tryd.prog.funcNamed "newel/newellaw02.GregAges" = some 8 by kernel_rfl).symm.trans hf) |>.symm
      obtain rfl : fn = Tryd.f8 := (Option.some.inj (Tryd.func8.symm.trans hfn)).symm
      exact ⟨by kernel_rfl, fun j t ht => by
        rw [Tryd.params8] at ht
        have hm : t ∈ [23] := by simpa using Array.mem_of_getElem? ht
        have hall : ([23].all fun u => !Tryd.prog.wantsStandIn u) = true := by kernel_rfl
        exact (show Tryd.prog.wantsStandIn t = false by simpa using List.all_eq_true.1 hall t hm)⟩)
    (by kernel_rfl)
#print axioms proved
end Go.Proofs.YthbgkojmkllagaaDoor.gregAges
