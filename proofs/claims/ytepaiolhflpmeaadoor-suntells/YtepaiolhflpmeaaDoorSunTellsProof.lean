/-
  When the sun sets on any day is the document's, for every table and every int. Condition: the table of months starts as the program's text lays it.
-/
import Derived.Test.YtepaiolhflpmeaaDoorLt
namespace Go.Proofs.YtepaiolhflpmeaaDoor.sunTells
open Go.ChangeShapes Go.WideShapes Go.ChangeAt Go.RowKit Go.Joins
open Go.Proofs.YtepaiolhflpmeaaDoor.Divs Go.Proofs.YtepaiolhflpmeaaDoor.Grow Go.Proofs.YtepaiolhflpmeaaDoor.Zo Go.Proofs.YtepaiolhflpmeaaDoor.Zone
open Go.Proofs.YtepaiolhflpmeaaDoor.Greg (Laid laidL own of_laid door_met Zwf zd open_zone shut_zone)
open Go.Proofs.YtepaiolhflpmeaaDoor.Su
open Go.Proofs.YtepaiolhflpmeaaDoor.Sun
set_option linter.unusedVariables false

theorem aV_no (s : Nat → Int) (n : Int) (h : ¬ aE s n = 0) : aV s n = 0 := by unfold aV; rw [if_neg h]

set_option maxHeartbeats 1000000 in
theorem walk_bad (s : Nat → Int) (n : Int) (w : World) (hL : Laid w) (h : ¬ sk s = 0) : Calls Tryd.prog 4 #[.agg (sc s), .int .i64 n] w fun e w' => e = .returned (.bool true) ∧ Later w w' := by
  have hE : aE s n = sk s := by unfold aE; rw [if_neg h]
  have hV := aV_no s n (by rw [hE]; exact h)
  have A := Lib.hid awake_any
  have T := fun W hW => at_any s n W hW
  rw [hE, hV] at T
  have HA := Lib.hid T
  have R := Lib.hid (fun W => rcheck_tab s W)
  have e0 : (sk s == 0) = false := by simpa using h
  have e1 : (sk s != 0) = true := by simpa using h
  have HT := Lib.hid (Sat.new w s)
  have HW := Lib.hid ((Later.refl w).alloc (sc s) 23)
  have HL := Lib.hid (hL.grown HW.out)
  clear hL h hE hV T
  unfold sc at *
  go_enter Tryd.func4, Tryd.ntmps4
  go_wp2_with fail
  refine (HA.out _ HL.out).mono ?_
  rintro e w1 ⟨rfl, hg1⟩
  have G1 := Lib.hid hg1
  clear hg1
  obtain ⟨t0, t1, t2, t3, t4, t5, t6, t7, t8, t9, t10, t11⟩ := (HT.out.later G1.out).all
  go_wp2_with fail
  refine (R.out _).mono ?_
  rintro e w2 ⟨rfl, hg2⟩
  have G2 := Lib.hid (gtrans G1.out hg2)
  clear hg2
  clear t0 t1 t2 t3 t4 t5 t6 t7 t8 t9 t10 t11
  go_wp2_with fail
  refine (A.out _ (HL.out.grown G2.out)).mono ?_
  rintro e w3 ⟨rfl, hg3⟩
  go_wp2_with fail
  go_ret
  exact ⟨rfl, gtrans HW.out (gtrans G2.out hg3)⟩

set_option maxHeartbeats 1000000 in
theorem walk_day (s : Nat → Int) (n : Int) (w : World) (hL : Laid w) (h : sk s = 0) (hn : n < 1 ∨ n > 3652059) : Calls Tryd.prog 4 #[.agg (sc s), .int .i64 n] w fun e w' => e = .returned (.bool true) ∧ Later w w' := by
  have hE : aE s n = 72 := by unfold aE; rw [if_pos h, if_neg (by omega)]
  have hV := aV_no s n (by rw [hE]; omega)
  have A := Lib.hid awake_any
  have T := fun W hW => at_any s n W hW
  rw [hE, hV] at T
  have HA := Lib.hid T
  have R := fun W => rcheck_tab s W
  rw [h] at R
  have HR := Lib.hid R
  have HT := Lib.hid (Sat.new w s)
  have HW := Lib.hid ((Later.refl w).alloc (sc s) 23)
  have HL := Lib.hid (hL.grown HW.out)
  clear hL h hE hV T R
  unfold sc at *
  by_cases h1 : n < 1
  · have e2 : decide (n < 1) = true := by simpa using h1
    clear h1 hn
    go_enter Tryd.func4, Tryd.ntmps4
    go_wp2_with fail
    refine (HA.out _ HL.out).mono ?_
    rintro e w1 ⟨rfl, hg1⟩
    have G1 := Lib.hid hg1
    clear hg1
    obtain ⟨t0, t1, t2, t3, t4, t5, t6, t7, t8, t9, t10, t11⟩ := (HT.out.later G1.out).all
    go_wp2_with fail
    refine (HR.out _).mono ?_
    rintro e w2 ⟨rfl, hg2⟩
    have G2 := Lib.hid (gtrans G1.out hg2)
    clear hg2
    clear t0 t1 t2 t3 t4 t5 t6 t7 t8 t9 t10 t11
    go_wp2_with fail
    refine (A.out _ (HL.out.grown G2.out)).mono ?_
    rintro e w3 ⟨rfl, hg3⟩
    go_wp2_with fail
    go_ret
    exact ⟨rfl, gtrans HW.out (gtrans G2.out hg3)⟩
  · have e2 : decide (n < 1) = false := by simpa using h1
    have e3 : decide (n > 3652059) = true := by simp; omega
    clear h1 hn
    go_enter Tryd.func4, Tryd.ntmps4
    go_wp2_with fail
    refine (HA.out _ HL.out).mono ?_
    rintro e w1 ⟨rfl, hg1⟩
    have G1 := Lib.hid hg1
    clear hg1
    obtain ⟨t0, t1, t2, t3, t4, t5, t6, t7, t8, t9, t10, t11⟩ := (HT.out.later G1.out).all
    go_wp2_with fail
    refine (HR.out _).mono ?_
    rintro e w2 ⟨rfl, hg2⟩
    have G2 := Lib.hid (gtrans G1.out hg2)
    clear hg2
    clear t0 t1 t2 t3 t4 t5 t6 t7 t8 t9 t10 t11
    go_wp2_with fail
    refine (A.out _ (HL.out.grown G2.out)).mono ?_
    rintro e w3 ⟨rfl, hg3⟩
    go_wp2_with fail
    go_ret
    exact ⟨rfl, gtrans HW.out (gtrans G2.out hg3)⟩

set_option maxHeartbeats 1000000 in
theorem walk_yes (s : Nat → Int) (n : Int) (w : World) (hL : Laid w) (h : sk s = 0) (h1 : 1 ≤ n) (h2 : n ≤ 3652059) : Calls Tryd.prog 4 #[.agg (sc s), .int .i64 n] w fun e w' => e = .returned (.bool true) ∧ Later w w' := by
  have hE : aE s n = 0 := (aE_ok s n).2 ⟨h, h1, h2⟩
  have hV : aV s n = sa s n := by unfold aV; rw [if_pos hE]
  have A := Lib.hid awake_any
  have T := fun W hW => at_any s n W hW
  rw [hE, hV] at T
  have HA := Lib.hid T
  have R := fun W => rcheck_tab s W
  rw [h] at R
  have HR := Lib.hid R
  have HU := Lib.hid (fun W => rat_any s n W h h1 h2)
  have e2 : decide (n < 1) = false := by simp; omega
  have e3 : decide (n > 3652059) = false := by simp; omega
  have e4 : (sa s n == sa s n) = true := by simp
  have HT := Lib.hid (Sat.new w s)
  have HW := Lib.hid ((Later.refl w).alloc (sc s) 23)
  have HL := Lib.hid (hL.grown HW.out)
  clear hL h hE hV T R h1 h2
  unfold sc at *
  go_enter Tryd.func4, Tryd.ntmps4
  go_wp2_with fail
  refine (HA.out _ HL.out).mono ?_
  rintro e w1 ⟨rfl, hg1⟩
  have G1 := Lib.hid hg1
  clear hg1
  obtain ⟨t0, t1, t2, t3, t4, t5, t6, t7, t8, t9, t10, t11⟩ := (HT.out.later G1.out).all
  go_wp2_with fail
  refine (HR.out _).mono ?_
  rintro e w2 ⟨rfl, hg2⟩
  have G2 := Lib.hid (gtrans G1.out hg2)
  clear hg2
  clear t0 t1 t2 t3 t4 t5 t6 t7 t8 t9 t10 t11
  go_wp2_with fail
  refine (A.out _ (HL.out.grown G2.out)).mono ?_
  rintro e w3 ⟨rfl, hg3⟩
  have G3 := Lib.hid (gtrans G2.out hg3)
  clear hg3
  obtain ⟨t0, t1, t2, t3, t4, t5, t6, t7, t8, t9, t10, t11⟩ := (HT.out.later G3.out).all
  go_wp2_with fail
  refine (HU.out _).mono ?_
  rintro e w4 ⟨rfl, hg4⟩
  have G4 := Lib.hid (gtrans G3.out hg4)
  clear hg4
  clear t0 t1 t2 t3 t4 t5 t6 t7 t8 t9 t10 t11
  go_wp2_with fail
  go_ret
  exact ⟨rfl, gtrans HW.out G4.out⟩

theorem walk (s : Nat → Int) (n : Int) (hs : Swf s) (hn : (Lit.int .i64 n).wf = true) (w : World) (hL : Laid w) : Calls Tryd.prog 4 #[.agg (sc s), .int .i64 n] w fun e w' => e = .returned (.bool true) ∧ Later w w' := by
  by_cases h : sk s = 0
  · by_cases h1 : 1 ≤ n ∧ n ≤ 3652059
    · exact walk_yes s n w hL h h1.1 h1.2
    · exact walk_day s n w hL h (by omega)
  · exact walk_bad s n w hL h

set_option maxHeartbeats 1000000 in
set_option maxRecDepth 100000 in
theorem lifted (os : Os) (started : os.Started) (H : Type) (enc : TypeId × Value → H) :
    ReturnsInHanded {} Tryd.checked os 4 .any (fun w args => (Rows.sunTellsSpec.pre enc Tryd.prog Tryd.f4 [] false w args ∧ laidMetH Tryd.prog laidL w) ∧ sizedMet enc Tryd.prog Tryd.f4 (OpenSpec.ofChange Rows.sunTellsSpec) false w args)
      (Rows.sunTellsSpec.post enc Tryd.prog Tryd.f4 false true false false) := by
  refine returnsInHanded_of_change_and (C := Tryd.checked) (X := fun w _ => laidMetH Tryd.prog laidL w) (fun _ _ _ hh h => h.of_heap hh) own started (by kernel_rfl) Tryd.func4
    (ChangeSpec.witness_shaped (enc := enc) (C := Tryd.checked) (os := os) (X := fun w _ => laidMetH Tryd.prog laidL w) false (World.doorLaid Tryd.prog 400 os) #[.agg #[.int .i64 0, .int .i64 0, .int .i64 0, .int .i64 0, .int .i64 0, .int .i64 0, .int .i64 0, .int .i64 0, .int .i64 0, .int .i64 0, .int .i64 0, .int .i64 0], .int .i64 0] 8 rfl (World.shaped_of_RefB (by kernel_rfl) (by kernel_rfl)) (by kernel_rfl) (by kernel_rfl) (by kernel_rfl) (door_met os _)) ?_
  intro W base args ds gs before hval0 hW _ _ hL _
  have hval : ∀ (j : Nat) t v, Tryd.f4.params[j]? = some t → args[j]? = some v → Value.okWide Tryd.prog W .any base t v := hval0
  have hW' := hW
  obtain ⟨p, q, hA0, hV, rfl, hfz, hnd⟩ := hW
  have hA : DataW.TrodAll enc Tryd.prog W 0 (fun _ => true) true Tryd.f4.params.toList args.toList ds p := hA0
  rw [Tryd.params4] at hA hval
  obtain ⟨v0, vs0, d0, ds0, p0, q0, hargs, rfl, rfl, h0, r0⟩ := trodAll_cons hA
  obtain ⟨v1, vs1, d1, ds1, p1, q1, rfl, rfl, rfl, h1, r1⟩ := trodAll_cons r0
  obtain ⟨rfl, rfl, rfl⟩ := trodAll_nil r1
  obtain rfl : args = #[v0, v1] := by cases args; simp_all
  obtain ⟨rfl, rfl⟩ := trodVars_none hV
  obtain ⟨a0, rfl, rfl, rfl, w0⟩ := open_tab (hval 0 23 v0 rfl rfl) h0
  obtain ⟨a1, rfl, rfl, rfl, w1⟩ := open_int Tryd.underlying3 (hval 1 3 v1 rfl rfl) h1
  clear hA0 hval0
  simp only [List.append_nil] at hW'
  refine (walk a0 a1 w0 w1 W (of_laid hL)).mono fun e W' ⟨he, hg⟩ => ?_
  subst he
  exact ⟨_, rfl, post_bare hW' (fun _ _ _ => (trodAll_cons_mk (shut_bool Tryd.underlying4 _) trodAll_mk0)) (fun sp => (trodAll_cons_mk (shut_tab a0 w0) (trodAll_cons_mk (shut_int Tryd.underlying3 w1) trodAll_mk0))) (fun _ => rfl) hg
    (ok_one (by kernel_rfl) rfl (okWide_bool_mk Tryd.underlying4 _))⟩

theorem over : Rows.sunTellsRow.holds Tryd.pinned (OpenSpec.ofChange Rows.sunTellsSpec) :=
  OpenClaim.holds_of_wide 4 Tryd.f4 rfl rfl rfl rfl rfl rfl rfl ⟨rfl, rfl, rfl, rfl, rfl⟩ rfl rfl rfl rfl rfl (by kernel_rfl) Tryd.func4 (by kernel_rfl)
    (of_decide_eq_true (by kernel_rfl)) (by unfold Func.isWrapper; first | (rw [if_pos (by decide +kernel)]; kernel_rfl) | (rw [if_neg (by decide +kernel)]; exact ⟨rfl, rfl⟩))
    (fun os started H enc _ => lifted os started H enc)

/-- The statement. -/
theorem proved : Rows.SunTellsCardSaid :=
  Claim7.holds_tied_plain_at .later [] [.data] true (true, "cda0cf21e3af875b19f88d87297b3dece36d527f926f0c673c6af6d5ca33074c") false
    over (fun _ h => by cases h) (by kernel_rfl) (fun _ h => by cases h) sunTells_row_tie rfl ⟨rfl, rfl⟩ (by kernel_rfl) rfl
    (fun f fn hf hfn => by
      obtain rfl : f = 4 := Option.some.inj ((show Tryd.prog.funcNamed "newel/newellaw07.SunTells" = some 4 by kernel_rfl).symm.trans hf) |>.symm
      obtain rfl : fn = Tryd.f4 := (Option.some.inj (Tryd.func4.symm.trans hfn)).symm
      exact ⟨by kernel_rfl, fun j t ht => by
        rw [Tryd.params4] at ht
        have hm : t ∈ [23, 3] := by simpa using Array.mem_of_getElem? ht
        have hall : ([23, 3].all fun u => !Tryd.prog.wantsStandIn u) = true := by kernel_rfl
        exact (show Tryd.prog.wantsStandIn t = false by simpa using List.all_eq_true.1 hall t hm)⟩)
    (by kernel_rfl)
#print axioms proved
end Go.Proofs.YtepaiolhflpmeaaDoor.sunTells
