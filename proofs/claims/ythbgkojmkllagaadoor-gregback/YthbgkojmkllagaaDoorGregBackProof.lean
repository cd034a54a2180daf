/-
  The statement GregBack: for any date that may be Of of its Day is that date; for any day's number Day of its Of is that number. Condition: the table of months is what the program's text lays (the card ties it).
-/
import Derived.Test.YthbgkojmkllagaaDoorLift
namespace Go.Proofs.YthbgkojmkllagaaDoor.gregBack
open Go.ChangeShapes Go.WideShapes Go.ChangeAt Go.RowKit Go.Joins
open Go.Proofs.YthbgkojmkllagaaDoor.Divs Go.Proofs.YthbgkojmkllagaaDoor.Greg
open Go.Proofs.YthbgkojmkllagaaDoor.Cal (lp ln tab dm ya ma dn yr mo om od)
set_option linter.unusedVariables false

theorem zero_no (w : World) : Calls Tryd.prog 20 #[.int .i64 0] w fun e w' => e = .returned (.tuple #[.agg #[.int .i64 0, .int .i64 0, .int .i64 0], .int .i64 21]) ∧ Grown w w' := of_no 0 w (by omega)

theorem zero_day (w : World) : Calls Tryd.prog 10 #[.agg #[.int .i64 0, .int .i64 0, .int .i64 0]] w fun e w' => e = .returned (.tuple #[.int .i64 0, .int .i64 20]) ∧ Grown w w' := day_low 0 0 0 w (by omega)

/-- The second half, with what its four calls come to. -/
theorem core (y m d n q e0 b0 b1 b2 f0 o0 o1 o2 g0 a0 h0 : Int) (w : World) (hL : Laid w)
    (HD : Hid (∀ W, Laid W → Calls Tryd.prog 10 #[.agg #[.int .i64 y, .int .i64 m, .int .i64 d]] W fun e w' => e = .returned (.tuple #[.int .i64 q, .int .i64 e0]) ∧ Grown W w'))
    (HB : Hid (∀ W, Laid W → Calls Tryd.prog 20 #[.int .i64 q] W fun e w' => e = .returned (.tuple #[.agg #[.int .i64 b0, .int .i64 b1, .int .i64 b2], .int .i64 f0]) ∧ Grown W w'))
    (HO : Hid (∀ W, Laid W → Calls Tryd.prog 20 #[.int .i64 n] W fun e w' => e = .returned (.tuple #[.agg #[.int .i64 o0, .int .i64 o1, .int .i64 o2], .int .i64 g0]) ∧ Grown W w'))
    (HA : Hid (∀ W, Laid W → Calls Tryd.prog 10 #[.agg #[.int .i64 o0, .int .i64 o1, .int .i64 o2]] W fun e w' => e = .returned (.tuple #[.int .i64 a0, .int .i64 h0]) ∧ Grown W w'))
    (he : (e0 == 0) = false ∨ ((e0 == 0) = true ∧ (f0 != 0) = false ∧ (b0 == y) = true ∧ (b1 == m) = true ∧ (b2 == d) = true)) (hg : (g0 != 0) = true ∨ ((g0 != 0) = false ∧ (h0 == 0) = true ∧ (a0 == n) = true)) :
    Calls Tryd.prog 6 #[.agg #[.int .i64 y, .int .i64 m, .int .i64 d], .int .i64 n] w fun e w' => e = .returned (.bool true) ∧ Grown w w' := by
  have hL0 : Laid (w.alloc (.cells #[.int .i64 y, .int .i64 m, .int .i64 d] 23)) := hL.grown ((Grown.refl w).alloc _ _)
  have X0 := Lib.hid (gw_new w #[.int .i64 y, .int .i64 m, .int .i64 d] 23 0 (.int .i64 y) rfl)
  have X1 := Lib.hid (gw_new w #[.int .i64 y, .int .i64 m, .int .i64 d] 23 1 (.int .i64 m) rfl)
  have X2 := Lib.hid (gw_new w #[.int .i64 y, .int .i64 m, .int .i64 d] 23 2 (.int .i64 d) rfl)
  rcases he with he | ⟨he, hf, hb0, hb1, hb2⟩ <;> rcases hg with hg | ⟨hg, hh, ha⟩
  all_goals
    go_enter Tryd.func6, Tryd.ntmps6
    go_wp2_with fail
    refine (HD.out _ hL0).mono ?_
    rintro e w1 ⟨rfl, hg1⟩
    go_wp2_with fail
    refine (HB.out _ (hL0.grown hg1)).mono ?_
    rintro e w2 ⟨rfl, hg2⟩
    have hg12 := gtrans hg1 hg2
    have c0 : w2.cell? ⟨w.heap.size, 0, none⟩ = some (.int .i64 y) := X0.out ⟨w2, hg12⟩
    have c1 : w2.cell? ⟨w.heap.size, 1, none⟩ = some (.int .i64 m) := X1.out ⟨w2, hg12⟩
    have c2 : w2.cell? ⟨w.heap.size, 2, none⟩ = some (.int .i64 d) := X2.out ⟨w2, hg12⟩
    have z2 : w.heap.size < w2.heap.size := Nat.lt_of_lt_of_le (by simp) hg12.2.2
    have z2' : ¬ w2.heap.size = w.heap.size := by omega
    have z2'' : ¬ w.heap.size = w2.heap.size := by omega
    go_wp2_with fail
    have hg13 := hg12.alloc #[.int .i64 b0, .int .i64 b1, .int .i64 b2] 23
    refine (HO.out _ (hL0.grown hg13)).mono ?_
    rintro e w3 ⟨rfl, hg3⟩
    clear c0 c1 c2 z2 z2' z2''
    have hg14 := gtrans hg13 hg3
    go_wp2_with fail
    have hg15 := hg14.alloc #[.int .i64 o0, .int .i64 o1, .int .i64 o2] 23
    refine (HA.out _ (hL0.grown hg15)).mono ?_
    rintro e w4 ⟨rfl, hg4⟩
    have hg16 := gtrans hg15 hg4
    go_wp2_with fail
    refine (awake_any _ (hL0.grown hg16)).mono ?_
    rintro e w5 ⟨rfl, hg5⟩
    go_wp2_with fail
    go_ret
    exact ⟨rfl, gtrans (gtrans ((Grown.refl w).alloc _ _) hg16) hg5⟩

theorem walk (y m d n : Int) (wy : (Lit.int .i64 y).wf = true) (wm : (Lit.int .i64 m).wf = true) (wd : (Lit.int .i64 d).wf = true) (wn : (Lit.int .i64 n).wf = true) (w : World) (hL : Laid w) :
    Calls Tryd.prog 6 #[.agg #[.int .i64 y, .int .i64 m, .int .i64 d], .int .i64 n] w fun e w' => e = .returned (.bool true) ∧ Grown w w' := by
  have rr : ∀ a : Int, (a == a) = true := fun a => by simp
  by_cases hm : 1 ≤ d ∧ d ≤ dm y m
  · obtain ⟨h1, h2, h3, h4⟩ := Cal.dm_some y m (by omega)
    obtain ⟨k1, k2, k3⟩ := Cal.of_back y m d h1 h2 h3 h4 hm.1 hm.2
    obtain ⟨_, _, q1, q2⟩ := Cal.dn_bd y m d h1 h2 h3 h4 hm.1 hm.2
    have HD := fun W hW => day_yes y m d W hW h1 h2 h3 h4 hm.1 hm.2
    have HB := fun W hW => of_yes (dn y m d) W hW q1 q2
    rw [k1, k2, k3] at HB
    by_cases hn : n < 1 ∨ 3652059 < n
    · exact core y m d n (dn y m d) 0 y m d 0 0 0 0 21 0 20 w hL (Lib.hid HD) (Lib.hid HB) (Lib.hid fun W _ => of_no n W hn) (Lib.hid fun W _ => zero_day W) (Or.inr ⟨rfl, rfl, rr _, rr _, rr _⟩) (Or.inl rfl)
    · obtain ⟨i1, i2, i3, i4, i5, i6⟩ := Cal.of_in n (by omega) (by omega)
      have HA := fun W hW => day_yes (yr n) (om n) (od n) W hW i1 i2 i3 i4 i5 i6
      rw [Cal.dn_of n] at HA
      exact core y m d n (dn y m d) 0 y m d 0 (yr n) (om n) (od n) 0 n 0 w hL (Lib.hid HD) (Lib.hid HB) (Lib.hid fun W hW => of_yes n W hW (by omega) (by omega)) (Lib.hid HA) (Or.inr ⟨rfl, rfl, rr _, rr _, rr _⟩) (Or.inr ⟨rfl, rfl, rr _⟩)
  · have HD := fun W hW => day_no y m d W hW (by omega)
    by_cases hn : n < 1 ∨ 3652059 < n
    · exact core y m d n 0 20 0 0 0 21 0 0 0 21 0 20 w hL (Lib.hid HD) (Lib.hid fun W _ => zero_no W) (Lib.hid fun W _ => of_no n W hn) (Lib.hid fun W _ => zero_day W) (Or.inl rfl) (Or.inl rfl)
    · obtain ⟨i1, i2, i3, i4, i5, i6⟩ := Cal.of_in n (by omega) (by omega)
      have HA := fun W hW => day_yes (yr n) (om n) (od n) W hW i1 i2 i3 i4 i5 i6
      rw [Cal.dn_of n] at HA
      exact core y m d n 0 20 0 0 0 21 (yr n) (om n) (od n) 0 n 0 w hL (Lib.hid HD) (Lib.hid fun W _ => zero_no W) (Lib.hid fun W hW => of_yes n W hW (by omega) (by omega)) (Lib.hid HA) (Or.inl rfl) (Or.inr ⟨rfl, rfl, rr _⟩)

set_option maxHeartbeats 1000000 in
set_option maxRecDepth 100000 in
theorem lifted (os : Os) (started : os.Started) (H : Type) (enc : TypeId × Value → H) :
    ReturnsInHanded {} Tryd.checked os 6 .any (fun w args => (Rows.gregBackSpec.pre enc Tryd.prog Tryd.f6 [] false w args ∧ laidMetH Tryd.prog laidL w) ∧ sizedMet enc Tryd.prog Tryd.f6 (OpenSpec.ofChange Rows.gregBackSpec) false w args)
      (Rows.gregBackSpec.post enc Tryd.prog Tryd.f6 false true false false) := by
  refine returnsInHanded_of_change_and (C := Tryd.checked) (X := fun w _ => laidMetH Tryd.prog laidL w) (fun _ _ _ hh h => h.of_heap hh) own started (by kernel_rfl) Tryd.func6
    (ChangeSpec.witness_shaped (enc := enc) (C := Tryd.checked) (os := os) (X := fun w _ => laidMetH Tryd.prog laidL w) false (World.doorLaid Tryd.prog 400 os) #[.agg #[.int .i64 0, .int .i64 0, .int .i64 0], .int .i64 0] 8 rfl (World.shaped_of_RefB (by kernel_rfl) (by kernel_rfl)) (by kernel_rfl) (by kernel_rfl) (by kernel_rfl) (door_met os _)) ?_
  intro W base args ds gs before hval0 hW _ _ hL _
  have hval : ∀ (j : Nat) t v, Tryd.f6.params[j]? = some t → args[j]? = some v → Value.okWide Tryd.prog W .any base t v := hval0
  have hW' := hW
  obtain ⟨p, q, hA0, hV, rfl, hfz, hnd⟩ := hW
  have hA : DataW.TrodAll enc Tryd.prog W 0 (fun _ => true) true Tryd.f6.params.toList args.toList ds p := hA0
  rw [Tryd.params6] at hA hval
  obtain ⟨v0, vs0, d0, ds0, p0, q0, hargs, rfl, rfl, h0, r0⟩ := trodAll_cons hA
  obtain ⟨v1, vs1, d1, ds1, p1, q1, rfl, rfl, rfl, h1, r1⟩ := trodAll_cons r0
  obtain ⟨rfl, rfl, rfl⟩ := trodAll_nil r1
  obtain rfl : args = #[v0, v1] := by cases args; simp_all
  obtain ⟨rfl, rfl⟩ := trodVars_none hV
  obtain ⟨c00, c01, c02, y00, y01, y02, n0, rfl, rfl, rfl, hy00, hy01, hy02⟩ := open_agg3 Tryd.underlying23 (by kernel_rfl) cells23 (hval 0 23 v0 rfl rfl) h0
  obtain ⟨b00, e00, rfl, w00⟩ := DataW.trod_int Tryd.underlying3 hy00
  obtain ⟨b01, e01, rfl, w01⟩ := DataW.trod_int Tryd.underlying3 hy01
  obtain ⟨b02, e02, rfl, w02⟩ := DataW.trod_int Tryd.underlying3 hy02
  simp only [List.cons.injEq, and_true] at e00 e01 e02
  subst e00 e01 e02
  obtain ⟨a1, rfl, rfl, rfl, w1⟩ := open_int Tryd.underlying3 (hval 1 3 v1 rfl rfl) h1
  clear hA0 hval0
  simp only [List.append_nil] at hW'
  refine (walk b00 b01 b02 a1 w00 w01 w02 w1 W (of_laid hL)).mono fun e W' ⟨he, hg⟩ => ?_
  subst he
  exact ⟨_, rfl, post_of_same (pa := []) (pv := []) hW' (fun _ _ _ => (trodAll_cons_mk (shut_bool Tryd.underlying4 _) trodAll_mk0)) (fun sp _ => (trodAll_cons_mk (shut_agg3 (y0 := (.lit (.int .i64 b00), [])) (y1 := (.lit (.int .i64 b01), [])) (y2 := (.lit (.int .i64 b02), [])) Tryd.underlying23 (by kernel_rfl) cells23 ⟨1, by simp [DataW.trod, Tryd.underlying3, w00]⟩ ⟨1, by simp [DataW.trod, Tryd.underlying3, w01]⟩ ⟨1, by simp [DataW.trod, Tryd.underlying3, w02]⟩) (trodAll_cons_mk (shut_int Tryd.underlying3 w1) trodAll_mk0))) (fun _ _ => rfl) rfl
    (hg.frame _) hg.2.1 (ok_one (by kernel_rfl) rfl (okWide_bool_mk Tryd.underlying4 _))⟩

theorem over : Rows.gregBackRow.holds Tryd.pinned (OpenSpec.ofChange Rows.gregBackSpec) :=
  OpenClaim.holds_of_wide 6 Tryd.f6 rfl rfl rfl rfl rfl rfl rfl ⟨rfl, rfl, rfl, rfl, rfl⟩ rfl rfl rfl rfl rfl (by kernel_rfl) Tryd.func6 (by kernel_rfl)
    (of_decide_eq_true (by kernel_rfl)) (by unfold Func.isWrapper; first | (rw [if_pos (by decide +kernel)]; kernel_rfl) | (rw [if_neg (by decide +kernel)]; exact ⟨rfl, rfl⟩))
    (fun os started H enc _ => lifted os started H enc)

/-- The statement. -/
theorem proved : Rows.GregBackCardSaid :=
  Claim7.holds_tied_plain_at .later [] [.data] true (true, "aacca204a4741e31dc60c47b29a7724d966c80bbda26557ec97b9370967abf46") false
    over (fun _ h => by cases h) (by kernel_rfl) (fun _ h => by cases h) gregBack_row_tie rfl ⟨rfl, rfl⟩ (by kernel_rfl) rfl
    (fun f fn hf hfn => by
      obtain rfl : f = 6 := Option.some.inj ((show Tryd.prog.funcNamed "newel/newellaw02.GregBack" = some 6 by kernel_rfl).symm.trans hf) |>.symm
      obtain rfl : fn = Tryd.f6 := (Option.some.inj (Tryd.func6.symm.trans hfn)).symm
      exact ⟨by kernel_rfl, fun j t ht => by
        rw [Tryd.params6] at ht
        have hm : t ∈ [23, 3] := by simpa using Array.mem_of_getElem? ht
        have hall : ([23, 3].all fun u => !Tryd.prog.wantsStandIn u) = true := by kernel_rfl
        exact (show Tryd.prog.wantsStandIn t = false by simpa using List.all_eq_true.1 hall t hm)⟩)
    (by kernel_rfl)
#print axioms proved
end Go.Proofs.YthbgkojmkllagaaDoor.gregBack
