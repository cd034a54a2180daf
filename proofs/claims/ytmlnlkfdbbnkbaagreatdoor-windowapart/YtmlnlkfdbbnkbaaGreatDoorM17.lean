/-
  Texts of mine, merged: each part says what it holds. Conditions: as each theorem states.
-/
import Derived.Test.YtmlnlkfdbbnkbaaGreatDoorM16

/- A span is as long as its window, in its mode; about days of rest less than five days: the walk. Condition: the table of months lies where the program lays it. -/
namespace Go.Proofs.YtmlnlkfdbbnkbaaGreatDoor.Window
set_option maxRecDepth 100000
open Go.ChangeShapes Go.WideShapes Go.ChangeAt Go.RowKit
open Go.Proofs.YtmlnlkfdbbnkbaaGreatDoor.Divs Go.Proofs.YtmlnlkfdbbnkbaaGreatDoor.Grow
open Go.Proofs.YtmlnlkfdbbnkbaaGreatDoor.Greg (Laid)
open Go.Proofs.YtmlnlkfdbbnkbaaGreatDoor.Zo Go.Proofs.YtmlnlkfdbbnkbaaGreatDoor.Zone Go.Proofs.YtmlnlkfdbbnkbaaGreatDoor.Win
open Go.Proofs.YtmlnlkfdbbnkbaaGreatDoor.Cf (Cg Wn ce wo)
open Go.Proofs.YtmlnlkfdbbnkbaaGreatDoor.Conf (wc cc Is)
open Go.Proofs.YtmlnlkfdbbnkbaaGreatDoor.Fe (kd rst)
open Go.Proofs.YtmlnlkfdbbnkbaaGreatDoor.Su (mV mE sk sa)

set_option linter.unusedVariables false
open Go.Proofs.YtmlnlkfdbbnkbaaGreatDoor.Eachn
open Go.Proofs.YtmlnlkfdbbnkbaaGreatDoor.Conf (At load_at few_of own_of)

theorem is_zone {w W : World} {B : Nat} {D : Array Value} {c : Cg} (h : Is w D c) (ha : At W B D) : W.rangeAt B 13 (zc c.z).toList := by
  obtain ⟨u, v, rfl, _, _⟩ := h
  exact Conf.cc_zone c u v ha

theorem is_cells {w : World} {D : Array Value} {c : Cg} (h : Is w D c) : D[13]? = some (.int .i64 c.z.b) ∧ D[35]? = some (.bool c.ab) := by
  obtain ⟨u, v, rfl, _, _⟩ := h
  exact ⟨rfl, rfl⟩

/-- The ways of a span. -/
def Ways (c : Cg) (x : Wn) (d F T M P : Int) (B : Bool) (E : Int) : Prop :=
  (E ≠ 0 ∧ F = 0 ∧ T = 0 ∧ M = 0 ∧ P = 0 ∧ B = false) ∨ (E = 0 ∧ F = 0 ∧ T = 0 ∧ M = 0 ∧ P = 0 ∧ B = false) ∨
  (E = 0 ∧ x.k = 4 ∧ M = x.m ∧ P = x.p ∧ B = true ∧ F < T ∧ 1000 < T - F ∧ T - F < 7200 ∧ 0 ≤ F ∧ T ≤ 6000000000) ∨
  (E = 0 ∧ x.k ≠ 4 ∧ M = x.m ∧ P = x.p ∧ B = true ∧ T = F + x.l ∧ 1 ≤ x.l ∧ x.l ≤ 10080 ∧ 0 ≤ F ∧ T ≤ 6000000000 ∧ wE c.z d x.u = 0 ∧ wV c.z d x.u = F)

theorem ways (c : Cg) (x : Wn) (d : Int) : Ways c x d (pF c x d) (pT c x d) (pM c x d) (pP c x d) (pB c x d) (pE c x d) := by
  unfold Ways
  cases hb : pB c x d
  · have z : pF c x d = 0 ∧ pT c x d = 0 ∧ pM c x d = 0 ∧ pP c x d = 0 := by unfold pF pT pM pP; rw [hb]; simp
    by_cases h : pE c x d = 0
    · exact .inr (.inl ⟨h, z.1, z.2.1, z.2.2.1, z.2.2.2, rfl⟩)
    · exact .inl ⟨h, z.1, z.2.1, z.2.2.1, z.2.2.2, rfl⟩
  · have h := ((pB_iff c x d).1 hb).1
    have z : pF c x d = fr c x d ∧ pT c x d = tt c x d ∧ pM c x d = x.m ∧ pP c x d = x.p := by unfold pF pT pM pP; rw [hb]; simp
    obtain ⟨z1, z2, z3, z4⟩ := z
    obtain ⟨a, b, d0, d1⟩ := (pE_ok c x d).1 h
    obtain ⟨hz, hs⟩ := ce_parts c a
    have hz' := hz
    unfold May at hz'
    by_cases hk : x.k = 4
    · obtain ⟨q, hr, _, q0, q1, _, _, s, e, s0, s1, e0, e1, u0, u1, l0, l1, f, t⟩ := rest_span c x d hb hk
      refine .inr (.inr (.inl ⟨h, hk, z3, z4, rfl, ?_, ?_, ?_, ?_, ?_⟩)) <;> omega
    · have hw := (Conf.wo_iff x).1 b
      have ht : 0 ≤ x.u ∧ x.u ≤ 1439 ∧ 1 ≤ x.l ∧ x.l ≤ 10080 := (Conf.tmB_iff x).1 (by rcases hw with ⟨_, h | h | h | h⟩ <;> first | exact h.2.1 | (exfalso; omega))
      have f : fr c x d = mv c.z (d * 1440 + x.u) := by unfold fr; rw [if_neg hk]
      have t : tt c x d = fr c x d + x.l := by unfold tt fr; rw [if_neg hk, if_neg hk]
      have bd := mv_bd c.z hz (d * 1440 + x.u) (by omega) (by omega)
      have hwE : wE c.z d x.u = 0 := (wE_ok _ _ _).2 ⟨hz, d0, d1, ht.1, ht.2.1⟩
      refine .inr (.inr (.inr ⟨h, hk, z3, z4, rfl, by rw [z1, z2, t], ht.2.2.1, ht.2.2.2, by rw [z1, f]; omega, by rw [z2, t, f]; omega, hwE, ?_⟩))
      rw [z1, f]; unfold wV; rw [if_pos hwE]

def LV (D : Array Value) (c : Cg) (x : Wn) (d F T M P : Int) (B : Bool) (E0 : Int) : Nat → Value → World → Prop
  | 0, v, _ => v = .agg D
  | 1, v, W => ∃ E B, v = .agg E ∧ Conf.Own W B E c
  | 2, v, _ => v = .agg (wc x).toArray
  | 3, v, _ => v = .int .i64 d
  | 4, v, _ => v = .tuple #[.agg #[.int .i64 F, .int .i64 T, .int .i64 M, .int .i64 P], .bool B, .int .i64 E0]
  | 5, v, _ => v = .tuple #[.agg #[.int .i64 F, .int .i64 T, .int .i64 M, .int .i64 P], .bool B, .int .i64 E0]
  | 6, v, _ => v = .agg #[.int .i64 F, .int .i64 T, .int .i64 M, .int .i64 P]
  | 7, v, _ => v = .bool B
  | 8, v, _ => v = .int .i64 E0
  | 11, v, _ => v = .bool B
  | 12, v, _ => v = .int .i64 E0
  | _, _, _ => True

theorem LV.later (D : Array Value) (c : Cg) (x : Wn) (d F T M P : Int) (B : Bool) (E0 : Int) (i : Nat) (v : Value) (W W' : World) (h : LV D c x d F T M P B E0 i v W) (g : Later W W') : LV D c x d F T M P B E0 i v W' := by
  unfold LV at *
  split at h <;> try exact h
  · exact (let ⟨E, b, e, k⟩ := h; ⟨E, b, e, k.later g⟩)
theorem LV.out (D : Array Value) (c : Cg) (x : Wn) (d F T M P : Int) (B : Bool) (E0 : Int) (i : Nat) (v : Value) (W W' : World) (g : Nat) (cs : Array Value) (h : LV D c x d F T M P B E0 i v W) (r : RA W g cs 39) (n : Nb cs) (o : Out g W W') : LV D c x d F T M P B E0 i v W' := by
  unfold LV at *
  split at h <;> try exact h
  · exact (let ⟨E, b, e, k⟩ := h; ⟨E, b, e, own_out k r o⟩)

set_option maxHeartbeats 2000000 in
theorem long_core (w : World) (hL : Laid w) (D : Array Value) (c : Cg) (hc : Is w D c) (x : Wn) (d : Int) (_ : -9223372036854775808 ≤ d ∧ d ≤ 9223372036854775807) : Calls Tryz.prog 6 #[.agg D, .agg (wc x).toArray, .int .i64 d] w fun e w' => e = .returned (.bool true) ∧ Later w w' := by
  have A := Lib.hid (fun W (hW : Laid W) => awake_any W hW)
  have KF := Lib.hid (fun W (g : Later w W) => few_of (hc.later g))
  have KO := Lib.hid (fun W (g : Later w W) hf => own_of (hc.later g) hf)
  have KS := Lib.hid (fun W (hW : Laid W) E (h : Is W E c) => span_any E c x d W hW h)
  have KM := Lib.hid (fun W (hW : Laid W) => moment_any c.z d x.u W hW)
  unfold sc4 at KS
  have HZ := Lib.hid hc.size
  have HZn := Lib.hid (fun W B (h : At W B D) => is_zone hc h)
  have HQ := Lib.hid (ways c x d)
  have HG0 := Lib.hid (((Later.refl w).alloc D 33).alloc (wc x).toArray 35)
  have HL0 := Lib.hid (hL.grown HG0.out)
  have HA0 := Lib.hid ((At.new w D 33).put (.cells (wc x).toArray 35))
  have HB0 := Lib.hid (At.new (w.alloc (.cells D 33)) (wc x).toArray 35)
  simp only [World.size_alloc] at HB0
  clear hL hc
  generalize pF c x d = F at *
  generalize pT c x d = T at *
  generalize pM c x d = M at *
  generalize pP c x d = P at *
  generalize pB c x d = B at *
  generalize pE c x d = E0 at *
  unfold wc at HG0 HL0 HA0 HB0 ⊢
  go_enter Tryz.func6, Tryz.ntmps6
  go_wp2_with (refine load_at D HZ.out rfl (.tmp 3) rfl w.heap.size rfl HA0.out ?_)
  refine (KF.out _ HG0.out).mono ?_
  rintro e w1 ⟨rfl, hg1⟩
  have HG1 := Lib.hid (gtrans HG0.out hg1)
  have HL1 := Lib.hid (HL0.out.grown hg1)
  have HA1 := Lib.hid (HA0.out.later hg1)
  have HB1 := Lib.hid (HB0.out.later hg1)
  clear hg1
  cases e1 : Conf.fw c with
  | false =>
    go_wp2_with fail
    refine (A.out _ HL1.out).mono ?_
    rintro e w2 ⟨rfl, hg2⟩
    have HG2 := Lib.hid (gtrans HG1.out hg2)
    clear hg2
    go_wp2_with fail
    go_ret
    exact ⟨rfl, HG2.out⟩
  | true =>
    have KO' := Lib.hid (fun W (g : Later w W) => KO.out W g e1)
    go_wp2_with fail
    refine region_box 9 10 7 #[.int .i64 0, .int .i64 0, .int .i64 0, .int .i64 0] 39 (fun cs _ => cs = #[.int .i64 F, .int .i64 T, .int .i64 M, .int .i64 P]) (LV D c x d F T M P B E0) (by kernel_rfl) (by kernel_rfl) (by decide) (by kernel_rfl) (LV.later D c x d F T M P B E0) (LV.out D c x d F T M P B E0) (fun cs W W' h _ => h) trivial ?_ ?_ ?_ ?_ ⟨by decide, by decide⟩
    · intro i hi him his
      match i with
      | 0 =>
        intro o ho
        simp only [List.getElem?_toArray, List.getElem?_cons_zero, Option.some.injEq] at ho
        subst ho
        intro a W hl hold hdep
        refine ite_yes rfl ?_
        have h3 : a.tmps[3]? = some (.pointer (some ⟨w.heap.size, 0, none⟩)) := hold 3 (free_of (by kernel_rfl))
        clear hold hdep
        exact Conf.wp_load_cfg D HZ.out W w.heap.size (HA1.out.later hl) (.tmp 3) rfl (ev h3) ⟨_, rfl, rfl, Later.refl _⟩
      | 1 =>
        intro o ho
        simp only [List.getElem?_toArray, List.getElem?_cons_zero, List.getElem?_cons_succ, Option.some.injEq] at ho
        subst ho
        intro a W hl hold hdep
        refine ite_yes rfl ?_
        obtain ⟨_, h17, rfl⟩ := hdep 0 (by decide) (by decide) (by decide) _ _ rfl rfl
        clear hold hdep
        unfold Oper.wp
        go_simp
        refine (KO'.out _ (gtrans HG1.out hl)).mono ?_
        rintro e w1 ⟨E, rfl, ho, hg1⟩
        exact ⟨_, rfl, ⟨E, _, rfl, ho⟩, hg1⟩
      | 2 =>
        intro o ho
        simp only [List.getElem?_toArray, List.getElem?_cons_zero, List.getElem?_cons_succ, Option.some.injEq] at ho
        subst ho
        intro a W hl hold hdep
        refine ite_yes rfl ?_
        have h4 : a.tmps[4]? = some (.pointer (some ⟨w.heap.size + 1, 0, none⟩)) := hold 4 (free_of (by kernel_rfl))
        clear hold hdep
        exact wp_load_mid (P := Tryz.prog) 35 (.tmp 4) rfl (w.heap.size + 1) 0 (ev h4) (wc x) _ (fun j y hy => by rw [Nat.zero_add]; exact (HB1.out.later hl) j y (by simpa [wc] using hy)) Tryz.underlying35 rfl (by kernel_rfl) ⟨_, rfl, rfl, Later.refl _⟩
      | 3 =>
        intro o ho
        simp only [List.getElem?_toArray, List.getElem?_cons_zero, List.getElem?_cons_succ, Option.some.injEq] at ho
        subst ho
        intro a W hl hold hdep
        refine ite_yes rfl ?_
        have h2 : a.tmps[2]? = some (.int .i64 d) := hold 2 (free_of (by kernel_rfl))
        clear hold hdep
        unfold Oper.wp
        go_simp
        exact ⟨_, rfl, rfl, Later.refl _⟩
      | 4 =>
        intro o ho
        simp only [List.getElem?_toArray, List.getElem?_cons_zero, List.getElem?_cons_succ, Option.some.injEq] at ho
        subst ho
        intro a W hl hold hdep
        refine ite_yes rfl ?_
        obtain ⟨_, h18, ⟨E, B0, rfl, hE⟩⟩ := hdep 1 (by decide) (by decide) (by decide) _ _ rfl rfl
        obtain ⟨_, h19, rfl⟩ := hdep 2 (by decide) (by decide) (by decide) _ _ rfl rfl
        obtain ⟨_, h20, rfl⟩ := hdep 3 (by decide) (by decide) (by decide) _ _ rfl rfl
        clear hold hdep
        unfold Oper.wp
        go_simp
        refine (KS.out _ (HL1.out.grown hl) _ hE.is).mono ?_
        rintro e w1 ⟨rfl, hg1⟩
        exact ⟨_, rfl, rfl, hg1⟩
      | 5 =>
        intro o ho
        simp only [List.getElem?_toArray, List.getElem?_cons_zero, List.getElem?_cons_succ, Option.some.injEq] at ho
        subst ho
        intro a W hl hold hdep
        refine ite_yes rfl ?_
        obtain ⟨_, h21, rfl⟩ := hdep 4 (by decide) (by decide) (by decide) _ _ rfl rfl
        clear hold hdep
        unfold Oper.wp
        go_simp
        exact ⟨_, rfl, rfl, Later.refl _⟩
      | 6 =>
        intro o ho
        simp only [List.getElem?_toArray, List.getElem?_cons_zero, List.getElem?_cons_succ, Option.some.injEq] at ho
        subst ho
        intro a W hl hold hdep
        refine ite_yes rfl ?_
        obtain ⟨_, h16, rfl⟩ := hdep 5 (by decide) (by decide) (by decide) _ _ rfl rfl
        clear hold hdep
        unfold Oper.wp
        go_simp
        exact ⟨_, rfl, rfl, Later.refl _⟩
      | 7 =>
        intro o ho
        simp only [List.getElem?_toArray, List.getElem?_cons_zero, List.getElem?_cons_succ, Option.some.injEq] at ho
        subst ho
        intro a W hl hold hdep
        refine ite_yes rfl ?_
        obtain ⟨_, h16, rfl⟩ := hdep 5 (by decide) (by decide) (by decide) _ _ rfl rfl
        clear hold hdep
        unfold Oper.wp
        go_simp
        exact ⟨_, rfl, rfl, Later.refl _⟩
      | 8 =>
        intro o ho
        simp only [List.getElem?_toArray, List.getElem?_cons_zero, List.getElem?_cons_succ, Option.some.injEq] at ho
        subst ho
        intro a W hl hold hdep
        refine ite_yes rfl ?_
        obtain ⟨_, h16, rfl⟩ := hdep 5 (by decide) (by decide) (by decide) _ _ rfl rfl
        clear hold hdep
        unfold Oper.wp
        go_simp
        exact ⟨_, rfl, rfl, Later.refl _⟩
      | 9 => exact absurd rfl him
      | 10 => exact absurd rfl his
      | 11 =>
        intro o ho
        simp only [List.getElem?_toArray, List.getElem?_cons_zero, List.getElem?_cons_succ, Option.some.injEq] at ho
        subst ho
        intro a W hl hold hdep
        refine ite_yes rfl ?_
        obtain ⟨_, h23, rfl⟩ := hdep 7 (by decide) (by decide) (by decide) _ _ rfl rfl
        clear hold hdep
        unfold Oper.wp
        go_simp
        exact ⟨_, rfl, rfl, Later.refl _⟩
      | 12 =>
        intro o ho
        simp only [List.getElem?_toArray, List.getElem?_cons_zero, List.getElem?_cons_succ, Option.some.injEq] at ho
        subst ho
        intro a W hl hold hdep
        refine ite_yes rfl ?_
        obtain ⟨_, h24, rfl⟩ := hdep 8 (by decide) (by decide) (by decide) _ _ rfl rfl
        clear hold hdep
        unfold Oper.wp
        go_simp
        exact ⟨_, rfl, rfl, Later.refl _⟩
      | k + 13 => exact absurd hi (by simp)
    · intro o ho
      simp only [List.getElem?_toArray, List.getElem?_cons_zero, List.getElem?_cons_succ, Option.some.injEq] at ho
      subst ho
      refine ⟨rfl, rfl, fun a W hl => ?_⟩
      unfold Oper.wp
      go_simp
      exact ⟨_, rfl, hl.size, RA.new _ _ _, (Later.refl _).put _⟩
    · intro o ho
      simp only [List.getElem?_toArray, List.getElem?_cons_zero, List.getElem?_cons_succ, Option.some.injEq] at ho
      subst ho
      refine ⟨rfl, rfl, fun a W g hl hd hg hr hdep => ?_⟩
      obtain ⟨_, h22, rfl⟩ := hdep 6 (by decide) (by decide) (by decide) _ _ rfl rfl
      have c0 := hr.cell 0 _ rfl
      have c1 := hr.cell 1 _ rfl
      have c2 := hr.cell 2 _ rfl
      have c3 := hr.cell 3 _ rfl
      have f0 := hr.froz 0
      have f1 := hr.froz 1
      have f2 := hr.froz 2
      have f3 := hr.froz 3
      clear hdep
      unfold Oper.wp
      go_simp
      exact ⟨later_set4 hl hg _ _ _ _, out4 _ _ _ _ _ _, hr.set4 _ _ _ _, trivial⟩
    · intro a W hl hd hz hold hall hbox
      obtain ⟨g7, cs7, k7, i7, r7, n7, b7⟩ := hbox
      have k2 : a.tmps[2]? = some (.int .i64 d) := hold 2 (free_of (by kernel_rfl))
      have k3 : a.tmps[3]? = some (.pointer (some ⟨w.heap.size, 0, none⟩)) := hold 3 (free_of (by kernel_rfl))
      have k4 : a.tmps[4]? = some (.pointer (some ⟨w.heap.size + 1, 0, none⟩)) := hold 4 (free_of (by kernel_rfl))
      have k6 : a.tmps[6]? = some (.bool false) := hold 6 (free_of (by kernel_rfl))
      obtain ⟨_, k8, rfl⟩ := hall 11 _ _ (by decide) (by decide) rfl rfl
      obtain ⟨_, k9, rfl⟩ := hall 12 _ _ (by decide) (by decide) rfl rfl
      have ha := act_eta a 109 [] hz hd
      rw [show (List.range 109).map (fun s => a.tmps.getD s undef) = [a.tmps.getD 0 undef, a.tmps.getD 1 undef, a.tmps.getD 2 undef, a.tmps.getD 3 undef, a.tmps.getD 4 undef, a.tmps.getD 5 undef, a.tmps.getD 6 undef, a.tmps.getD 7 undef, a.tmps.getD 8 undef, a.tmps.getD 9 undef, a.tmps.getD 10 undef, a.tmps.getD 11 undef, a.tmps.getD 12 undef, a.tmps.getD 13 undef, a.tmps.getD 14 undef, a.tmps.getD 15 undef, a.tmps.getD 16 undef, a.tmps.getD 17 undef, a.tmps.getD 18 undef, a.tmps.getD 19 undef, a.tmps.getD 20 undef, a.tmps.getD 21 undef, a.tmps.getD 22 undef, a.tmps.getD 23 undef, a.tmps.getD 24 undef, a.tmps.getD 25 undef, a.tmps.getD 26 undef, a.tmps.getD 27 undef, a.tmps.getD 28 undef, a.tmps.getD 29 undef, a.tmps.getD 30 undef, a.tmps.getD 31 undef, a.tmps.getD 32 undef, a.tmps.getD 33 undef, a.tmps.getD 34 undef, a.tmps.getD 35 undef, a.tmps.getD 36 undef, a.tmps.getD 37 undef, a.tmps.getD 38 undef, a.tmps.getD 39 undef, a.tmps.getD 40 undef, a.tmps.getD 41 undef, a.tmps.getD 42 undef, a.tmps.getD 43 undef, a.tmps.getD 44 undef, a.tmps.getD 45 undef, a.tmps.getD 46 undef, a.tmps.getD 47 undef, a.tmps.getD 48 undef, a.tmps.getD 49 undef, a.tmps.getD 50 undef, a.tmps.getD 51 undef, a.tmps.getD 52 undef, a.tmps.getD 53 undef, a.tmps.getD 54 undef, a.tmps.getD 55 undef, a.tmps.getD 56 undef, a.tmps.getD 57 undef, a.tmps.getD 58 undef, a.tmps.getD 59 undef, a.tmps.getD 60 undef, a.tmps.getD 61 undef, a.tmps.getD 62 undef, a.tmps.getD 63 undef, a.tmps.getD 64 undef, a.tmps.getD 65 undef, a.tmps.getD 66 undef, a.tmps.getD 67 undef, a.tmps.getD 68 undef, a.tmps.getD 69 undef, a.tmps.getD 70 undef, a.tmps.getD 71 undef, a.tmps.getD 72 undef, a.tmps.getD 73 undef, a.tmps.getD 74 undef, a.tmps.getD 75 undef, a.tmps.getD 76 undef, a.tmps.getD 77 undef, a.tmps.getD 78 undef, a.tmps.getD 79 undef, a.tmps.getD 80 undef, a.tmps.getD 81 undef, a.tmps.getD 82 undef, a.tmps.getD 83 undef, a.tmps.getD 84 undef, a.tmps.getD 85 undef, a.tmps.getD 86 undef, a.tmps.getD 87 undef, a.tmps.getD 88 undef, a.tmps.getD 89 undef, a.tmps.getD 90 undef, a.tmps.getD 91 undef, a.tmps.getD 92 undef, a.tmps.getD 93 undef, a.tmps.getD 94 undef, a.tmps.getD 95 undef, a.tmps.getD 96 undef, a.tmps.getD 97 undef, a.tmps.getD 98 undef, a.tmps.getD 99 undef, a.tmps.getD 100 undef, a.tmps.getD 101 undef, a.tmps.getD 102 undef, a.tmps.getD 103 undef, a.tmps.getD 104 undef, a.tmps.getD 105 undef, a.tmps.getD 106 undef, a.tmps.getD 107 undef, a.tmps.getD 108 undef] from rfl, getD_of k2, getD_of k3, getD_of k4, getD_of k6, getD_of k7, getD_of k8, getD_of k9] at ha
      try dsimp only at ha
      rw [ha]
      clear hall hold hz hd ha k2 k3 k4 k6 k7 k8 k9
      generalize a.tmps.getD 0 undef = x0
      generalize a.tmps.getD 1 undef = x1
      generalize a.tmps.getD 5 undef = x5
      generalize a.tmps.getD 10 undef = x10
      generalize a.tmps.getD 11 undef = x11
      generalize a.tmps.getD 12 undef = x12
      generalize a.tmps.getD 13 undef = x13
      generalize a.tmps.getD 14 undef = x14
      generalize a.tmps.getD 15 undef = x15
      generalize a.tmps.getD 16 undef = x16
      generalize a.tmps.getD 17 undef = x17
      generalize a.tmps.getD 18 undef = x18
      generalize a.tmps.getD 19 undef = x19
      generalize a.tmps.getD 20 undef = x20
      generalize a.tmps.getD 21 undef = x21
      generalize a.tmps.getD 22 undef = x22
      generalize a.tmps.getD 23 undef = x23
      generalize a.tmps.getD 24 undef = x24
      generalize a.tmps.getD 25 undef = x25
      generalize a.tmps.getD 26 undef = x26
      generalize a.tmps.getD 27 undef = x27
      generalize a.tmps.getD 28 undef = x28
      generalize a.tmps.getD 29 undef = x29
      generalize a.tmps.getD 30 undef = x30
      generalize a.tmps.getD 31 undef = x31
      generalize a.tmps.getD 32 undef = x32
      generalize a.tmps.getD 33 undef = x33
      generalize a.tmps.getD 34 undef = x34
      generalize a.tmps.getD 35 undef = x35
      generalize a.tmps.getD 36 undef = x36
      generalize a.tmps.getD 37 undef = x37
      generalize a.tmps.getD 38 undef = x38
      generalize a.tmps.getD 39 undef = x39
      generalize a.tmps.getD 40 undef = x40
      generalize a.tmps.getD 41 undef = x41
      generalize a.tmps.getD 42 undef = x42
      generalize a.tmps.getD 43 undef = x43
      generalize a.tmps.getD 44 undef = x44
      generalize a.tmps.getD 45 undef = x45
      generalize a.tmps.getD 46 undef = x46
      generalize a.tmps.getD 47 undef = x47
      generalize a.tmps.getD 48 undef = x48
      generalize a.tmps.getD 49 undef = x49
      generalize a.tmps.getD 50 undef = x50
      generalize a.tmps.getD 51 undef = x51
      generalize a.tmps.getD 52 undef = x52
      generalize a.tmps.getD 53 undef = x53
      generalize a.tmps.getD 54 undef = x54
      generalize a.tmps.getD 55 undef = x55
      generalize a.tmps.getD 56 undef = x56
      generalize a.tmps.getD 57 undef = x57
      generalize a.tmps.getD 58 undef = x58
      generalize a.tmps.getD 59 undef = x59
      generalize a.tmps.getD 60 undef = x60
      generalize a.tmps.getD 61 undef = x61
      generalize a.tmps.getD 62 undef = x62
      generalize a.tmps.getD 63 undef = x63
      generalize a.tmps.getD 64 undef = x64
      generalize a.tmps.getD 65 undef = x65
      generalize a.tmps.getD 66 undef = x66
      generalize a.tmps.getD 67 undef = x67
      generalize a.tmps.getD 68 undef = x68
      generalize a.tmps.getD 69 undef = x69
      generalize a.tmps.getD 70 undef = x70
      generalize a.tmps.getD 71 undef = x71
      generalize a.tmps.getD 72 undef = x72
      generalize a.tmps.getD 73 undef = x73
      generalize a.tmps.getD 74 undef = x74
      generalize a.tmps.getD 75 undef = x75
      generalize a.tmps.getD 76 undef = x76
      generalize a.tmps.getD 77 undef = x77
      generalize a.tmps.getD 78 undef = x78
      generalize a.tmps.getD 79 undef = x79
      generalize a.tmps.getD 80 undef = x80
      generalize a.tmps.getD 81 undef = x81
      generalize a.tmps.getD 82 undef = x82
      generalize a.tmps.getD 83 undef = x83
      generalize a.tmps.getD 84 undef = x84
      generalize a.tmps.getD 85 undef = x85
      generalize a.tmps.getD 86 undef = x86
      generalize a.tmps.getD 87 undef = x87
      generalize a.tmps.getD 88 undef = x88
      generalize a.tmps.getD 89 undef = x89
      generalize a.tmps.getD 90 undef = x90
      generalize a.tmps.getD 91 undef = x91
      generalize a.tmps.getD 92 undef = x92
      generalize a.tmps.getD 93 undef = x93
      generalize a.tmps.getD 94 undef = x94
      generalize a.tmps.getD 95 undef = x95
      generalize a.tmps.getD 96 undef = x96
      generalize a.tmps.getD 97 undef = x97
      generalize a.tmps.getD 98 undef = x98
      generalize a.tmps.getD 99 undef = x99
      generalize a.tmps.getD 100 undef = x100
      generalize a.tmps.getD 101 undef = x101
      generalize a.tmps.getD 102 undef = x102
      generalize a.tmps.getD 103 undef = x103
      generalize a.tmps.getD 104 undef = x104
      generalize a.tmps.getD 105 undef = x105
      generalize a.tmps.getD 106 undef = x106
      generalize a.tmps.getD 107 undef = x107
      generalize a.tmps.getD 108 undef = x108
      subst b7
      have HG3 := Lib.hid (gtrans HG1.out hl)
      have HL3 := Lib.hid (HL1.out.grown hl)
      have HA3 := Lib.hid (HA1.out.later hl)
      have HB3 := Lib.hid (HB1.out.later hl)
      have HR3 := Lib.hid r7
      clear r7 n7 hl
      rcases HQ.out with ⟨h, rfl, rfl, rfl, rfl, rfl⟩ | ⟨rfl, rfl, rfl, rfl, rfl, rfl⟩ | ⟨rfl, hk, rfl, rfl, rfl, f0, f1, f2, f3, f4⟩ | ⟨rfl, hk, rfl, rfl, rfl, rfl, f0, f1, f2, f3, m0, m1⟩
      · have t0 : (E0 != 0) = true := by simpa using h
        clear h
        go_wp2_with fail
        refine (A.out _ HL3.out).mono ?_
        rintro e w4 ⟨rfl, hg4⟩
        have HG4 := Lib.hid (gtrans HG3.out hg4)
        have R4 := HR3.out.later hg4
        have r0 := R4.cell 0 _ rfl
        have r1 := R4.cell 1 _ rfl
        have r2 := R4.cell 2 _ rfl
        have r3 := R4.cell 3 _ rfl
        have heq := run_eql 0 0 0 0
        clear hg4
        go_wp2_with fail
        go_ret
        exact ⟨rfl, HG4.out⟩
      · go_wp2_with fail
        refine (A.out _ HL3.out).mono ?_
        rintro e w4 ⟨rfl, hg4⟩
        have HG4 := Lib.hid (gtrans HG3.out hg4)
        have R4 := HR3.out.later hg4
        have r0 := R4.cell 0 _ rfl
        have r1 := R4.cell 1 _ rfl
        have r2 := R4.cell 2 _ rfl
        have r3 := R4.cell 3 _ rfl
        have heq := run_eql 0 0 0 0
        clear hg4
        go_wp2_with fail
        go_ret
        exact ⟨rfl, HG4.out⟩
      · have t0 : decide (F ≥ T) = false := by simp; omega
        have t1 : (x.k == 4) = true := by simpa using hk
        have t2 : decide (T - F > 1000) = true := by simp; omega
        have t3 : decide (T - F < 7200) = true := by simp; omega
        have r0 := HR3.out.cell 0 _ rfl
        have r1 := HR3.out.cell 1 _ rfl
        have r2 := HR3.out.cell 2 _ rfl
        have r3 := HR3.out.cell 3 _ rfl
        have q0 := HB3.out 0 _ rfl
        have q1 := HB3.out 1 _ rfl
        have q2 := HB3.out 2 _ rfl
        clear hk f0
        go_wp2_with fail
        clear r0 r1 r2 r3 q0 q1 q2
        refine (A.out _ HL3.out).mono ?_
        rintro e w4 ⟨rfl, hg4⟩
        have HG4 := Lib.hid (gtrans HG3.out hg4)
        have R4 := HR3.out.later hg4
        have r0 := R4.cell 0 _ rfl
        have r1 := R4.cell 1 _ rfl
        have r2 := R4.cell 2 _ rfl
        have r3 := R4.cell 3 _ rfl
        clear hg4
        go_wp2_with fail
        go_ret
        exact ⟨rfl, HG4.out⟩
      · rw [m0, m1] at KM
        have t0 : decide (F ≥ F + x.l) = false := by simp; omega
        have t1 : (x.k == 4) = false := by simpa using hk
        have r0 := HR3.out.cell 0 _ rfl
        have r1 := HR3.out.cell 1 _ rfl
        have r2 := HR3.out.cell 2 _ rfl
        have r3 := HR3.out.cell 3 _ rfl
        have q0 := HB3.out 0 _ rfl
        have q1 := HB3.out 1 _ rfl
        have q2 := HB3.out 2 _ rfl
        have q5 := HB3.out 5 _ rfl
        have HZ3 := Lib.hid (HZn.out _ _ HA3.out)
        clear hk m0 m1
        go_wp2_with (refine Conf.load_zn c.z rfl (.tmp 81) rfl w.heap.size 13 rfl HZ3.out ?_)
        clear r0 r1 r2 r3 q0 q1 q2 q5
        refine (KM.out _ HL3.out).mono ?_
        rintro e w4 ⟨rfl, hg4⟩
        have HG4 := Lib.hid (gtrans HG3.out hg4)
        have HL4 := Lib.hid (HL3.out.grown hg4)
        have HB4 := Lib.hid (HB3.out.later hg4)
        have HR4 := Lib.hid (HR3.out.later hg4)
        clear hg4
        go_wp2_with fail
        refine (A.out _ HL4.out).mono ?_
        rintro e w5 ⟨rfl, hg5⟩
        have HG5 := Lib.hid (gtrans HG4.out hg5)
        have R5 := HR4.out.later hg5
        have r0 := R5.cell 0 _ rfl
        have r1 := R5.cell 1 _ rfl
        have q6 := HB4.out.later hg5 6 _ rfl
        clear hg5
        go_wp2_with fail
        go_ret
        exact ⟨rfl, HG5.out⟩

end Go.Proofs.YtmlnlkfdbbnkbaaGreatDoor.Window

/- About days of rest a window is open at noon of each of them, and not at noon of the day ahead, nor an hour into the one behind: the walk. Condition: the table of months lies where the program lays it. -/
namespace Go.Proofs.YtmlnlkfdbbnkbaaGreatDoor.Window
set_option maxRecDepth 100000
open Go.ChangeShapes Go.WideShapes Go.ChangeAt Go.RowKit
open Go.Proofs.YtmlnlkfdbbnkbaaGreatDoor.Divs Go.Proofs.YtmlnlkfdbbnkbaaGreatDoor.Grow
open Go.Proofs.YtmlnlkfdbbnkbaaGreatDoor.Greg (Laid)
open Go.Proofs.YtmlnlkfdbbnkbaaGreatDoor.Zo Go.Proofs.YtmlnlkfdbbnkbaaGreatDoor.Zone Go.Proofs.YtmlnlkfdbbnkbaaGreatDoor.Win
open Go.Proofs.YtmlnlkfdbbnkbaaGreatDoor.Cf (Cg Wn ce wo)
open Go.Proofs.YtmlnlkfdbbnkbaaGreatDoor.Conf (wc cc Is)
open Go.Proofs.YtmlnlkfdbbnkbaaGreatDoor.Fe (kd rst)
open Go.Proofs.YtmlnlkfdbbnkbaaGreatDoor.Su (mV mE sk sa)

set_option linter.unusedVariables false
open Go.Proofs.YtmlnlkfdbbnkbaaGreatDoor.Eachn
open Go.Proofs.YtmlnlkfdbbnkbaaGreatDoor.Conf (At load_at few_of own_of)
open Go.Proofs.YtmlnlkfdbbnkbaaGreatDoor.Feast (Row row_ex run_yes run_no)

/-- A window, made one about days of rest. -/
def w4 (x : Wn) : Wn := ⟨4, x.m, x.p, x.a, x.h, x.u, x.l⟩

/-- The ways of a window about days of rest. -/
def RWays (c : Cg) (d F T : Int) (B : Bool) (E : Int) : Prop :=
  (E ≠ 0 ∧ B = false) ∨ (E = 0 ∧ B = false ∧ (402 ≤ d ∧ d ≤ 3651990) ∧ rst c.ab (d + 1) = false) ∨
  (E = 0 ∧ B = false ∧ (402 ≤ d ∧ d ≤ 3651990) ∧ ∃ a b, Row c.ab (d + 1) a b ∧ a ≤ d) ∨
  (E = 0 ∧ B = true ∧ (402 ≤ d ∧ d ≤ 3651990) ∧ (-720 ≤ c.z.b ∧ c.z.b ≤ 840) ∧ ∃ b, Row c.ab (d + 1) (d + 1) b ∧ d + 1 ≤ b ∧ b ≤ d + 3 ∧ d * 1440 + 720 - c.z.b ≤ F ∧ F ≤ d * 1440 + 1320 - c.z.b ∧ b * 1440 + 900 - c.z.b ≤ T ∧ T ≤ b * 1440 + 1500 - c.z.b)

theorem rways (c : Cg) (y : Wn) (hk : y.k = 4) (d : Int) : RWays c d (pF c y d) (pT c y d) (pB c y d) (pE c y d) := by
  unfold RWays
  cases hb : pB c y d
  · by_cases h : pE c y d = 0
    · obtain ⟨a, b, d0, d1⟩ := (pE_ok c y d).1 h
      have hn : beg c y d = false := by
        cases hq : beg c y d
        · rfl
        · rw [(pB_iff c y d).2 ⟨h, hq⟩] at hb
          cases hb
      rw [beg_rest c y d hk] at hn
      cases h1 : rst c.ab (d + 1)
      · exact .inr (.inl ⟨h, rfl, ⟨d0, d1⟩, rfl⟩)
      · rw [h1] at hn
        have h0 : rst c.ab d = true := by simpa using hn
        obtain ⟨a, b, hr⟩ := row_ex c.ab (d + 1) h1
        refine .inr (.inr (.inl ⟨h, rfl, ⟨d0, d1⟩, a, b, hr, ?_⟩))
        by_cases ha : a ≤ d
        · exact ha
        · exfalso
          have h1 := hr.1
          have h4 := hr.2.2.2.1
          rw [show a - 1 = d by omega, h0] at h4
          cases h4
    · exact .inl ⟨h, rfl⟩
  · have h := ((pB_iff c y d).1 hb).1
    have z1 : pF c y d = fr c y d := by unfold pF; rw [hb]; simp
    have z2 : pT c y d = tt c y d := by unfold pT; rw [hb]; simp
    obtain ⟨a, b, d0, d1⟩ := (pE_ok c y d).1 h
    obtain ⟨hz, hs⟩ := ce_parts c a
    unfold May at hz
    obtain ⟨q, hr, _, q0, q1, _, _, s, e, s0, s1, e0, e1, u0, u1, l0, l1, f, t⟩ := rest_span c y d hb hk
    exact .inr (.inr (.inr ⟨h, rfl, ⟨d0, d1⟩, ⟨hz.1, hz.2.1⟩, q, hr, q0, q1, by omega, by omega, by omega, by omega⟩))

def RV (D : Array Value) (c : Cg) (y : Wn) (d F T M P : Int) (B : Bool) (E0 : Int) : Nat → Value → World → Prop
  | 0, v, _ => v = .agg D
  | 1, v, W => ∃ E B, v = .agg E ∧ Conf.Own W B E c
  | 2, v, _ => v = .agg (wc y).toArray
  | 3, v, _ => v = .int .i64 d
  | 4, v, _ => v = .tuple #[.agg #[.int .i64 F, .int .i64 T, .int .i64 M, .int .i64 P], .bool B, .int .i64 E0]
  | 5, v, _ => v = .tuple #[.agg #[.int .i64 F, .int .i64 T, .int .i64 M, .int .i64 P], .bool B, .int .i64 E0]
  | 6, v, _ => v = .agg #[.int .i64 F, .int .i64 T, .int .i64 M, .int .i64 P]
  | 7, v, _ => v = .bool B
  | 8, v, _ => v = .int .i64 E0
  | 11, v, _ => v = .bool B
  | 12, v, _ => v = .int .i64 E0
  | _, _, _ => True

theorem RV.later (D : Array Value) (c : Cg) (y : Wn) (d F T M P : Int) (B : Bool) (E0 : Int) (i : Nat) (v : Value) (W W' : World) (h : RV D c y d F T M P B E0 i v W) (g : Later W W') : RV D c y d F T M P B E0 i v W' := by
  unfold RV at *
  split at h <;> try exact h
  · exact (let ⟨E, b, e, k⟩ := h; ⟨E, b, e, k.later g⟩)
theorem RV.out (D : Array Value) (c : Cg) (y : Wn) (d F T M P : Int) (B : Bool) (E0 : Int) (i : Nat) (v : Value) (W W' : World) (g : Nat) (cs : Array Value) (h : RV D c y d F T M P B E0 i v W) (r : RA W g cs 39) (n : Nb cs) (o : Out g W W') : RV D c y d F T M P B E0 i v W' := by
  unfold RV at *
  split at h <;> try exact h
  · exact (let ⟨E, b, e, k⟩ := h; ⟨E, b, e, own_out k r o⟩)

set_option maxHeartbeats 2000000 in
theorem rests_core (w : World) (hL : Laid w) (D : Array Value) (c : Cg) (hc : Is w D c) (x : Wn) (d : Int) (_ : -9223372036854775808 ≤ d ∧ d ≤ 9223372036854775807) : Calls Tryz.prog 7 #[.agg D, .agg (wc x).toArray, .int .i64 d] w fun e w' => e = .returned (.bool true) ∧ Later w w' := by
  have A := Lib.hid (fun W (hW : Laid W) => awake_any W hW)
  have KF := Lib.hid (fun W (g : Later w W) => few_of (hc.later g))
  have KO := Lib.hid (fun W (g : Later w W) hf => own_of (hc.later g) hf)
  have KS := Lib.hid (fun W (hW : Laid W) E (h : Is W E c) => span_any E c (w4 x) d W hW h)
  unfold sc4 at KS
  have HZ := Lib.hid hc.size
  have HC := Lib.hid (is_cells hc)
  have HQ := Lib.hid (rways c (w4 x) rfl d)
  have HLw := Lib.hid hL
  have HG0 := Lib.hid (((Later.refl w).alloc D 33).alloc (wc x).toArray 35)
  have HL0 := Lib.hid (hL.grown HG0.out)
  have HA0 := Lib.hid ((At.new w D 33).put (.cells (wc x).toArray 35))
  have HB0 := Lib.hid (RA.new (w.alloc (.cells D 33)) (wc x).toArray 35)
  have HD0 := Lib.hid ((RA.new w D 33).later ((Later.refl _).put (.cells (wc x).toArray 35)))
  simp only [World.size_alloc] at HB0
  clear hL hc
  obtain ⟨y, hy⟩ : ∃ y, y = w4 x := ⟨_, rfl⟩
  rw [← hy] at KS HQ
  have HY := Lib.hid hy
  clear hy
  generalize pF c y d = F at *
  generalize pT c y d = T at *
  generalize pM c y d = M at *
  generalize pP c y d = P at *
  generalize pB c y d = B at *
  generalize pE c y d = E0 at *
  unfold wc at HG0 HL0 HA0 HB0 HD0 ⊢
  go_enter Tryz.func7, Tryz.ntmps7
  go_wp2_with (refine load_at D HZ.out rfl (.tmp 3) rfl w.heap.size rfl HA0.out ?_)
  refine (KF.out _ HG0.out).mono ?_
  rintro e w1 ⟨rfl, hg1⟩
  have HG1 := Lib.hid (gtrans HG0.out hg1)
  have HL1 := Lib.hid (HL0.out.grown hg1)
  have HB1 := Lib.hid (HB0.out.later hg1)
  have HD1 := Lib.hid (HD0.out.later hg1)
  clear hg1
  cases e1 : Conf.fw c with
  | false =>
    go_wp2_with fail
    refine (A.out _ HL1.out).mono ?_
    rintro e w2 ⟨rfl, hg2⟩
    have HG2 := Lib.hid (gtrans HG1.out hg2)
    clear hg2
    go_wp2_with fail
    go_ret
    exact ⟨rfl, HG2.out⟩
  | true =>
    have KO' := Lib.hid (fun W (g : Later w W) => KO.out W g e1)
    have q0 := HB1.out.cell 0 _ rfl
    have f0 := HB1.out.froz 0
    go_wp2_with fail
    clear q0 f0
    have HG2' : Hid (Later w (w1.setCell ⟨w.heap.size + 1, 0, none⟩ (.int .i64 4))) := Lib.hid (HG1.out.setCell (by simp) _)
    have HB2' : Hid (At (w1.setCell ⟨w.heap.size + 1, 0, none⟩ (.int .i64 4)) (w.heap.size + 1) (wc y).toArray) := Lib.hid (fun i v hv => by rw [HY.out] at hv; exact (HB1.out.set 0 (.int .i64 4)).cell i v hv)
    have HA2' : Hid (At (w1.setCell ⟨w.heap.size + 1, 0, none⟩ (.int .i64 4)) w.heap.size D) := Lib.hid (fun i v hv => RA.cell (t := 33) (cs := D) (by have := HD1.out; unfold RA at *; rw [Conf.heap_set_other _ _ _ _ _ (by omega)]; exact this) i v hv)
    generalize w1.setCell ⟨w.heap.size + 1, 0, none⟩ (.int .i64 4) = w2 at *
    have HG2 := Lib.hid HG2'.out
    have HB2 := Lib.hid HB2'.out
    have HA2 := Lib.hid HA2'.out
    have HL2 := Lib.hid (HLw.out.grown HG2.out)
    clear HG2' HB2' HA2' HB1 HD1 HL1 HG1
    refine region_box 9 10 7 #[.int .i64 0, .int .i64 0, .int .i64 0, .int .i64 0] 39 (fun cs _ => cs = #[.int .i64 F, .int .i64 T, .int .i64 M, .int .i64 P]) (RV D c y d F T M P B E0) (by kernel_rfl) (by kernel_rfl) (by decide) (by kernel_rfl) (RV.later D c y d F T M P B E0) (RV.out D c y d F T M P B E0) (fun cs W W' h _ => h) trivial ?_ ?_ ?_ ?_ ⟨by decide, by decide⟩
    · intro i hi him his
      match i with
      | 0 =>
        intro o ho
        simp only [List.getElem?_toArray, List.getElem?_cons_zero, Option.some.injEq] at ho
        subst ho
        intro a W hl hold hdep
        refine ite_yes rfl ?_
        have h3 : a.tmps[3]? = some (.pointer (some ⟨w.heap.size, 0, none⟩)) := hold 3 (free_of (by kernel_rfl))
        clear hold hdep
        exact Conf.wp_load_cfg D HZ.out W w.heap.size (HA2.out.later hl) (.tmp 3) rfl (ev h3) ⟨_, rfl, rfl, Later.refl _⟩
      | 1 =>
        intro o ho
        simp only [List.getElem?_toArray, List.getElem?_cons_zero, List.getElem?_cons_succ, Option.some.injEq] at ho
        subst ho
        intro a W hl hold hdep
        refine ite_yes rfl ?_
        obtain ⟨_, h21, rfl⟩ := hdep 0 (by decide) (by decide) (by decide) _ _ rfl rfl
        clear hold hdep
        unfold Oper.wp
        go_simp
        refine (KO'.out _ (gtrans HG2.out hl)).mono ?_
        rintro e w1 ⟨E, rfl, ho, hg1⟩
        exact ⟨_, rfl, ⟨E, _, rfl, ho⟩, hg1⟩
      | 2 =>
        intro o ho
        simp only [List.getElem?_toArray, List.getElem?_cons_zero, List.getElem?_cons_succ, Option.some.injEq] at ho
        subst ho
        intro a W hl hold hdep
        refine ite_yes rfl ?_
        have h4 : a.tmps[4]? = some (.pointer (some ⟨w.heap.size + 1, 0, none⟩)) := hold 4 (free_of (by kernel_rfl))
        clear hold hdep
        exact wp_load_mid (P := Tryz.prog) 35 (.tmp 4) rfl (w.heap.size + 1) 0 (ev h4) (wc y) _ (fun j y0 hy => by rw [Nat.zero_add]; exact (HB2.out.later hl) j y0 (by simpa [wc] using hy)) Tryz.underlying35 rfl (by kernel_rfl) ⟨_, rfl, rfl, Later.refl _⟩
      | 3 =>
        intro o ho
        simp only [List.getElem?_toArray, List.getElem?_cons_zero, List.getElem?_cons_succ, Option.some.injEq] at ho
        subst ho
        intro a W hl hold hdep
        refine ite_yes rfl ?_
        have h2 : a.tmps[2]? = some (.int .i64 d) := hold 2 (free_of (by kernel_rfl))
        clear hold hdep
        unfold Oper.wp
        go_simp
        exact ⟨_, rfl, rfl, Later.refl _⟩
      | 4 =>
        intro o ho
        simp only [List.getElem?_toArray, List.getElem?_cons_zero, List.getElem?_cons_succ, Option.some.injEq] at ho
        subst ho
        intro a W hl hold hdep
        refine ite_yes rfl ?_
        obtain ⟨_, h22, ⟨E, B0, rfl, hE⟩⟩ := hdep 1 (by decide) (by decide) (by decide) _ _ rfl rfl
        obtain ⟨_, h23, rfl⟩ := hdep 2 (by decide) (by decide) (by decide) _ _ rfl rfl
        obtain ⟨_, h24, rfl⟩ := hdep 3 (by decide) (by decide) (by decide) _ _ rfl rfl
        clear hold hdep
        unfold Oper.wp
        go_simp
        refine (KS.out _ (HL2.out.grown hl) _ hE.is).mono ?_
        rintro e w1 ⟨rfl, hg1⟩
        exact ⟨_, rfl, rfl, hg1⟩
      | 5 =>
        intro o ho
        simp only [List.getElem?_toArray, List.getElem?_cons_zero, List.getElem?_cons_succ, Option.some.injEq] at ho
        subst ho
        intro a W hl hold hdep
        refine ite_yes rfl ?_
        obtain ⟨_, h25, rfl⟩ := hdep 4 (by decide) (by decide) (by decide) _ _ rfl rfl
        clear hold hdep
        unfold Oper.wp
        go_simp
        exact ⟨_, rfl, rfl, Later.refl _⟩
      | 6 =>
        intro o ho
        simp only [List.getElem?_toArray, List.getElem?_cons_zero, List.getElem?_cons_succ, Option.some.injEq] at ho
        subst ho
        intro a W hl hold hdep
        refine ite_yes rfl ?_
        obtain ⟨_, h20, rfl⟩ := hdep 5 (by decide) (by decide) (by decide) _ _ rfl rfl
        clear hold hdep
        unfold Oper.wp
        go_simp
        exact ⟨_, rfl, rfl, Later.refl _⟩
      | 7 =>
        intro o ho
        simp only [List.getElem?_toArray, List.getElem?_cons_zero, List.getElem?_cons_succ, Option.some.injEq] at ho
        subst ho
        intro a W hl hold hdep
        refine ite_yes rfl ?_
        obtain ⟨_, h20, rfl⟩ := hdep 5 (by decide) (by decide) (by decide) _ _ rfl rfl
        clear hold hdep
        unfold Oper.wp
        go_simp
        exact ⟨_, rfl, rfl, Later.refl _⟩
      | 8 =>
        intro o ho
        simp only [List.getElem?_toArray, List.getElem?_cons_zero, List.getElem?_cons_succ, Option.some.injEq] at ho
        subst ho
        intro a W hl hold hdep
        refine ite_yes rfl ?_
        obtain ⟨_, h20, rfl⟩ := hdep 5 (by decide) (by decide) (by decide) _ _ rfl rfl
        clear hold hdep
        unfold Oper.wp
        go_simp
        exact ⟨_, rfl, rfl, Later.refl _⟩
      | 9 => exact absurd rfl him
      | 10 => exact absurd rfl his
      | 11 =>
        intro o ho
        simp only [List.getElem?_toArray, List.getElem?_cons_zero, List.getElem?_cons_succ, Option.some.injEq] at ho
        subst ho
        intro a W hl hold hdep
        refine ite_yes rfl ?_
        obtain ⟨_, h27, rfl⟩ := hdep 7 (by decide) (by decide) (by decide) _ _ rfl rfl
        clear hold hdep
        unfold Oper.wp
        go_simp
        exact ⟨_, rfl, rfl, Later.refl _⟩
      | 12 =>
        intro o ho
        simp only [List.getElem?_toArray, List.getElem?_cons_zero, List.getElem?_cons_succ, Option.some.injEq] at ho
        subst ho
        intro a W hl hold hdep
        refine ite_yes rfl ?_
        obtain ⟨_, h28, rfl⟩ := hdep 8 (by decide) (by decide) (by decide) _ _ rfl rfl
        clear hold hdep
        unfold Oper.wp
        go_simp
        exact ⟨_, rfl, rfl, Later.refl _⟩
      | k + 13 => exact absurd hi (by simp)
    · intro o ho
      simp only [List.getElem?_toArray, List.getElem?_cons_zero, List.getElem?_cons_succ, Option.some.injEq] at ho
      subst ho
      refine ⟨rfl, rfl, fun a W hl => ?_⟩
      unfold Oper.wp
      go_simp
      exact ⟨_, rfl, hl.size, RA.new _ _ _, (Later.refl _).put _⟩
    · intro o ho
      simp only [List.getElem?_toArray, List.getElem?_cons_zero, List.getElem?_cons_succ, Option.some.injEq] at ho
      subst ho
      refine ⟨rfl, rfl, fun a W g hl hd hg hr hdep => ?_⟩
      obtain ⟨_, h26, rfl⟩ := hdep 6 (by decide) (by decide) (by decide) _ _ rfl rfl
      have c0 := hr.cell 0 _ rfl
      have c1 := hr.cell 1 _ rfl
      have c2 := hr.cell 2 _ rfl
      have c3 := hr.cell 3 _ rfl
      have f0 := hr.froz 0
      have f1 := hr.froz 1
      have f2 := hr.froz 2
      have f3 := hr.froz 3
      clear hdep
      unfold Oper.wp
      go_simp
      exact ⟨later_set4 hl hg _ _ _ _, out4 _ _ _ _ _ _, hr.set4 _ _ _ _, trivial⟩
    · intro a W hl hd hz hold hall hbox
      obtain ⟨g7, cs7, k7, i7, r7, n7, b7⟩ := hbox
      have k2 : a.tmps[2]? = some (.int .i64 d) := hold 2 (free_of (by kernel_rfl))
      have k3 : a.tmps[3]? = some (.pointer (some ⟨w.heap.size, 0, none⟩)) := hold 3 (free_of (by kernel_rfl))
      have k4 : a.tmps[4]? = some (.pointer (some ⟨w.heap.size + 1, 0, none⟩)) := hold 4 (free_of (by kernel_rfl))
      have k6 : a.tmps[6]? = some (.bool false) := hold 6 (free_of (by kernel_rfl))
      obtain ⟨_, k8, rfl⟩ := hall 11 _ _ (by decide) (by decide) rfl rfl
      obtain ⟨_, k9, rfl⟩ := hall 12 _ _ (by decide) (by decide) rfl rfl
      have ha := act_eta a 125 [] hz hd
      rw [show (List.range 125).map (fun s => a.tmps.getD s undef) = [a.tmps.getD 0 undef, a.tmps.getD 1 undef, a.tmps.getD 2 undef, a.tmps.getD 3 undef, a.tmps.getD 4 undef, a.tmps.getD 5 undef, a.tmps.getD 6 undef, a.tmps.getD 7 undef, a.tmps.getD 8 undef, a.tmps.getD 9 undef, a.tmps.getD 10 undef, a.tmps.getD 11 undef, a.tmps.getD 12 undef, a.tmps.getD 13 undef, a.tmps.getD 14 undef, a.tmps.getD 15 undef, a.tmps.getD 16 undef, a.tmps.getD 17 undef, a.tmps.getD 18 undef, a.tmps.getD 19 undef, a.tmps.getD 20 undef, a.tmps.getD 21 undef, a.tmps.getD 22 undef, a.tmps.getD 23 undef, a.tmps.getD 24 undef, a.tmps.getD 25 undef, a.tmps.getD 26 undef, a.tmps.getD 27 undef, a.tmps.getD 28 undef, a.tmps.getD 29 undef, a.tmps.getD 30 undef, a.tmps.getD 31 undef, a.tmps.getD 32 undef, a.tmps.getD 33 undef, a.tmps.getD 34 undef, a.tmps.getD 35 undef, a.tmps.getD 36 undef, a.tmps.getD 37 undef, a.tmps.getD 38 undef, a.tmps.getD 39 undef, a.tmps.getD 40 undef, a.tmps.getD 41 undef, a.tmps.getD 42 undef, a.tmps.getD 43 undef, a.tmps.getD 44 undef, a.tmps.getD 45 undef, a.tmps.getD 46 undef, a.tmps.getD 47 undef, a.tmps.getD 48 undef, a.tmps.getD 49 undef, a.tmps.getD 50 undef, a.tmps.getD 51 undef, a.tmps.getD 52 undef, a.tmps.getD 53 undef, a.tmps.getD 54 undef, a.tmps.getD 55 undef, a.tmps.getD 56 undef, a.tmps.getD 57 undef, a.tmps.getD 58 undef, a.tmps.getD 59 undef, a.tmps.getD 60 undef, a.tmps.getD 61 undef, a.tmps.getD 62 undef, a.tmps.getD 63 undef, a.tmps.getD 64 undef, a.tmps.getD 65 undef, a.tmps.getD 66 undef, a.tmps.getD 67 undef, a.tmps.getD 68 undef, a.tmps.getD 69 undef, a.tmps.getD 70 undef, a.tmps.getD 71 undef, a.tmps.getD 72 undef, a.tmps.getD 73 undef, a.tmps.getD 74 undef, a.tmps.getD 75 undef, a.tmps.getD 76 undef, a.tmps.getD 77 undef, a.tmps.getD 78 undef, a.tmps.getD 79 undef, a.tmps.getD 80 undef, a.tmps.getD 81 undef, a.tmps.getD 82 undef, a.tmps.getD 83 undef, a.tmps.getD 84 undef, a.tmps.getD 85 undef, a.tmps.getD 86 undef, a.tmps.getD 87 undef, a.tmps.getD 88 undef, a.tmps.getD 89 undef, a.tmps.getD 90 undef, a.tmps.getD 91 undef, a.tmps.getD 92 undef, a.tmps.getD 93 undef, a.tmps.getD 94 undef, a.tmps.getD 95 undef, a.tmps.getD 96 undef, a.tmps.getD 97 undef, a.tmps.getD 98 undef, a.tmps.getD 99 undef, a.tmps.getD 100 undef, a.tmps.getD 101 undef, a.tmps.getD 102 undef, a.tmps.getD 103 undef, a.tmps.getD 104 undef, a.tmps.getD 105 undef, a.tmps.getD 106 undef, a.tmps.getD 107 undef, a.tmps.getD 108 undef, a.tmps.getD 109 undef, a.tmps.getD 110 undef, a.tmps.getD 111 undef, a.tmps.getD 112 undef, a.tmps.getD 113 undef, a.tmps.getD 114 undef, a.tmps.getD 115 undef, a.tmps.getD 116 undef, a.tmps.getD 117 undef, a.tmps.getD 118 undef, a.tmps.getD 119 undef, a.tmps.getD 120 undef, a.tmps.getD 121 undef, a.tmps.getD 122 undef, a.tmps.getD 123 undef, a.tmps.getD 124 undef] from rfl, getD_of k2, getD_of k3, getD_of k4, getD_of k6, getD_of k7, getD_of k8, getD_of k9] at ha
      try dsimp only at ha
      rw [ha]
      clear hall hold hz hd ha k2 k3 k4 k6 k7 k8 k9
      generalize a.tmps.getD 0 undef = x0
      generalize a.tmps.getD 1 undef = x1
      generalize a.tmps.getD 5 undef = x5
      generalize a.tmps.getD 10 undef = x10
      generalize a.tmps.getD 11 undef = x11
      generalize a.tmps.getD 12 undef = x12
      generalize a.tmps.getD 13 undef = x13
      generalize a.tmps.getD 14 undef = x14
      generalize a.tmps.getD 15 undef = x15
      generalize a.tmps.getD 16 undef = x16
      generalize a.tmps.getD 17 undef = x17
      generalize a.tmps.getD 18 undef = x18
      generalize a.tmps.getD 19 undef = x19
      generalize a.tmps.getD 20 undef = x20
      generalize a.tmps.getD 21 undef = x21
      generalize a.tmps.getD 22 undef = x22
      generalize a.tmps.getD 23 undef = x23
      generalize a.tmps.getD 24 undef = x24
      generalize a.tmps.getD 25 undef = x25
      generalize a.tmps.getD 26 undef = x26
      generalize a.tmps.getD 27 undef = x27
      generalize a.tmps.getD 28 undef = x28
      generalize a.tmps.getD 29 undef = x29
      generalize a.tmps.getD 30 undef = x30
      generalize a.tmps.getD 31 undef = x31
      generalize a.tmps.getD 32 undef = x32
      generalize a.tmps.getD 33 undef = x33
      generalize a.tmps.getD 34 undef = x34
      generalize a.tmps.getD 35 undef = x35
      generalize a.tmps.getD 36 undef = x36
      generalize a.tmps.getD 37 undef = x37
      generalize a.tmps.getD 38 undef = x38
      generalize a.tmps.getD 39 undef = x39
      generalize a.tmps.getD 40 undef = x40
      generalize a.tmps.getD 41 undef = x41
      generalize a.tmps.getD 42 undef = x42
      generalize a.tmps.getD 43 undef = x43
      generalize a.tmps.getD 44 undef = x44
      generalize a.tmps.getD 45 undef = x45
      generalize a.tmps.getD 46 undef = x46
      generalize a.tmps.getD 47 undef = x47
      generalize a.tmps.getD 48 undef = x48
      generalize a.tmps.getD 49 undef = x49
      generalize a.tmps.getD 50 undef = x50
      generalize a.tmps.getD 51 undef = x51
      generalize a.tmps.getD 52 undef = x52
      generalize a.tmps.getD 53 undef = x53
      generalize a.tmps.getD 54 undef = x54
      generalize a.tmps.getD 55 undef = x55
      generalize a.tmps.getD 56 undef = x56
      generalize a.tmps.getD 57 undef = x57
      generalize a.tmps.getD 58 undef = x58
      generalize a.tmps.getD 59 undef = x59
      generalize a.tmps.getD 60 undef = x60
      generalize a.tmps.getD 61 undef = x61
      generalize a.tmps.getD 62 undef = x62
      generalize a.tmps.getD 63 undef = x63
      generalize a.tmps.getD 64 undef = x64
      generalize a.tmps.getD 65 undef = x65
      generalize a.tmps.getD 66 undef = x66
      generalize a.tmps.getD 67 undef = x67
      generalize a.tmps.getD 68 undef = x68
      generalize a.tmps.getD 69 undef = x69
      generalize a.tmps.getD 70 undef = x70
      generalize a.tmps.getD 71 undef = x71
      generalize a.tmps.getD 72 undef = x72
      generalize a.tmps.getD 73 undef = x73
      generalize a.tmps.getD 74 undef = x74
      generalize a.tmps.getD 75 undef = x75
      generalize a.tmps.getD 76 undef = x76
      generalize a.tmps.getD 77 undef = x77
      generalize a.tmps.getD 78 undef = x78
      generalize a.tmps.getD 79 undef = x79
      generalize a.tmps.getD 80 undef = x80
      generalize a.tmps.getD 81 undef = x81
      generalize a.tmps.getD 82 undef = x82
      generalize a.tmps.getD 83 undef = x83
      generalize a.tmps.getD 84 undef = x84
      generalize a.tmps.getD 85 undef = x85
      generalize a.tmps.getD 86 undef = x86
      generalize a.tmps.getD 87 undef = x87
      generalize a.tmps.getD 88 undef = x88
      generalize a.tmps.getD 89 undef = x89
      generalize a.tmps.getD 90 undef = x90
      generalize a.tmps.getD 91 undef = x91
      generalize a.tmps.getD 92 undef = x92
      generalize a.tmps.getD 93 undef = x93
      generalize a.tmps.getD 94 undef = x94
      generalize a.tmps.getD 95 undef = x95
      generalize a.tmps.getD 96 undef = x96
      generalize a.tmps.getD 97 undef = x97
      generalize a.tmps.getD 98 undef = x98
      generalize a.tmps.getD 99 undef = x99
      generalize a.tmps.getD 100 undef = x100
      generalize a.tmps.getD 101 undef = x101
      generalize a.tmps.getD 102 undef = x102
      generalize a.tmps.getD 103 undef = x103
      generalize a.tmps.getD 104 undef = x104
      generalize a.tmps.getD 105 undef = x105
      generalize a.tmps.getD 106 undef = x106
      generalize a.tmps.getD 107 undef = x107
      generalize a.tmps.getD 108 undef = x108
      generalize a.tmps.getD 109 undef = x109
      generalize a.tmps.getD 110 undef = x110
      generalize a.tmps.getD 111 undef = x111
      generalize a.tmps.getD 112 undef = x112
      generalize a.tmps.getD 113 undef = x113
      generalize a.tmps.getD 114 undef = x114
      generalize a.tmps.getD 115 undef = x115
      generalize a.tmps.getD 116 undef = x116
      generalize a.tmps.getD 117 undef = x117
      generalize a.tmps.getD 118 undef = x118
      generalize a.tmps.getD 119 undef = x119
      generalize a.tmps.getD 120 undef = x120
      generalize a.tmps.getD 121 undef = x121
      generalize a.tmps.getD 122 undef = x122
      generalize a.tmps.getD 123 undef = x123
      generalize a.tmps.getD 124 undef = x124
      subst b7
      have HG3 := Lib.hid (gtrans HG2.out hl)
      have HL3 := Lib.hid (HL2.out.grown hl)
      have HA3 := Lib.hid (HA2.out.later hl)
      have HR3 := Lib.hid r7
      clear r7 n7 hl
      obtain ⟨hc13, hc35⟩ := HC.out
      have HC13 := Lib.hid hc13
      have HC35 := Lib.hid hc35
      clear hc13 hc35
      rcases HQ.out with ⟨h, rfl⟩ | ⟨rfl, rfl, ⟨d0, d1⟩, h⟩ | ⟨rfl, rfl, ⟨d0, d1⟩, a, b, h, ha⟩ | ⟨rfl, rfl, ⟨d0, d1⟩, ⟨z0, z1⟩, b, h, b0, b1, f0, f1, t0, t1⟩
      · have t0 : (E0 != 0) = true := by simpa using h
        clear h
        go_wp2_with fail
        refine (A.out _ HL3.out).mono ?_
        rintro e w4 ⟨rfl, hg4⟩
        have HG4 := Lib.hid (gtrans HG3.out hg4)
        clear hg4
        go_wp2_with fail
        go_ret
        exact ⟨rfl, HG4.out⟩
      · have KR := Lib.hid (fun W => run_no (d + 1) c.ab W (by omega) (by omega) h)
        clear h
        have q35 := HA3.out 35 _ HC35.out
        go_wp2_with fail
        refine (KR.out _).mono ?_
        rintro e w4 ⟨rfl, hg4⟩
        have HG4 := Lib.hid (gtrans HG3.out hg4)
        have HL4 := Lib.hid (HL3.out.grown hg4)
        have HA4 := Lib.hid (HA3.out.later hg4)
        have HR4 := Lib.hid (HR3.out.later hg4)
        clear q35 hg4
        go_wp2_with fail
        refine (A.out _ HL4.out).mono ?_
        rintro e w5 ⟨rfl, hg5⟩
        have HG5 := Lib.hid (gtrans HG4.out hg5)
        clear hg5
        go_wp2_with fail
        go_ret
        exact ⟨rfl, HG5.out⟩
      · have KR := Lib.hid (fun W => run_yes (d + 1) a b c.ab W h)
        have t0 : decide (a ≤ d) = true := by simpa using ha
        clear h
        have q35 := HA3.out 35 _ HC35.out
        go_wp2_with fail
        refine (KR.out _).mono ?_
        rintro e w4 ⟨rfl, hg4⟩
        have HG4 := Lib.hid (gtrans HG3.out hg4)
        have HL4 := Lib.hid (HL3.out.grown hg4)
        have HA4 := Lib.hid (HA3.out.later hg4)
        have HR4 := Lib.hid (HR3.out.later hg4)
        clear q35 hg4
        go_wp2_with fail
        refine (A.out _ HL4.out).mono ?_
        rintro e w5 ⟨rfl, hg5⟩
        have HG5 := Lib.hid (gtrans HG4.out hg5)
        clear hg5
        go_wp2_with fail
        go_ret
        exact ⟨rfl, HG5.out⟩
      · have KR := Lib.hid (fun W => run_yes (d + 1) (d + 1) b c.ab W h)
        have e2 : decide (b - (d + 1) > 2) = false := by simp; omega
        have e3 : (d + 1 != d + 1) = false := by simp
        clear h
        have q35 := HA3.out 35 _ HC35.out
        go_wp2_with fail
        refine (KR.out _).mono ?_
        rintro e w4 ⟨rfl, hg4⟩
        have HG4 := Lib.hid (gtrans HG3.out hg4)
        have HL4 := Lib.hid (HL3.out.grown hg4)
        have HA4 := Lib.hid (HA3.out.later hg4)
        have HR4 := Lib.hid (HR3.out.later hg4)
        clear q35 hg4
        have q13 := HA4.out 13 _ HC13.out
        have r0 := HR4.out.cell 0 _ rfl
        have r1 := HR4.out.cell 1 _ rfl
        go_wp2_with fail
        go_loop [14] (fun n => ∃ i : Int, d + 1 ≤ i ∧ i ≤ b + 1 ∧ n = .int .i64 i) (fun n => (b + 1 - intOf n).toNat)
        case atStart => exact ⟨d + 1, by omega, by omega, rfl⟩
        case round =>
          obtain ⟨i, i0, i1, rfl⟩ := hrel
          by_cases hi : i ≤ b
          · have e5 : decide (i ≤ b) = true := by simpa using hi
            have e6 : decide (i * 1440 + 720 - c.z.b < F) = false := by simp; omega
            have e7 : decide (i * 1440 + 720 - c.z.b ≥ T) = false := by simp; omega
            go_wp2_with fail
            go_round
            case rel => exact ⟨i + 1, by omega, by omega, rfl⟩
            case measure => simp [intOf]; omega
          · have e5 : decide (i ≤ b) = false := by simpa using hi
            have e6 : decide (d * 1440 + 720 - c.z.b ≤ F) = true := by simp; omega
            have e7 : decide (b * 1440 + 1500 - c.z.b ≥ T) = true := by simp; omega
            clear q13 r0 r1
            go_wp2_with fail
            refine (A.out _ HL4.out).mono ?_
            rintro e w5 ⟨rfl, hg5⟩
            have HG5 := Lib.hid (gtrans HG4.out hg5)
            have R5 := HR4.out.later hg5
            have r0 := R5.cell 0 _ rfl
            have r1 := R5.cell 1 _ rfl
            have q13 := HA4.out.later hg5 13 _ HC13.out
            clear hg5
            go_wp2_with fail
            go_ret
            exact ⟨rfl, HG5.out⟩

end Go.Proofs.YtmlnlkfdbbnkbaaGreatDoor.Window
