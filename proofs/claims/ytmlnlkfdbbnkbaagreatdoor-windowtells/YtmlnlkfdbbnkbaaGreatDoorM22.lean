/-
  Texts of mine, merged: each part says what it holds. Conditions: as each theorem states.
-/
import Derived.Test.YtmlnlkfdbbnkbaaGreatDoorM21

/- The span of any window, under any configuration, that begins on any day is the document's: the walk. Condition: the table of months lies where the program lays it. -/
namespace Go.Proofs.YtmlnlkfdbbnkbaaGreatDoor.Window
set_option maxRecDepth 100000
open Go.ChangeShapes Go.WideShapes Go.ChangeAt Go.RowKit
open Go.Proofs.YtmlnlkfdbbnkbaaGreatDoor.Divs Go.Proofs.YtmlnlkfdbbnkbaaGreatDoor.Grow
open Go.Proofs.YtmlnlkfdbbnkbaaGreatDoor.Greg (Laid)
open Go.Proofs.YtmlnlkfdbbnkbaaGreatDoor.Zo Go.Proofs.YtmlnlkfdbbnkbaaGreatDoor.Zone Go.Proofs.YtmlnlkfdbbnkbaaGreatDoor.Win
open Go.Proofs.YtmlnlkfdbbnkbaaGreatDoor.Cf (Cg Wn ce wo)
open Go.Proofs.YtmlnlkfdbbnkbaaGreatDoor.Conf (wc cc Is)
open Go.Proofs.YtmlnlkfdbbnkbaaGreatDoor.Fe (kd rst)
open Go.Proofs.YtmlnlkfdbbnkbaaGreatDoor.Su (mV mE sk sa)

set_option linter.unusedVariables false
open Go.Proofs.YtmlnlkfdbbnkbaaGreatDoor.Eachn
open Go.Proofs.YtmlnlkfdbbnkbaaGreatDoor.Conf (At load_at few_of own_of)

/-- The two ways of a span. -/
def TWays (F T M P : Int) (B : Bool) (E : Int) : Prop := (E ≠ 0 ∧ F = 0 ∧ T = 0 ∧ M = 0 ∧ P = 0 ∧ B = false) ∨ E = 0

theorem tways (c : Cg) (x : Wn) (d : Int) : TWays (pF c x d) (pT c x d) (pM c x d) (pP c x d) (pB c x d) (pE c x d) := by
  unfold TWays
  by_cases h : pE c x d = 0
  · exact .inr h
  · have hb : pB c x d = false := by
      cases hb : pB c x d
      · rfl
      · exact absurd ((pB_iff c x d).1 hb).1 h
    refine .inl ⟨h, ?_⟩
    unfold pF pT pM pP
    rw [hb]
    simp

def TV (D : Array Value) (c : Cg) (x : Wn) (d F T M P : Int) (B : Bool) (E0 : Int) : Nat → Value → World → Prop
  | 0, v, _ => v = .agg D
  | 1, v, W => ∃ E B, v = .agg E ∧ Conf.Own W B E c
  | 2, v, _ => v = .agg (wc x).toArray
  | 3, v, _ => v = .int .i64 d
  | 4, v, _ => v = .tuple #[.agg #[.int .i64 F, .int .i64 T, .int .i64 M, .int .i64 P], .bool B, .int .i64 E0]
  | 5, v, _ => v = .tuple #[.agg #[.int .i64 F, .int .i64 T, .int .i64 M, .int .i64 P], .bool B, .int .i64 E0]
  | 6, v, _ => v = .agg #[.int .i64 F, .int .i64 T, .int .i64 M, .int .i64 P]
  | 7, v, _ => v = .bool B
  | 8, v, _ => v = .int .i64 E0
  | 11, v, _ => v = .bool B
  | 12, v, _ => v = .int .i64 E0
  | _, _, _ => True

theorem TV.later (D : Array Value) (c : Cg) (x : Wn) (d F T M P : Int) (B : Bool) (E0 : Int) (i : Nat) (v : Value) (W W' : World) (h : TV D c x d F T M P B E0 i v W) (g : Later W W') : TV D c x d F T M P B E0 i v W' := by
  unfold TV at *
  split at h <;> try exact h
  · exact (let ⟨E, b, e, k⟩ := h; ⟨E, b, e, k.later g⟩)
theorem TV.out (D : Array Value) (c : Cg) (x : Wn) (d F T M P : Int) (B : Bool) (E0 : Int) (i : Nat) (v : Value) (W W' : World) (g : Nat) (cs : Array Value) (h : TV D c x d F T M P B E0 i v W) (r : RA W g cs 39) (n : Nb cs) (o : Out g W W') : TV D c x d F T M P B E0 i v W' := by
  unfold TV at *
  split at h <;> try exact h
  · exact (let ⟨E, b, e, k⟩ := h; ⟨E, b, e, own_out k r o⟩)

set_option maxHeartbeats 2000000 in
theorem tells_core (w : World) (hL : Laid w) (D : Array Value) (c : Cg) (hc : Is w D c) (x : Wn) (d : Int) (_ : -9223372036854775808 ≤ d ∧ d ≤ 9223372036854775807) : Calls Tryz.prog 3 #[.agg D, .agg (wc x).toArray, .int .i64 d] w fun e w' => e = .returned (.bool true) ∧ Later w w' := by
  have A := Lib.hid (fun W (hW : Laid W) => awake_any W hW)
  have KF := Lib.hid (fun W (g : Later w W) => few_of (hc.later g))
  have KO := Lib.hid (fun W (g : Later w W) hf => own_of (hc.later g) hf)
  have KS := Lib.hid (fun W (hW : Laid W) E (h : Is W E c) => span_any E c x d W hW h)
  have KR := Lib.hid (fun W (g : Later w W) => rchk_any D c x d W (hc.later g))
  have KT := Lib.hid (fun h W (g : Later w W) => rof_any D c x d W (hc.later g) h)
  unfold sc4 at KS
  unfold oc5 at KT
  have HZ := Lib.hid hc.size
  have HQ := Lib.hid (tways c x d)
  have HG0 := Lib.hid (((Later.refl w).alloc D 33).alloc (wc x).toArray 35)
  have HL0 := Lib.hid (hL.grown HG0.out)
  have HA0 := Lib.hid ((At.new w D 33).put (.cells (wc x).toArray 35))
  have HB0 := Lib.hid (At.new (w.alloc (.cells D 33)) (wc x).toArray 35)
  simp only [World.size_alloc] at HB0
  clear hL hc
  generalize pF c x d = F at *
  generalize pT c x d = T at *
  generalize pM c x d = M at *
  generalize pP c x d = P at *
  generalize pB c x d = B at *
  generalize pE c x d = E0 at *
  unfold wc at HG0 HL0 HA0 HB0 ⊢
  go_enter Tryz.func3, Tryz.ntmps3
  go_wp2_with (refine load_at D HZ.out rfl (.tmp 3) rfl w.heap.size rfl HA0.out ?_)
  refine (KF.out _ HG0.out).mono ?_
  rintro e w1 ⟨rfl, hg1⟩
  have HG1 := Lib.hid (gtrans HG0.out hg1)
  have HL1 := Lib.hid (HL0.out.grown hg1)
  have HA1 := Lib.hid (HA0.out.later hg1)
  have HB1 := Lib.hid (HB0.out.later hg1)
  clear hg1
  cases e1 : Conf.fw c with
  | false =>
    go_wp2_with fail
    refine (A.out _ HL1.out).mono ?_
    rintro e w2 ⟨rfl, hg2⟩
    have HG2 := Lib.hid (gtrans HG1.out hg2)
    clear hg2
    go_wp2_with fail
    go_ret
    exact ⟨rfl, HG2.out⟩
  | true =>
    have KO' := Lib.hid (fun W (g : Later w W) => KO.out W g e1)
    go_wp2_with fail
    refine region_box 9 10 7 #[.int .i64 0, .int .i64 0, .int .i64 0, .int .i64 0] 39 (fun cs _ => cs = #[.int .i64 F, .int .i64 T, .int .i64 M, .int .i64 P]) (TV D c x d F T M P B E0) (by kernel_rfl) (by kernel_rfl) (by decide) (by kernel_rfl) (TV.later D c x d F T M P B E0) (TV.out D c x d F T M P B E0) (fun cs W W' h _ => h) trivial ?_ ?_ ?_ ?_ ⟨by decide, by decide⟩
    · intro i hi him his
      match i with
      | 0 =>
        intro o ho
        simp only [List.getElem?_toArray, List.getElem?_cons_zero, Option.some.injEq] at ho
        subst ho
        intro a W hl hold hdep
        refine ite_yes rfl ?_
        have h3 : a.tmps[3]? = some (.pointer (some ⟨w.heap.size, 0, none⟩)) := hold 3 (free_of (by kernel_rfl))
        clear hold hdep
        exact Conf.wp_load_cfg D HZ.out W (w.heap.size) (HA1.out.later hl) (.tmp 3) rfl (ev h3) ⟨_, rfl, rfl, Later.refl _⟩
      | 1 =>
        intro o ho
        simp only [List.getElem?_toArray, List.getElem?_cons_zero, List.getElem?_cons_succ, Option.some.injEq] at ho
        subst ho
        intro a W hl hold hdep
        refine ite_yes rfl ?_
        obtain ⟨_, h17, rfl⟩ := hdep 0 (by decide) (by decide) (by decide) _ _ rfl rfl
        clear hold hdep
        unfold Oper.wp
        go_simp
        refine (KO'.out _ (gtrans HG1.out hl)).mono ?_
        rintro e w1 ⟨E, rfl, ho, hg1⟩
        exact ⟨_, rfl, ⟨E, _, rfl, ho⟩, hg1⟩
      | 2 =>
        intro o ho
        simp only [List.getElem?_toArray, List.getElem?_cons_zero, List.getElem?_cons_succ, Option.some.injEq] at ho
        subst ho
        intro a W hl hold hdep
        refine ite_yes rfl ?_
        have h4 : a.tmps[4]? = some (.pointer (some ⟨w.heap.size + 1, 0, none⟩)) := hold 4 (free_of (by kernel_rfl))
        clear hold hdep
        exact wp_load_mid (P := Tryz.prog) 35 (.tmp 4) rfl (w.heap.size + 1) 0 (ev h4) (wc x) _ (fun j y0 hy => by rw [Nat.zero_add]; exact (HB1.out.later hl) j y0 (by simpa [wc] using hy)) Tryz.underlying35 rfl (by kernel_rfl) ⟨_, rfl, rfl, Later.refl _⟩
      | 3 =>
        intro o ho
        simp only [List.getElem?_toArray, List.getElem?_cons_zero, List.getElem?_cons_succ, Option.some.injEq] at ho
        subst ho
        intro a W hl hold hdep
        refine ite_yes rfl ?_
        have h2 : a.tmps[2]? = some (.int .i64 d) := hold 2 (free_of (by kernel_rfl))
        clear hold hdep
        unfold Oper.wp
        go_simp
        exact ⟨_, rfl, rfl, Later.refl _⟩
      | 4 =>
        intro o ho
        simp only [List.getElem?_toArray, List.getElem?_cons_zero, List.getElem?_cons_succ, Option.some.injEq] at ho
        subst ho
        intro a W hl hold hdep
        refine ite_yes rfl ?_
        obtain ⟨_, h18, ⟨E, B0, rfl, hE⟩⟩ := hdep 1 (by decide) (by decide) (by decide) _ _ rfl rfl
        obtain ⟨_, h19, rfl⟩ := hdep 2 (by decide) (by decide) (by decide) _ _ rfl rfl
        obtain ⟨_, h20, rfl⟩ := hdep 3 (by decide) (by decide) (by decide) _ _ rfl rfl
        clear hold hdep
        unfold Oper.wp
        go_simp
        refine (KS.out _ (HL1.out.grown hl) _ hE.is).mono ?_
        rintro e w1 ⟨rfl, hg1⟩
        exact ⟨_, rfl, rfl, hg1⟩
      | 5 =>
        intro o ho
        simp only [List.getElem?_toArray, List.getElem?_cons_zero, List.getElem?_cons_succ, Option.some.injEq] at ho
        subst ho
        intro a W hl hold hdep
        refine ite_yes rfl ?_
        obtain ⟨_, h21, rfl⟩ := hdep 4 (by decide) (by decide) (by decide) _ _ rfl rfl
        clear hold hdep
        unfold Oper.wp
        go_simp
        exact ⟨_, rfl, rfl, Later.refl _⟩
      | 6 =>
        intro o ho
        simp only [List.getElem?_toArray, List.getElem?_cons_zero, List.getElem?_cons_succ, Option.some.injEq] at ho
        subst ho
        intro a W hl hold hdep
        refine ite_yes rfl ?_
        obtain ⟨_, h16, rfl⟩ := hdep 5 (by decide) (by decide) (by decide) _ _ rfl rfl
        clear hold hdep
        unfold Oper.wp
        go_simp
        exact ⟨_, rfl, rfl, Later.refl _⟩
      | 7 =>
        intro o ho
        simp only [List.getElem?_toArray, List.getElem?_cons_zero, List.getElem?_cons_succ, Option.some.injEq] at ho
        subst ho
        intro a W hl hold hdep
        refine ite_yes rfl ?_
        obtain ⟨_, h16, rfl⟩ := hdep 5 (by decide) (by decide) (by decide) _ _ rfl rfl
        clear hold hdep
        unfold Oper.wp
        go_simp
        exact ⟨_, rfl, rfl, Later.refl _⟩
      | 8 =>
        intro o ho
        simp only [List.getElem?_toArray, List.getElem?_cons_zero, List.getElem?_cons_succ, Option.some.injEq] at ho
        subst ho
        intro a W hl hold hdep
        refine ite_yes rfl ?_
        obtain ⟨_, h16, rfl⟩ := hdep 5 (by decide) (by decide) (by decide) _ _ rfl rfl
        clear hold hdep
        unfold Oper.wp
        go_simp
        exact ⟨_, rfl, rfl, Later.refl _⟩
      | 9 => exact absurd rfl him
      | 10 => exact absurd rfl his
      | 11 =>
        intro o ho
        simp only [List.getElem?_toArray, List.getElem?_cons_zero, List.getElem?_cons_succ, Option.some.injEq] at ho
        subst ho
        intro a W hl hold hdep
        refine ite_yes rfl ?_
        obtain ⟨_, h23, rfl⟩ := hdep 7 (by decide) (by decide) (by decide) _ _ rfl rfl
        clear hold hdep
        unfold Oper.wp
        go_simp
        exact ⟨_, rfl, rfl, Later.refl _⟩
      | 12 =>
        intro o ho
        simp only [List.getElem?_toArray, List.getElem?_cons_zero, List.getElem?_cons_succ, Option.some.injEq] at ho
        subst ho
        intro a W hl hold hdep
        refine ite_yes rfl ?_
        obtain ⟨_, h24, rfl⟩ := hdep 8 (by decide) (by decide) (by decide) _ _ rfl rfl
        clear hold hdep
        unfold Oper.wp
        go_simp
        exact ⟨_, rfl, rfl, Later.refl _⟩
      | k + 13 => exact absurd hi (by simp)
    · intro o ho
      simp only [List.getElem?_toArray, List.getElem?_cons_zero, List.getElem?_cons_succ, Option.some.injEq] at ho
      subst ho
      refine ⟨rfl, rfl, fun a W hl => ?_⟩
      unfold Oper.wp
      go_simp
      exact ⟨_, rfl, hl.size, RA.new _ _ _, (Later.refl _).put _⟩
    · intro o ho
      simp only [List.getElem?_toArray, List.getElem?_cons_zero, List.getElem?_cons_succ, Option.some.injEq] at ho
      subst ho
      refine ⟨rfl, rfl, fun a W g hl hd hg hr hdep => ?_⟩
      obtain ⟨_, h22, rfl⟩ := hdep 6 (by decide) (by decide) (by decide) _ _ rfl rfl
      have c0 := hr.cell 0 _ rfl
      have c1 := hr.cell 1 _ rfl
      have c2 := hr.cell 2 _ rfl
      have c3 := hr.cell 3 _ rfl
      have f0 := hr.froz 0
      have f1 := hr.froz 1
      have f2 := hr.froz 2
      have f3 := hr.froz 3
      clear hdep
      unfold Oper.wp
      go_simp
      exact ⟨later_set4 hl hg _ _ _ _, out4 _ _ _ _ _ _, hr.set4 _ _ _ _, trivial⟩
    · intro a W hl hd hz hold hall hbox
      obtain ⟨g7, cs7, k7, i7, r7, n7, b7⟩ := hbox
      have k2 : a.tmps[2]? = some (.int .i64 d) := hold 2 (free_of (by kernel_rfl))
      have k3 : a.tmps[3]? = some (.pointer (some ⟨w.heap.size, 0, none⟩)) := hold 3 (free_of (by kernel_rfl))
      have k4 : a.tmps[4]? = some (.pointer (some ⟨w.heap.size + 1, 0, none⟩)) := hold 4 (free_of (by kernel_rfl))
      have k6 : a.tmps[6]? = some (.bool false) := hold 6 (free_of (by kernel_rfl))
      obtain ⟨_, k8, rfl⟩ := hall 11 _ _ (by decide) (by decide) rfl rfl
      obtain ⟨_, k9, rfl⟩ := hall 12 _ _ (by decide) (by decide) rfl rfl
      have ha := act_eta a 67 [] hz hd
      rw [show (List.range 67).map (fun s => a.tmps.getD s undef) = [a.tmps.getD 0 undef, a.tmps.getD 1 undef, a.tmps.getD 2 undef, a.tmps.getD 3 undef, a.tmps.getD 4 undef, a.tmps.getD 5 undef, a.tmps.getD 6 undef, a.tmps.getD 7 undef, a.tmps.getD 8 undef, a.tmps.getD 9 undef, a.tmps.getD 10 undef, a.tmps.getD 11 undef, a.tmps.getD 12 undef, a.tmps.getD 13 undef, a.tmps.getD 14 undef, a.tmps.getD 15 undef, a.tmps.getD 16 undef, a.tmps.getD 17 undef, a.tmps.getD 18 undef, a.tmps.getD 19 undef, a.tmps.getD 20 undef, a.tmps.getD 21 undef, a.tmps.getD 22 undef, a.tmps.getD 23 undef, a.tmps.getD 24 undef, a.tmps.getD 25 undef, a.tmps.getD 26 undef, a.tmps.getD 27 undef, a.tmps.getD 28 undef, a.tmps.getD 29 undef, a.tmps.getD 30 undef, a.tmps.getD 31 undef, a.tmps.getD 32 undef, a.tmps.getD 33 undef, a.tmps.getD 34 undef, a.tmps.getD 35 undef, a.tmps.getD 36 undef, a.tmps.getD 37 undef, a.tmps.getD 38 undef, a.tmps.getD 39 undef, a.tmps.getD 40 undef, a.tmps.getD 41 undef, a.tmps.getD 42 undef, a.tmps.getD 43 undef, a.tmps.getD 44 undef, a.tmps.getD 45 undef, a.tmps.getD 46 undef, a.tmps.getD 47 undef, a.tmps.getD 48 undef, a.tmps.getD 49 undef, a.tmps.getD 50 undef, a.tmps.getD 51 undef, a.tmps.getD 52 undef, a.tmps.getD 53 undef, a.tmps.getD 54 undef, a.tmps.getD 55 undef, a.tmps.getD 56 undef, a.tmps.getD 57 undef, a.tmps.getD 58 undef, a.tmps.getD 59 undef, a.tmps.getD 60 undef, a.tmps.getD 61 undef, a.tmps.getD 62 undef, a.tmps.getD 63 undef, a.tmps.getD 64 undef, a.tmps.getD 65 undef, a.tmps.getD 66 undef] from rfl, getD_of k2, getD_of k3, getD_of k4, getD_of k6, getD_of k7, getD_of k8, getD_of k9] at ha
      try dsimp only at ha
      rw [ha]
      clear hall hold hz hd ha k2 k3 k4 k6 k7 k8 k9
      generalize a.tmps.getD 0 undef = x0
      generalize a.tmps.getD 1 undef = x1
      generalize a.tmps.getD 5 undef = x5
      generalize a.tmps.getD 10 undef = x10
      generalize a.tmps.getD 11 undef = x11
      generalize a.tmps.getD 12 undef = x12
      generalize a.tmps.getD 13 undef = x13
      generalize a.tmps.getD 14 undef = x14
      generalize a.tmps.getD 15 undef = x15
      generalize a.tmps.getD 16 undef = x16
      generalize a.tmps.getD 17 undef = x17
      generalize a.tmps.getD 18 undef = x18
      generalize a.tmps.getD 19 undef = x19
      generalize a.tmps.getD 20 undef = x20
      generalize a.tmps.getD 21 undef = x21
      generalize a.tmps.getD 22 undef = x22
      generalize a.tmps.getD 23 undef = x23
      generalize a.tmps.getD 24 undef = x24
      generalize a.tmps.getD 25 undef = x25
      generalize a.tmps.getD 26 undef = x26
      generalize a.tmps.getD 27 undef = x27
      generalize a.tmps.getD 28 undef = x28
      generalize a.tmps.getD 29 undef = x29
      generalize a.tmps.getD 30 undef = x30
      generalize a.tmps.getD 31 undef = x31
      generalize a.tmps.getD 32 undef = x32
      generalize a.tmps.getD 33 undef = x33
      generalize a.tmps.getD 34 undef = x34
      generalize a.tmps.getD 35 undef = x35
      generalize a.tmps.getD 36 undef = x36
      generalize a.tmps.getD 37 undef = x37
      generalize a.tmps.getD 38 undef = x38
      generalize a.tmps.getD 39 undef = x39
      generalize a.tmps.getD 40 undef = x40
      generalize a.tmps.getD 41 undef = x41
      generalize a.tmps.getD 42 undef = x42
      generalize a.tmps.getD 43 undef = x43
      generalize a.tmps.getD 44 undef = x44
      generalize a.tmps.getD 45 undef = x45
      generalize a.tmps.getD 46 undef = x46
      generalize a.tmps.getD 47 undef = x47
      generalize a.tmps.getD 48 undef = x48
      generalize a.tmps.getD 49 undef = x49
      generalize a.tmps.getD 50 undef = x50
      generalize a.tmps.getD 51 undef = x51
      generalize a.tmps.getD 52 undef = x52
      generalize a.tmps.getD 53 undef = x53
      generalize a.tmps.getD 54 undef = x54
      generalize a.tmps.getD 55 undef = x55
      generalize a.tmps.getD 56 undef = x56
      generalize a.tmps.getD 57 undef = x57
      generalize a.tmps.getD 58 undef = x58
      generalize a.tmps.getD 59 undef = x59
      generalize a.tmps.getD 60 undef = x60
      generalize a.tmps.getD 61 undef = x61
      generalize a.tmps.getD 62 undef = x62
      generalize a.tmps.getD 63 undef = x63
      generalize a.tmps.getD 64 undef = x64
      generalize a.tmps.getD 65 undef = x65
      generalize a.tmps.getD 66 undef = x66
      subst b7
      have HG3 := Lib.hid (gtrans HG1.out hl)
      have HL3 := Lib.hid (HL1.out.grown hl)
      have HA3 := Lib.hid (HA1.out.later hl)
      have HB3 := Lib.hid (HB1.out.later hl)
      have HR3 := Lib.hid r7
      clear r7 n7 hl
      have HB3' : Hid (W.rangeAt (w.heap.size + 1) 0 (wc x)) := Lib.hid (fun j y hy => by rw [Nat.zero_add]; exact HB3.out j y (by simpa [wc] using hy))
      go_wp2_with (first | (refine load_at D HZ.out rfl (.tmp 3) rfl w.heap.size rfl HA3.out ?_) | (refine Conf.load_win x rfl (.tmp 4) rfl (w.heap.size + 1) 0 rfl HB3'.out ?_))
      refine (KR.out _ HG3.out).mono ?_
      rintro e w4 ⟨rfl, hg4⟩
      have HG4 := Lib.hid (gtrans HG3.out hg4)
      have HL4 := Lib.hid (HL3.out.grown hg4)
      have HA4 := Lib.hid (HA3.out.later hg4)
      have HB4' : Hid (w4.rangeAt (w.heap.size + 1) 0 (wc x)) := Lib.hid (fun j y hy => by rw [Nat.zero_add]; exact HB3.out.later hg4 j y (by simpa [wc] using hy))
      have HR4 := Lib.hid (HR3.out.later hg4)
      clear hg4
      rcases HQ.out with ⟨h, rfl, rfl, rfl, rfl, rfl⟩ | rfl
      · have t0 : (E0 != 0) = true := by simpa using h
        clear h
        go_wp2_with fail
        refine (A.out _ HL4.out).mono ?_
        rintro e w5 ⟨rfl, hg5⟩
        have HG5 := Lib.hid (gtrans HG4.out hg5)
        have R5 := HR4.out.later hg5
        have r0 := R5.cell 0 _ rfl
        have r1 := R5.cell 1 _ rfl
        have r2 := R5.cell 2 _ rfl
        have r3 := R5.cell 3 _ rfl
        have heq := run_eql 0 0 0 0
        clear hg5
        go_wp2_with fail
        go_ret
        exact ⟨rfl, HG5.out⟩
      · have KT' := Lib.hid (KT.out rfl)
        go_wp2_with (first | (refine load_at D HZ.out rfl (.tmp 3) rfl w.heap.size rfl HA4.out ?_) | (refine Conf.load_win x rfl (.tmp 4) rfl (w.heap.size + 1) 0 rfl HB4'.out ?_))
        refine (KT'.out _ HG4.out).mono ?_
        rintro e w5 ⟨rfl, hg5⟩
        have LP := Lib.hid ((Later.refl w5).put (.cells #[.int .i64 F, .int .i64 T, .int .i64 M, .int .i64 P, .bool B] 46))
        have HG5 := Lib.hid (gtrans (gtrans HG4.out hg5) LP.out)
        have HL5 := Lib.hid (HL4.out.grown (gtrans hg5 LP.out))
        have HR5 := Lib.hid (HR4.out.later (gtrans hg5 LP.out))
        have HP5 := Lib.hid (RA.new w5 #[.int .i64 F, .int .i64 T, .int .i64 M, .int .i64 P, .bool B] 46)
        clear hg5
        go_wp2_with fail
        refine (A.out _ HL5.out).mono ?_
        rintro e w6 ⟨rfl, hg6⟩
        have HG6 := Lib.hid (gtrans HG5.out hg6)
        have R6 := HR5.out.later hg6
        have P6 := HP5.out.later hg6
        have r0 := R6.cell 0 _ rfl
        have r1 := R6.cell 1 _ rfl
        have r2 := R6.cell 2 _ rfl
        have r3 := R6.cell 3 _ rfl
        have q0 := P6.cell 0 _ rfl
        have q1 := P6.cell 1 _ rfl
        have q2 := P6.cell 2 _ rfl
        have q3 := P6.cell 3 _ rfl
        have q4 := P6.cell 4 _ rfl
        have heq := run_eql F T M P
        clear hg6 R6 P6
        go_wp2_with fail
        go_ret
        exact ⟨rfl, HG6.out⟩

end Go.Proofs.YtmlnlkfdbbnkbaaGreatDoor.Window
