/-
  Texts of mine, merged: each part says what it holds. Conditions: as each theorem states.
-/
import Derived.Test.YtmlnlkfdbbnkbaaGreatDoorM15

/- The chapter's example. Condition: the table of months lies where the program lays it. -/
namespace Go.Proofs.YtmlnlkfdbbnkbaaGreatDoor.Window
set_option maxRecDepth 100000
open Go.ChangeShapes Go.WideShapes Go.ChangeAt Go.RowKit
open Go.Proofs.YtmlnlkfdbbnkbaaGreatDoor.Divs Go.Proofs.YtmlnlkfdbbnkbaaGreatDoor.Grow
open Go.Proofs.YtmlnlkfdbbnkbaaGreatDoor.Greg (Laid)
open Go.Proofs.YtmlnlkfdbbnkbaaGreatDoor.Zo Go.Proofs.YtmlnlkfdbbnkbaaGreatDoor.Zone Go.Proofs.YtmlnlkfdbbnkbaaGreatDoor.Win
open Go.Proofs.YtmlnlkfdbbnkbaaGreatDoor.Cf (Cg Wn ce wo)
open Go.Proofs.YtmlnlkfdbbnkbaaGreatDoor.Conf (wc cc Is)
open Go.Proofs.YtmlnlkfdbbnkbaaGreatDoor.Fe (kd rst)
open Go.Proofs.YtmlnlkfdbbnkbaaGreatDoor.Su (mV mE sk sa)

set_option linter.unusedVariables false
open Go.Proofs.YtmlnlkfdbbnkbaaGreatDoor.Eachn
open Go.Proofs.YtmlnlkfdbbnkbaaGreatDoor.Conf (At load_at store_row Row sk_form wk_form Wk cc_one)

theorem ex_bit : bit 65 738779 = true := by decide +kernel

theorem ex_mv : mv Conf.pc.z (738779 * 1440 + 1200) = 1063842960 := by
  rw [mv_late _ _ (sm_zero _ _ rfl) (sm_zero _ _ rfl)]
  rfl

theorem ex_wo : wo Conf.pw = true := (Cf.we_ok _).1 Conf.pw_ok

theorem ex_pE : pE Conf.pc Conf.pw 738779 = 0 := (pE_ok _ _ _).2 ⟨Conf.pc_ok, ex_wo, by decide, by decide⟩

theorem ex_pB : pB Conf.pc Conf.pw 738779 = true := (pB_iff _ _ _).2 ⟨ex_pE, by unfold beg; rw [if_pos (show Conf.pw.k = 1 from rfl)]; exact ex_bit⟩

theorem ex_pF : pF Conf.pc Conf.pw 738779 = 1063842960 := by
  unfold pF; rw [if_pos ex_pB]; unfold fr; rw [if_neg (show ¬ Conf.pw.k = 4 by decide)]; exact ex_mv

theorem ex_pT : pT Conf.pc Conf.pw 738779 = 1063843560 := by
  unfold pT; rw [if_pos ex_pB]; unfold tt; rw [if_neg (show ¬ Conf.pw.k = 4 by decide)]
  rw [show Conf.pw.u = 1200 from rfl, ex_mv]; rfl

theorem ex_pM : pM Conf.pc Conf.pw 738779 = 2 := by unfold pM; rw [if_pos ex_pB]; rfl

theorem ex_pP : pP Conf.pc Conf.pw 738779 = 0 := by unfold pP; rw [if_pos ex_pB]; rfl

theorem ex_wE : wE Conf.pc.z 738779 1200 = 0 := (wE_ok _ _ _).2 ⟨(ck_may _).1 (by decide), by decide, by decide, by decide, by decide⟩

theorem ex_wV : wV Conf.pc.z 738779 1200 = 1063842960 := by unfold wV; rw [if_pos ex_wE]; exact ex_mv

theorem run_eql (f t m p : Int) (w : World) : Sem.run Tryz.prog (binOp .eql 39 (.agg #[.int .i64 f, .int .i64 t, .int .i64 m, .int .i64 p]) (.agg #[.int .i64 f, .int .i64 t, .int .i64 m, .int .i64 p])) w = .ok (.bool true) w := by
  have u3 := Tryz.underlying39
  go_simp

def AV (C : Array Value) (q b off cap : Nat) : Nat → Value → World → Prop
  | 0, v, _ => v = .agg C
  | 1, v, _ => v = .pointer (some ⟨q, 36, none⟩)
  | 2, v, _ => v = .slice (some ⟨b, off, none⟩) 1 cap
  | 3, v, _ => v = .pointer (some ⟨b, off, none⟩)
  | 4, v, _ => v = .agg (wc Conf.pw).toArray
  | 5, v, _ => v = .tuple #[.agg #[.int .i64 1063842960, .int .i64 1063843560, .int .i64 2, .int .i64 0], .bool true, .int .i64 0]
  | 6, v, _ => v = .tuple #[.agg #[.int .i64 1063842960, .int .i64 1063843560, .int .i64 2, .int .i64 0], .bool true, .int .i64 0]
  | 7, v, _ => v = .agg #[.int .i64 1063842960, .int .i64 1063843560, .int .i64 2, .int .i64 0]
  | 8, v, _ => v = .bool true
  | 9, v, _ => v = .int .i64 0
  | 12, v, _ => v = .bool true
  | 13, v, _ => v = .int .i64 0
  | _, _, _ => True

theorem AV.later (C : Array Value) (q b off cap : Nat) (i : Nat) (v : Value) (W W' : World) (h : AV C q b off cap i v W) (_g : Later W W') : AV C q b off cap i v W' := by
  unfold AV at *
  split at h <;> try exact h
theorem AV.out (C : Array Value) (q b off cap : Nat) (i : Nat) (v : Value) (W W' : World) (g : Nat) (cs : Array Value) (h : AV C q b off cap i v W) (r : RA W g cs 39) (n : Nb cs) (o : Out g W W') : AV C q b off cap i v W' := by
  unfold AV at *
  split at h <;> try exact h

set_option maxHeartbeats 2000000 in
theorem awake_any (w : World) (hL : Laid w) : Calls Tryz.prog 10 #[] w fun e w' => e = .returned (.bool true) ∧ Later w w' := by
  have KP := Lib.hid (Conf.plain_any w)
  have HLw := Lib.hid hL
  clear hL
  go_enter Tryz.func10, Tryz.ntmps10
  go_wp2_with fail
  refine KP.out.mono ?_
  rintro e w1 ⟨u, v, rfl, hu, hv, hg1⟩
  have HL1 := Lib.hid (HLw.out.grown hg1)
  have KI := Lib.hid (fun W (g : Later w1 W) => (⟨u, v, rfl, hu.later g, hv.later g⟩ : Is W (cc Conf.pc u v) Conf.pc))
  have KS := Lib.hid (fun W (hW : Laid W) (h : Is W (cc Conf.pc u v) Conf.pc) => span_any (cc Conf.pc u v) Conf.pc Conf.pw 738779 W hW h)
  rw [ex_pF, ex_pT, ex_pM, ex_pP, ex_pB, ex_pE] at KS
  unfold sc4 at KS
  have KM := Lib.hid (fun W (hW : Laid W) => moment_any Conf.pc.z 738779 1200 W hW)
  rw [ex_wE, ex_wV] at KM
  obtain ⟨d0, q0, eu, _, _⟩ := sk_form hu
  obtain ⟨b, off, cap, ev, _, hb, hr⟩ := Conf.Wk.has hv (by decide)
  have hr0 := hr 0 Conf.pw rfl
  rw [show off + 0 * 7 = off by omega] at hr0
  have HR := Lib.hid hr0
  have HG1 := Lib.hid hg1
  clear hr hr0 hu hv hg1 KP
  obtain ⟨C, hC⟩ : ∃ C, C = cc Conf.pc u v := ⟨_, rfl⟩
  have HZn := Lib.hid (fun W B (h : At W B C) => (Conf.cc_zone Conf.pc u v (by rwa [hC] at h) : W.rangeAt B 13 (zc Conf.pc.z).toList))
  rw [← hC] at KI KS ⊢
  have HC : Hid (C.size = 37) := Lib.hid (by rw [hC]; rfl)
  have H1 : Hid (C.all (·.oneCell') = true) := Lib.hid (by rw [hC, eu, ev]; exact cc_one _ _ _ _ _ _ _)
  have H36 : Hid (C[36]? = some (.slice (some ⟨b, off, none⟩) 1 cap)) := Lib.hid (by rw [hC, ev]; rfl)
  clear hC eu ev
  go_wp2_with (refine store_row rfl (.tmp 1) (.tmp 7) rfl w1.heap.size rfl C HC.out H1.out rfl _ rfl (Row.new _ _ _) w1 ((Later.refl _).alloc _ _) (Nat.le_refl _) ?_; intro W2 hR2 hL2 _; have HA2 := Lib.hid hR2.at; have HL2 := Lib.hid hL2; clear hR2 hL2)
  have HLd := Lib.hid (HL1.out.grown HL2.out)
  refine region_box 10 11 2 #[.int .i64 0, .int .i64 0, .int .i64 0, .int .i64 0] 39 (fun cs _ => cs = #[.int .i64 1063842960, .int .i64 1063843560, .int .i64 2, .int .i64 0]) (AV C w1.heap.size b off cap) (by kernel_rfl) (by kernel_rfl) (by decide) (by kernel_rfl) (AV.later C w1.heap.size b off cap) (AV.out C w1.heap.size b off cap) (fun cs W W' h _ => h) trivial ?_ ?_ ?_ ?_ ⟨by decide, by decide⟩
  · intro i hi him his
    match i with
    | 0 =>
      intro o ho
      simp only [List.getElem?_toArray, List.getElem?_cons_zero, Option.some.injEq] at ho
      subst ho
      intro a W hl hold hdep
      refine ite_yes rfl ?_
      have h1 : a.tmps[1]? = some (.pointer (some ⟨w1.heap.size, 0, none⟩)) := hold 1 (free_of (by kernel_rfl))
      clear hold hdep
      exact Conf.wp_load_cfg C HC.out W w1.heap.size (HA2.out.later hl) (.tmp 1) rfl (ev h1) ⟨_, rfl, rfl, Later.refl _⟩
    | 1 =>
      intro o ho
      simp only [List.getElem?_toArray, List.getElem?_cons_zero, List.getElem?_cons_succ, Option.some.injEq] at ho
      subst ho
      intro a W hl hold hdep
      refine ite_yes rfl ?_
      have h1 : a.tmps[1]? = some (.pointer (some ⟨w1.heap.size, 0, none⟩)) := hold 1 (free_of (by kernel_rfl))
      clear hold hdep
      unfold Oper.wp
      go_simp
      exact ⟨_, rfl, rfl, Later.refl _⟩
    | 2 =>
      intro o ho
      simp only [List.getElem?_toArray, List.getElem?_cons_zero, List.getElem?_cons_succ, Option.some.injEq] at ho
      subst ho
      intro a W hl hold hdep
      refine ite_yes rfl ?_
      obtain ⟨_, h10, rfl⟩ := hdep 1 (by decide) (by decide) (by decide) _ _ rfl rfl
      have k := HA2.out.later hl 36 _ H36.out
      clear hold hdep
      unfold Oper.wp
      go_simp
      exact ⟨_, rfl, rfl, Later.refl _⟩
    | 3 =>
      intro o ho
      simp only [List.getElem?_toArray, List.getElem?_cons_zero, List.getElem?_cons_succ, Option.some.injEq] at ho
      subst ho
      intro a W hl hold hdep
      refine ite_yes rfl ?_
      obtain ⟨_, h11, rfl⟩ := hdep 2 (by decide) (by decide) (by decide) _ _ rfl rfl
      clear hold hdep
      unfold Oper.wp
      go_simp
      exact ⟨_, rfl, rfl, Later.refl _⟩
    | 4 =>
      intro o ho
      simp only [List.getElem?_toArray, List.getElem?_cons_zero, List.getElem?_cons_succ, Option.some.injEq] at ho
      subst ho
      intro a W hl hold hdep
      refine ite_yes rfl ?_
      obtain ⟨_, h12, rfl⟩ := hdep 3 (by decide) (by decide) (by decide) _ _ rfl rfl
      clear hold hdep
      exact wp_load_mid (P := Tryz.prog) 35 (.tmp 12) rfl b off (ev h12) (wc Conf.pw) _ (fun j y hy => gsome (gtrans HL2.out hl) (HR.out j y hy)) Tryz.underlying35 rfl (by kernel_rfl) ⟨_, rfl, rfl, Later.refl _⟩
    | 5 =>
      intro o ho
      simp only [List.getElem?_toArray, List.getElem?_cons_zero, List.getElem?_cons_succ, Option.some.injEq] at ho
      subst ho
      intro a W hl hold hdep
      refine ite_yes rfl ?_
      obtain ⟨_, h9, rfl⟩ := hdep 0 (by decide) (by decide) (by decide) _ _ rfl rfl
      obtain ⟨_, h13, rfl⟩ := hdep 4 (by decide) (by decide) (by decide) _ _ rfl rfl
      clear hold hdep
      unfold Oper.wp
      go_simp
      refine (KS.out _ (HLd.out.grown hl) (KI.out _ (gtrans HL2.out hl))).mono ?_
      rintro e w1 ⟨rfl, hg1⟩
      exact ⟨_, rfl, rfl, hg1⟩
    | 6 =>
      intro o ho
      simp only [List.getElem?_toArray, List.getElem?_cons_zero, List.getElem?_cons_succ, Option.some.injEq] at ho
      subst ho
      intro a W hl hold hdep
      refine ite_yes rfl ?_
      obtain ⟨_, h14, rfl⟩ := hdep 5 (by decide) (by decide) (by decide) _ _ rfl rfl
      clear hold hdep
      unfold Oper.wp
      go_simp
      exact ⟨_, rfl, rfl, Later.refl _⟩
    | 7 =>
      intro o ho
      simp only [List.getElem?_toArray, List.getElem?_cons_zero, List.getElem?_cons_succ, Option.some.injEq] at ho
      subst ho
      intro a W hl hold hdep
      refine ite_yes rfl ?_
      obtain ⟨_, h8, rfl⟩ := hdep 6 (by decide) (by decide) (by decide) _ _ rfl rfl
      clear hold hdep
      unfold Oper.wp
      go_simp
      exact ⟨_, rfl, rfl, Later.refl _⟩
    | 8 =>
      intro o ho
      simp only [List.getElem?_toArray, List.getElem?_cons_zero, List.getElem?_cons_succ, Option.some.injEq] at ho
      subst ho
      intro a W hl hold hdep
      refine ite_yes rfl ?_
      obtain ⟨_, h8, rfl⟩ := hdep 6 (by decide) (by decide) (by decide) _ _ rfl rfl
      clear hold hdep
      unfold Oper.wp
      go_simp
      exact ⟨_, rfl, rfl, Later.refl _⟩
    | 9 =>
      intro o ho
      simp only [List.getElem?_toArray, List.getElem?_cons_zero, List.getElem?_cons_succ, Option.some.injEq] at ho
      subst ho
      intro a W hl hold hdep
      refine ite_yes rfl ?_
      obtain ⟨_, h8, rfl⟩ := hdep 6 (by decide) (by decide) (by decide) _ _ rfl rfl
      clear hold hdep
      unfold Oper.wp
      go_simp
      exact ⟨_, rfl, rfl, Later.refl _⟩
    | 10 => exact absurd rfl him
    | 11 => exact absurd rfl his
    | 12 =>
      intro o ho
      simp only [List.getElem?_toArray, List.getElem?_cons_zero, List.getElem?_cons_succ, Option.some.injEq] at ho
      subst ho
      intro a W hl hold hdep
      refine ite_yes rfl ?_
      obtain ⟨_, h16, rfl⟩ := hdep 8 (by decide) (by decide) (by decide) _ _ rfl rfl
      clear hold hdep
      unfold Oper.wp
      go_simp
      exact ⟨_, rfl, rfl, Later.refl _⟩
    | 13 =>
      intro o ho
      simp only [List.getElem?_toArray, List.getElem?_cons_zero, List.getElem?_cons_succ, Option.some.injEq] at ho
      subst ho
      intro a W hl hold hdep
      refine ite_yes rfl ?_
      obtain ⟨_, h17, rfl⟩ := hdep 9 (by decide) (by decide) (by decide) _ _ rfl rfl
      clear hold hdep
      unfold Oper.wp
      go_simp
      exact ⟨_, rfl, rfl, Later.refl _⟩
    | k + 14 => exact absurd hi (by simp)
  · intro o ho
    simp only [List.getElem?_toArray, List.getElem?_cons_zero, List.getElem?_cons_succ, Option.some.injEq] at ho
    subst ho
    refine ⟨rfl, rfl, fun a W hl => ?_⟩
    unfold Oper.wp
    go_simp
    exact ⟨_, rfl, hl.size, RA.new _ _ _, (Later.refl _).put _⟩
  · intro o ho
    simp only [List.getElem?_toArray, List.getElem?_cons_zero, List.getElem?_cons_succ, Option.some.injEq] at ho
    subst ho
    refine ⟨rfl, rfl, fun a W g hl hd hg hr hdep => ?_⟩
    obtain ⟨_, h15, rfl⟩ := hdep 7 (by decide) (by decide) (by decide) _ _ rfl rfl
    have c0 := hr.cell 0 _ rfl
    have c1 := hr.cell 1 _ rfl
    have c2 := hr.cell 2 _ rfl
    have c3 := hr.cell 3 _ rfl
    have f0 := hr.froz 0
    have f1 := hr.froz 1
    have f2 := hr.froz 2
    have f3 := hr.froz 3
    clear hdep
    unfold Oper.wp
    go_simp
    exact ⟨later_set4 hl hg _ _ _ _, out4 _ _ _ _ _ _, hr.set4 _ _ _ _, trivial⟩
  · intro a W hl hd hz hold hall hbox
    obtain ⟨g2, cs2, k2, i2, r2, n2, b2⟩ := hbox
    have k0 : a.tmps[0]? = some (.bool false) := hold 0 (free_of (by kernel_rfl))
    have k1 : a.tmps[1]? = some (.pointer (some ⟨w1.heap.size, 0, none⟩)) := hold 1 (free_of (by kernel_rfl))
    obtain ⟨_, k3, rfl⟩ := hall 12 _ _ (by decide) (by decide) rfl rfl
    obtain ⟨_, k4, rfl⟩ := hall 13 _ _ (by decide) (by decide) rfl rfl
    have ha := act_eta a 44 [] hz hd
    rw [show (List.range 44).map (fun s => a.tmps.getD s undef) = [a.tmps.getD 0 undef, a.tmps.getD 1 undef, a.tmps.getD 2 undef, a.tmps.getD 3 undef, a.tmps.getD 4 undef, a.tmps.getD 5 undef, a.tmps.getD 6 undef, a.tmps.getD 7 undef, a.tmps.getD 8 undef, a.tmps.getD 9 undef, a.tmps.getD 10 undef, a.tmps.getD 11 undef, a.tmps.getD 12 undef, a.tmps.getD 13 undef, a.tmps.getD 14 undef, a.tmps.getD 15 undef, a.tmps.getD 16 undef, a.tmps.getD 17 undef, a.tmps.getD 18 undef, a.tmps.getD 19 undef, a.tmps.getD 20 undef, a.tmps.getD 21 undef, a.tmps.getD 22 undef, a.tmps.getD 23 undef, a.tmps.getD 24 undef, a.tmps.getD 25 undef, a.tmps.getD 26 undef, a.tmps.getD 27 undef, a.tmps.getD 28 undef, a.tmps.getD 29 undef, a.tmps.getD 30 undef, a.tmps.getD 31 undef, a.tmps.getD 32 undef, a.tmps.getD 33 undef, a.tmps.getD 34 undef, a.tmps.getD 35 undef, a.tmps.getD 36 undef, a.tmps.getD 37 undef, a.tmps.getD 38 undef, a.tmps.getD 39 undef, a.tmps.getD 40 undef, a.tmps.getD 41 undef, a.tmps.getD 42 undef, a.tmps.getD 43 undef] from rfl, getD_of k0, getD_of k1, getD_of k2, getD_of k3, getD_of k4] at ha
    try dsimp only at ha
    rw [ha]
    clear hall hold hz hd ha k0 k1 k2 k3 k4
    generalize a.tmps.getD 5 undef = x5
    generalize a.tmps.getD 6 undef = x6
    generalize a.tmps.getD 7 undef = x7
    generalize a.tmps.getD 8 undef = x8
    generalize a.tmps.getD 9 undef = x9
    generalize a.tmps.getD 10 undef = x10
    generalize a.tmps.getD 11 undef = x11
    generalize a.tmps.getD 12 undef = x12
    generalize a.tmps.getD 13 undef = x13
    generalize a.tmps.getD 14 undef = x14
    generalize a.tmps.getD 15 undef = x15
    generalize a.tmps.getD 16 undef = x16
    generalize a.tmps.getD 17 undef = x17
    generalize a.tmps.getD 18 undef = x18
    generalize a.tmps.getD 19 undef = x19
    generalize a.tmps.getD 20 undef = x20
    generalize a.tmps.getD 21 undef = x21
    generalize a.tmps.getD 22 undef = x22
    generalize a.tmps.getD 23 undef = x23
    generalize a.tmps.getD 24 undef = x24
    generalize a.tmps.getD 25 undef = x25
    generalize a.tmps.getD 26 undef = x26
    generalize a.tmps.getD 27 undef = x27
    generalize a.tmps.getD 28 undef = x28
    generalize a.tmps.getD 29 undef = x29
    generalize a.tmps.getD 30 undef = x30
    generalize a.tmps.getD 31 undef = x31
    generalize a.tmps.getD 32 undef = x32
    generalize a.tmps.getD 33 undef = x33
    generalize a.tmps.getD 34 undef = x34
    generalize a.tmps.getD 35 undef = x35
    generalize a.tmps.getD 36 undef = x36
    generalize a.tmps.getD 37 undef = x37
    generalize a.tmps.getD 38 undef = x38
    generalize a.tmps.getD 39 undef = x39
    generalize a.tmps.getD 40 undef = x40
    generalize a.tmps.getD 41 undef = x41
    generalize a.tmps.getD 42 undef = x42
    generalize a.tmps.getD 43 undef = x43
    subst b2
    have HG3 := Lib.hid (gtrans HL2.out hl)
    have HLx := Lib.hid (HLd.out.grown hl)
    have HA3 := Lib.hid (HA2.out.later hl)
    have HZ3 := Lib.hid (HZn.out _ _ HA3.out)
    have HR3 := Lib.hid r2
    clear r2 n2 hl
    go_wp2_with (refine Conf.load_zn Conf.pc.z rfl (.tmp 19) rfl w1.heap.size 13 rfl HZ3.out ?_)
    refine (KM.out _ HLx.out).mono ?_
    rintro e w4 ⟨rfl, hg4⟩
    have HG4 := Lib.hid (gtrans HG3.out hg4)
    have R4 := HR3.out.later hg4
    have c0 := R4.cell 0 _ rfl
    have c1 := R4.cell 1 _ rfl
    have c2 := R4.cell 2 _ rfl
    have c3 := R4.cell 3 _ rfl
    have heq := run_eql 1063842960 1063843560 2 0
    clear R4 hg4
    go_wp2_with fail
    go_ret
    exact ⟨rfl, gtrans HG1.out HG4.out⟩

end Go.Proofs.YtmlnlkfdbbnkbaaGreatDoor.Window

/- The arguments of the laws: pairs of days under a configuration and a window. No condition but those that each theorem states. -/
namespace Go.Proofs.YtmlnlkfdbbnkbaaGreatDoor.Window
set_option maxRecDepth 100000
set_option maxRecDepth 100000
open Go.ChangeShapes Go.WideShapes Go.ChangeAt Go.RowKit
open Go.Proofs.YtmlnlkfdbbnkbaaGreatDoor.Divs Go.Proofs.YtmlnlkfdbbnkbaaGreatDoor.Grow
open Go.Proofs.YtmlnlkfdbbnkbaaGreatDoor.Greg (Laid)
open Go.Proofs.YtmlnlkfdbbnkbaaGreatDoor.Zo Go.Proofs.YtmlnlkfdbbnkbaaGreatDoor.Zone Go.Proofs.YtmlnlkfdbbnkbaaGreatDoor.Win
open Go.Proofs.YtmlnlkfdbbnkbaaGreatDoor.Cf (Cg Wn ce wo)
open Go.Proofs.YtmlnlkfdbbnkbaaGreatDoor.Conf
open Go.Proofs.YtmlnlkfdbbnkbaaGreatDoor.Fe (kd rst)
open Go.Proofs.YtmlnlkfdbbnkbaaGreatDoor.Su (mV mE sk sa)

open Go.Proofs.YtmlnlkfdbbnkbaaGreatDoor.By (Sk)

/-- The cells of a configuration, a window, and two numbers. -/
def tw (D : Array Value) (x : Wn) (a b : Int) : Array Value := (D.toList ++ (wc x ++ [Value.int .i64 a, Value.int .i64 b])).toArray

theorem cellsQ : Tryz.prog.cellsOf 61 = 46 := by kernel_rfl

section
variable {H : Type} {enc : TypeId × Value → H} {w : World} {base : Nat} {spare : Nat → Bool} {held : Bool}

theorem cfg_cells {n : Nat} {l : List Value} (hl : l.length = 37) {x : DataW H × List MemPlace} (h : DataW.trod enc Tryz.prog w base spare held n 33 l = some x) :
    ∃ (c : Cg) (u v : Value), l = (cc c u v).toList ∧ Sk .i64 w u c.st ∧ Wk w v c.ws := by
  obtain ⟨c0, c1, c2, c3, c4, c5, c6, c7, c8, c9, c10, c11, c12, c13, c14, c15, c16, c17, c18, c19, c20, c21, c22, c23, c24, c25, c26, c27, c28, c29, c30, c31, c32, c33, c34, c35, c36, rfl⟩ := list37 l hl
  obtain ⟨n0, y0, h0⟩ := Conf.part Tryz.underlying33 h 0 _ rfl
  obtain ⟨n1, y1, h1⟩ := Conf.part Tryz.underlying33 h 1 _ rfl
  obtain ⟨n2, y2, h2⟩ := Conf.part Tryz.underlying33 h 2 _ rfl
  obtain ⟨n3, y3, h3⟩ := Conf.part Tryz.underlying33 h 3 _ rfl
  obtain ⟨n4, y4, h4⟩ := Conf.part Tryz.underlying33 h 4 _ rfl
  obtain ⟨n5, y5, h5⟩ := Conf.part Tryz.underlying33 h 5 _ rfl
  obtain ⟨n6, y6, h6⟩ := Conf.part Tryz.underlying33 h 6 _ rfl
  obtain ⟨n7, y7, h7⟩ := Conf.part Tryz.underlying33 h 7 _ rfl
  obtain ⟨n8, y8, h8⟩ := Conf.part Tryz.underlying33 h 8 _ rfl
  obtain ⟨n9, y9, h9⟩ := Conf.part Tryz.underlying33 h 9 _ rfl
  obtain ⟨n10, y10, h10⟩ := Conf.part Tryz.underlying33 h 10 _ rfl
  simp [cellsI] at h0
  simp [cellsI] at h1
  simp [cellsI] at h2
  simp [cellsL] at h3
  simp [cellsT] at h4
  simp [cellsI] at h5
  simp [cellsI] at h6
  simp [cellsZ] at h7
  simp [cellsS] at h8
  simp [cellsB] at h9
  simp [cellsV] at h10
  obtain ⟨a0, rfl⟩ := cell_int h0
  obtain ⟨a1, rfl⟩ := cell_int h1
  obtain ⟨a2, rfl⟩ := cell_int h2
  obtain ⟨st, hs⟩ := open_st h3
  obtain ⟨t0, t1, t2, t3, t4, t5, t6, rfl, rfl, rfl, rfl, rfl, rfl, rfl⟩ := open_times h4
  obtain ⟨a5, rfl⟩ := cell_int h5
  obtain ⟨a6, rfl⟩ := cell_int h6
  obtain ⟨z, rfl, rfl, rfl, rfl, rfl, rfl, rfl, rfl, rfl, rfl⟩ := open_zone h7
  obtain ⟨s, rfl, rfl, rfl, rfl, rfl, rfl, rfl, rfl, rfl, rfl, rfl, rfl⟩ := open_sn h8
  obtain ⟨ab, rfl⟩ := cell_bool h9
  obtain ⟨ws, hw⟩ := open_wins h10
  exact ⟨⟨a0, a1, a2, st, t0, t1, t2, t3, t4, t5, t6, a5, a6, z, s, ab, ws⟩, _, _, rfl, hs, hw⟩

theorem open_two {r : Reach} {b0 : Nat} {v : Value} {d : DataW H} {p : List MemPlace} (hv : Value.okWide Tryz.prog w r b0 61 v) (h : DataW.Trod enc Tryz.prog w base spare held 61 v d p) :
    ∃ (c : Cg) (u y : Value) (x : Wn) (a b : Int), (-9223372036854775808 ≤ a ∧ a ≤ 9223372036854775807) ∧ (-9223372036854775808 ≤ b ∧ b ≤ 9223372036854775807) ∧ v = .agg (tw (cc c u y) x a b) ∧ Sk .i64 w u c.st ∧ Wk w y c.ws := by
  obtain ⟨cs, rfl, hsz⟩ := okWide_struct Tryz.underlying61 hv
  obtain ⟨l⟩ := cs
  have hl : l.length = 46 := hsz.trans cellsQ
  obtain ⟨fuel, hf⟩ := h
  obtain ⟨n0, y0, h0⟩ := Conf.part Tryz.underlying61 hf 0 _ rfl
  obtain ⟨n1, y1, h1⟩ := Conf.part Tryz.underlying61 hf 1 _ rfl
  obtain ⟨n2, y2, h2⟩ := Conf.part Tryz.underlying61 hf 2 _ rfl
  obtain ⟨n3, y3, h3⟩ := Conf.part Tryz.underlying61 hf 3 _ rfl
  simp [cellsC, Value.cells] at h0
  simp [cellsW, Value.cells] at h1
  simp [cellsI, Value.cells] at h2 h3
  obtain ⟨c, u, y, e0, hs, hw⟩ := cfg_cells (by simp; omega) h0
  obtain ⟨c0, c1, c2, c3, c4, c5, c6, e1⟩ := list7 ((l.drop 37).take 7) (by simp; omega)
  rw [e1] at h1
  obtain ⟨a0, a1, a2, a3, a4, a5, a6, rfl, rfl, rfl, rfl, rfl, rfl, rfl⟩ := open_wn h1
  obtain ⟨a, e2, _, k2⟩ := DataW.trod_int Tryz.underlying3 h2
  obtain ⟨b, e3, _, k3⟩ := DataW.trod_int Tryz.underlying3 h3
  refine ⟨c, u, y, ⟨a0, a1, a2, a3, a4, a5, a6⟩, a, b, bounds_i64 k2, bounds_i64 k3, ?_, hs, hw⟩
  have e : l = l.take 37 ++ ((l.drop 37).take 7 ++ ((l.drop 44).take 1 ++ (l.drop 45).take 1)) := by
    have q1 : l = l.take 37 ++ l.drop 37 := (List.take_append_drop 37 l).symm
    have q2 : l.drop 37 = (l.drop 37).take 7 ++ (l.drop 37).drop 7 := (List.take_append_drop 7 _).symm
    have q3 : l.drop 44 = (l.drop 44).take 1 ++ (l.drop 44).drop 1 := (List.take_append_drop 1 _).symm
    have q4 : l.drop 45 = (l.drop 45).take 1 := (List.take_of_length_le (by simp; omega)).symm
    rw [List.drop_drop] at q2 q3
    rw [← q4]
    exact q1.trans (congrArg _ (q2.trans (congrArg _ q3)))
  rw [e0, e1, e2, e3] at e
  rw [e]
  rfl

end

end Go.Proofs.YtmlnlkfdbbnkbaaGreatDoor.Window

/- Any minute's moment is the document's: the walk. Condition: the table of months lies where the program lays it. -/
namespace Go.Proofs.YtmlnlkfdbbnkbaaGreatDoor.Window
set_option maxRecDepth 100000
open Go.ChangeShapes Go.WideShapes Go.ChangeAt Go.RowKit
open Go.Proofs.YtmlnlkfdbbnkbaaGreatDoor.Divs Go.Proofs.YtmlnlkfdbbnkbaaGreatDoor.Grow
open Go.Proofs.YtmlnlkfdbbnkbaaGreatDoor.Greg (Laid)
open Go.Proofs.YtmlnlkfdbbnkbaaGreatDoor.Zo Go.Proofs.YtmlnlkfdbbnkbaaGreatDoor.Zone Go.Proofs.YtmlnlkfdbbnkbaaGreatDoor.Win
open Go.Proofs.YtmlnlkfdbbnkbaaGreatDoor.Cf (Cg Wn ce wo)
open Go.Proofs.YtmlnlkfdbbnkbaaGreatDoor.Conf (wc cc Is)
open Go.Proofs.YtmlnlkfdbbnkbaaGreatDoor.Fe (kd rst)
open Go.Proofs.YtmlnlkfdbbnkbaaGreatDoor.Su (mV mE sk sa)

theorem moments_zone (z : Zn) (d m : Int) (w : World) (hL : Laid w) (h : ¬ ck z = 0) : Calls Tryz.prog 4 #[.agg (zc z), .int .i64 d, .int .i64 m] w fun e w' => e = .returned (.bool true) ∧ Later w w' := by
  have M := Lib.hid (fun W (hW : Laid W) => moment_any z d m W hW)
  have hE : wE z d m = ck z := by unfold wE; rw [if_neg h]
  rw [show wV z d m = 0 by unfold wV; rw [if_neg (by rw [hE]; exact h)], hE] at M
  have e0 : (ck z == 0) = false := by simpa using h
  have e1 : (ck z != 0) = true := by simpa using h
  clear h hE
  have C := Lib.hid (fun W => Zone.rcheck_any z W)
  have K := Lib.hid (fun W => rday_any d W)
  have A := Lib.hid (fun W (hW : Laid W) => awake_any W hW)
  have HN := Lib.hid (Zat.new w z)
  have HW := Lib.hid ((Later.refl w).alloc (zc z) 28)
  have HL := Lib.hid (hL.grown HW.out)
  clear hL
  unfold zc
  go_enter Tryz.func4, Tryz.ntmps4
  go_wp2_with fail
  refine (M.out _ HL.out).mono ?_
  rintro e w1 ⟨rfl, hg1⟩
  have HG1 := Lib.hid hg1
  have HL1 := Lib.hid (HL.out.grown hg1)
  obtain ⟨k0, k1, k2, k3, k4, k5, k6, k7, k8, k9⟩ := HN.out.later hg1
  clear hg1
  go_wp2_with fail
  refine (C.out _).mono ?_
  rintro e w2 ⟨rfl, hg2⟩
  have HG2 := Lib.hid (gtrans HG1.out hg2)
  have HL2 := Lib.hid (HL1.out.grown hg2)
  clear k0 k1 k2 k3 k4 k5 k6 k7 k8 k9 hg2
  go_wp2_with fail
  refine (A.out _ HL2.out).mono ?_
  rintro e w4 ⟨rfl, hg4⟩
  have HG4 := Lib.hid (gtrans HG2.out hg4)
  clear hg4
  go_wp2_with fail
  go_ret
  exact ⟨rfl, gtrans HW.out HG4.out⟩

theorem moments_day (z : Zn) (d m : Int) (w : World) (hL : Laid w) (h : ck z = 0) (hd : ¬ (402 ≤ d ∧ d ≤ 3651990)) : Calls Tryz.prog 4 #[.agg (zc z), .int .i64 d, .int .i64 m] w fun e w' => e = .returned (.bool true) ∧ Later w w' := by
  have M := Lib.hid (fun W (hW : Laid W) => moment_any z d m W hW)
  have hE : wE z d m = 140 := by unfold wE; rw [if_pos h, if_neg (by omega)]
  rw [show wV z d m = 0 by unfold wV; rw [if_neg (by rw [hE]; omega)], hE] at M
  have e0 : (ck z == 0) = true := by simpa using h
  have e1 := wiB_not d 402 3651990 hd
  clear h hE hd
  have C := Lib.hid (fun W => Zone.rcheck_any z W)
  have K := Lib.hid (fun W => rday_any d W)
  have A := Lib.hid (fun W (hW : Laid W) => awake_any W hW)
  have HN := Lib.hid (Zat.new w z)
  have HW := Lib.hid ((Later.refl w).alloc (zc z) 28)
  have HL := Lib.hid (hL.grown HW.out)
  clear hL
  unfold zc
  go_enter Tryz.func4, Tryz.ntmps4
  go_wp2_with fail
  refine (M.out _ HL.out).mono ?_
  rintro e w1 ⟨rfl, hg1⟩
  have HG1 := Lib.hid hg1
  have HL1 := Lib.hid (HL.out.grown hg1)
  obtain ⟨k0, k1, k2, k3, k4, k5, k6, k7, k8, k9⟩ := HN.out.later hg1
  clear hg1
  go_wp2_with fail
  refine (C.out _).mono ?_
  rintro e w2 ⟨rfl, hg2⟩
  have HG2 := Lib.hid (gtrans HG1.out hg2)
  have HL2 := Lib.hid (HL1.out.grown hg2)
  clear k0 k1 k2 k3 k4 k5 k6 k7 k8 k9 hg2
  go_wp2_with fail
  refine (K.out _).mono ?_
  rintro e w3 ⟨rfl, rfl⟩
  go_wp2_with fail
  refine (A.out _ HL2.out).mono ?_
  rintro e w4 ⟨rfl, hg4⟩
  have HG4 := Lib.hid (gtrans HG2.out hg4)
  clear hg4
  go_wp2_with fail
  go_ret
  exact ⟨rfl, gtrans HW.out HG4.out⟩

theorem moments_low (z : Zn) (d m : Int) (w : World) (hL : Laid w) (h : ck z = 0) (hd : 402 ≤ d ∧ d ≤ 3651990) (hm : m < 0) : Calls Tryz.prog 4 #[.agg (zc z), .int .i64 d, .int .i64 m] w fun e w' => e = .returned (.bool true) ∧ Later w w' := by
  have M := Lib.hid (fun W (hW : Laid W) => moment_any z d m W hW)
  have hE : wE z d m = 140 := by unfold wE; rw [if_pos h, if_neg (by omega)]
  rw [show wV z d m = 0 by unfold wV; rw [if_neg (by rw [hE]; omega)], hE] at M
  have e0 : (ck z == 0) = true := by simpa using h
  have e1 := (wiB_iff d 402 3651990).2 hd
  have e2 : decide (m < 0) = true := by simpa using hm
  clear h hE hd hm
  have C := Lib.hid (fun W => Zone.rcheck_any z W)
  have K := Lib.hid (fun W => rday_any d W)
  have A := Lib.hid (fun W (hW : Laid W) => awake_any W hW)
  have HN := Lib.hid (Zat.new w z)
  have HW := Lib.hid ((Later.refl w).alloc (zc z) 28)
  have HL := Lib.hid (hL.grown HW.out)
  clear hL
  unfold zc
  go_enter Tryz.func4, Tryz.ntmps4
  go_wp2_with fail
  refine (M.out _ HL.out).mono ?_
  rintro e w1 ⟨rfl, hg1⟩
  have HG1 := Lib.hid hg1
  have HL1 := Lib.hid (HL.out.grown hg1)
  obtain ⟨k0, k1, k2, k3, k4, k5, k6, k7, k8, k9⟩ := HN.out.later hg1
  clear hg1
  go_wp2_with fail
  refine (C.out _).mono ?_
  rintro e w2 ⟨rfl, hg2⟩
  have HG2 := Lib.hid (gtrans HG1.out hg2)
  have HL2 := Lib.hid (HL1.out.grown hg2)
  clear k0 k1 k2 k3 k4 k5 k6 k7 k8 k9 hg2
  go_wp2_with fail
  refine (K.out _).mono ?_
  rintro e w3 ⟨rfl, rfl⟩
  go_wp2_with fail
  refine (A.out _ HL2.out).mono ?_
  rintro e w4 ⟨rfl, hg4⟩
  have HG4 := Lib.hid (gtrans HG2.out hg4)
  clear hg4
  go_wp2_with fail
  go_ret
  exact ⟨rfl, gtrans HW.out HG4.out⟩

theorem moments_high (z : Zn) (d m : Int) (w : World) (hL : Laid w) (h : ck z = 0) (hd : 402 ≤ d ∧ d ≤ 3651990) (hm : 0 ≤ m) (hm2 : 1439 < m) : Calls Tryz.prog 4 #[.agg (zc z), .int .i64 d, .int .i64 m] w fun e w' => e = .returned (.bool true) ∧ Later w w' := by
  have M := Lib.hid (fun W (hW : Laid W) => moment_any z d m W hW)
  have hE : wE z d m = 140 := by unfold wE; rw [if_pos h, if_neg (by omega)]
  rw [show wV z d m = 0 by unfold wV; rw [if_neg (by rw [hE]; omega)], hE] at M
  have e0 : (ck z == 0) = true := by simpa using h
  have e1 := (wiB_iff d 402 3651990).2 hd
  have e2 : decide (m < 0) = false := by simpa using hm
  have e3 : decide (m > 1439) = true := by simpa using hm2
  clear h hE hd hm hm2
  have C := Lib.hid (fun W => Zone.rcheck_any z W)
  have K := Lib.hid (fun W => rday_any d W)
  have A := Lib.hid (fun W (hW : Laid W) => awake_any W hW)
  have HN := Lib.hid (Zat.new w z)
  have HW := Lib.hid ((Later.refl w).alloc (zc z) 28)
  have HL := Lib.hid (hL.grown HW.out)
  clear hL
  unfold zc
  go_enter Tryz.func4, Tryz.ntmps4
  go_wp2_with fail
  refine (M.out _ HL.out).mono ?_
  rintro e w1 ⟨rfl, hg1⟩
  have HG1 := Lib.hid hg1
  have HL1 := Lib.hid (HL.out.grown hg1)
  obtain ⟨k0, k1, k2, k3, k4, k5, k6, k7, k8, k9⟩ := HN.out.later hg1
  clear hg1
  go_wp2_with fail
  refine (C.out _).mono ?_
  rintro e w2 ⟨rfl, hg2⟩
  have HG2 := Lib.hid (gtrans HG1.out hg2)
  have HL2 := Lib.hid (HL1.out.grown hg2)
  clear k0 k1 k2 k3 k4 k5 k6 k7 k8 k9 hg2
  go_wp2_with fail
  refine (K.out _).mono ?_
  rintro e w3 ⟨rfl, rfl⟩
  go_wp2_with fail
  refine (A.out _ HL2.out).mono ?_
  rintro e w4 ⟨rfl, hg4⟩
  have HG4 := Lib.hid (gtrans HG2.out hg4)
  clear hg4
  go_wp2_with fail
  go_ret
  exact ⟨rfl, gtrans HW.out HG4.out⟩

theorem moments_yes (z : Zn) (d m : Int) (w : World) (hL : Laid w) (h : wE z d m = 0) : Calls Tryz.prog 4 #[.agg (zc z), .int .i64 d, .int .i64 m] w fun e w' => e = .returned (.bool true) ∧ Later w w' := by
  have M := Lib.hid (fun W (hW : Laid W) => moment_any z d m W hW)
  obtain ⟨hz, d0, d1, m0, m1⟩ := (wE_ok z d m).1 h
  rw [show wV z d m = mv z (d * 1440 + m) by unfold wV; rw [if_pos h], h] at M
  have R := Lib.hid (fun W => rmoment_at z d m W hz d0 d1 m0 m1)
  have e0 : (ck z == 0) = true := by simpa using (ck_may z).2 hz
  have e4 : (ck z != 0) = false := by simpa using (ck_may z).2 hz
  have e1 := (wiB_iff d 402 3651990).2 ⟨d0, d1⟩
  have e2 : decide (m < 0) = false := by simpa using m0
  have e3 : decide (m > 1439) = false := by simp; omega
  clear h hz d0 d1 m0 m1
  generalize mv z (d * 1440 + m) = v at *
  have C := Lib.hid (fun W => Zone.rcheck_any z W)
  have K := Lib.hid (fun W => rday_any d W)
  have A := Lib.hid (fun W (hW : Laid W) => awake_any W hW)
  have HN := Lib.hid (Zat.new w z)
  have HW := Lib.hid ((Later.refl w).alloc (zc z) 28)
  have HL := Lib.hid (hL.grown HW.out)
  clear hL
  unfold zc
  go_enter Tryz.func4, Tryz.ntmps4
  go_wp2_with fail
  refine (M.out _ HL.out).mono ?_
  rintro e w1 ⟨rfl, hg1⟩
  have HG1 := Lib.hid hg1
  have HL1 := Lib.hid (HL.out.grown hg1)
  obtain ⟨k0, k1, k2, k3, k4, k5, k6, k7, k8, k9⟩ := HN.out.later hg1
  clear hg1
  go_wp2_with fail
  refine (C.out _).mono ?_
  rintro e w2 ⟨rfl, hg2⟩
  have HG2 := Lib.hid (gtrans HG1.out hg2)
  have HL2 := Lib.hid (HL1.out.grown hg2)
  clear k0 k1 k2 k3 k4 k5 k6 k7 k8 k9 hg2
  go_wp2_with fail
  refine (K.out _).mono ?_
  rintro e w3 ⟨rfl, rfl⟩
  go_wp2_with fail
  refine (A.out _ HL2.out).mono ?_
  rintro e w4 ⟨rfl, hg4⟩
  have HG4 := Lib.hid (gtrans HG2.out hg4)
  obtain ⟨k0, k1, k2, k3, k4, k5, k6, k7, k8, k9⟩ := HN.out.later HG4.out
  clear hg4
  go_wp2_with fail
  refine (R.out _).mono ?_
  rintro e w5 ⟨rfl, hg5⟩
  have HG5 := Lib.hid (gtrans HG4.out hg5)
  clear k0 k1 k2 k3 k4 k5 k6 k7 k8 k9 hg5
  go_wp2_with fail
  go_ret
  exact ⟨rfl, gtrans HW.out HG5.out⟩

theorem moments_core (w : World) (hL : Laid w) (z : Zn) (d : Int) (_ : -9223372036854775808 ≤ d ∧ d ≤ 9223372036854775807) (m : Int) (_ : -9223372036854775808 ≤ m ∧ m ≤ 9223372036854775807) : Calls Tryz.prog 4 #[.agg (zc z), .int .i64 d, .int .i64 m] w fun e w' => e = .returned (.bool true) ∧ Later w w' := by
  by_cases h : ck z = 0
  · by_cases hd : 402 ≤ d ∧ d ≤ 3651990
    · by_cases hm : m < 0
      · exact moments_low z d m w hL h hd hm
      · by_cases hm2 : 1439 < m
        · exact moments_high z d m w hL h hd (by omega) hm2
        · exact moments_yes z d m w hL ((wE_ok z d m).2 ⟨(ck_may z).1 h, hd.1, hd.2, by omega, by omega⟩)
    · exact moments_day z d m w hL h hd
  · exact moments_zone z d m w hL h

end Go.Proofs.YtmlnlkfdbbnkbaaGreatDoor.Window

/- At a minute's moment clocks tell it, for the first time: the walk. Condition: the table of months lies where the program lays it. -/
namespace Go.Proofs.YtmlnlkfdbbnkbaaGreatDoor.Window
set_option maxRecDepth 100000
open Go.ChangeShapes Go.WideShapes Go.ChangeAt Go.RowKit
open Go.Proofs.YtmlnlkfdbbnkbaaGreatDoor.Divs Go.Proofs.YtmlnlkfdbbnkbaaGreatDoor.Grow
open Go.Proofs.YtmlnlkfdbbnkbaaGreatDoor.Greg (Laid)
open Go.Proofs.YtmlnlkfdbbnkbaaGreatDoor.Zo Go.Proofs.YtmlnlkfdbbnkbaaGreatDoor.Zone Go.Proofs.YtmlnlkfdbbnkbaaGreatDoor.Win
open Go.Proofs.YtmlnlkfdbbnkbaaGreatDoor.Cf (Cg Wn ce wo)
open Go.Proofs.YtmlnlkfdbbnkbaaGreatDoor.Conf (wc cc Is)
open Go.Proofs.YtmlnlkfdbbnkbaaGreatDoor.Fe (kd rst)
open Go.Proofs.YtmlnlkfdbbnkbaaGreatDoor.Su (mV mE sk sa)

theorem local_at (z : Zn) (t n : Int) (hm : May z) (h0 : 576000 ≤ t) (h1 : t ≤ 5258879999) (hn : td z t = n) (w : World) (hL : Laid w) : Calls Tryz.prog 19 #[.agg (zc z), .int .i64 t] w fun e w' => e = .returned (.tuple #[.int .i64 (n / 1440), .int .i64 (n % 1440), .int .i64 0]) ∧ Later w w' := by
  have E := (sE_ok z t).2 ⟨hm, h0, h1⟩
  have := Zone.local_any z t w hL
  rw [show lD z t = n / 1440 by unfold lD; rw [if_pos E, hn], show lM z t = n % 1440 by unfold lM; rw [if_pos E, hn], E] at this
  exact this

theorem inst_head (z : Zn) (d m v : Int) (r : List Int) (w : World) (hL : Laid w) (hE : iE z d m = 0) (h : ins z (d * 1440 + m) = v :: r) :
    Calls Tryz.prog 20 #[.agg (zc z), .int .i64 d, .int .i64 m] w fun e w' => ∃ g len cap, e = .returned (.tuple #[.slice (some ⟨g, 0, none⟩) (len + 1) cap, .int .i64 0]) ∧ w'.cell? ⟨g, 0, none⟩ = some (.int .i64 v) ∧ Later w w' ∧ len ≤ 10 := by
  refine (instants_any z d m w hL).mono ?_
  rintro e w' ⟨u, rfl, hs, hg⟩
  rw [show iL z d m = v :: r by unfold iL; rw [if_pos hE, h]] at hs
  have hr : r.length ≤ 10 := by
    have : (ins z (d * 1440 + m)).length ≤ 2 := by unfold ins; split <;> split <;> simp
    rw [h] at this
    simp at this
    omega
  rcases hs with ⟨hs, _⟩ | ⟨g, cap, rfl, hc⟩
  · cases hs
  · rw [hE]
    exact ⟨g, r.length, cap, rfl, hc 0 v rfl, hg, hr⟩

theorem inst_bare (z : Zn) (d m : Int) (w : World) (hL : Laid w) (hE : iE z d m = 0) (h : ins z (d * 1440 + m) = []) :
    Calls Tryz.prog 20 #[.agg (zc z), .int .i64 d, .int .i64 m] w fun e w' => ∃ a cap, e = .returned (.tuple #[.slice a 0 cap, .int .i64 0]) ∧ Later w w' := by
  refine (instants_any z d m w hL).mono ?_
  rintro e w' ⟨u, rfl, hs, hg⟩
  rw [show iL z d m = [] by unfold iL; rw [if_pos hE, h]] at hs
  rw [hE]
  rcases hs with ⟨_, rfl⟩ | ⟨g, cap, rfl, hc⟩
  · exact ⟨none, 0, rfl, hg⟩
  · exact ⟨_, cap, rfl, hg⟩

set_option maxHeartbeats 1000000 in
theorem first_no (z : Zn) (d m : Int) (w : World) (hL : Laid w) (h : ¬ wE z d m = 0) : Calls Tryz.prog 5 #[.agg (zc z), .int .i64 d, .int .i64 m] w fun e w' => e = .returned (.bool true) ∧ Later w w' := by
  have M := Lib.hid (fun W (hW : Laid W) => moment_any z d m W hW)
  rw [show wV z d m = 0 by unfold wV; rw [if_neg h]] at M
  have e0 : (wE z d m != 0) = true := by simpa using h
  clear h
  generalize wE z d m = k at *
  have A := Lib.hid (fun W (hW : Laid W) => awake_any W hW)
  have HN := Lib.hid (Zat.new w z)
  have HW := Lib.hid ((Later.refl w).alloc (zc z) 28)
  have HL := Lib.hid (hL.grown HW.out)
  clear hL
  unfold zc
  go_enter Tryz.func5, Tryz.ntmps5
  go_wp2_with fail
  refine (M.out _ HL.out).mono ?_
  rintro e w1 ⟨rfl, hg1⟩
  have HG1 := Lib.hid (hg1)
  have HL1 := Lib.hid (HL.out.grown hg1)
  clear hg1
  go_wp2_with fail
  refine (A.out _ HL1.out).mono ?_
  rintro e w2 ⟨rfl, hg2⟩
  have HG2 := Lib.hid (gtrans HG1.out hg2)
  have HL2 := Lib.hid (HL1.out.grown hg2)
  clear hg2
  go_wp2_with fail
  go_ret
  exact ⟨rfl, gtrans HW.out HG2.out⟩

set_option maxHeartbeats 1000000 in
theorem first_told0 (z : Zn) (d m : Int) (w : World) (hL : Laid w) (h : wE z d m = 0) (r : List Int) (hi : ins z (d * 1440 + m) = mv z (d * 1440 + m) :: r) (ht : td z (mv z (d * 1440 + m)) = d * 1440 + m) (h0 : m = 0) : Calls Tryz.prog 5 #[.agg (zc z), .int .i64 d, .int .i64 m] w fun e w' => e = .returned (.bool true) ∧ Later w w' := by
  obtain ⟨hz, d0, d1, m0, m1⟩ := (wE_ok z d m).1 h
  have M := fun W (hW : Laid W) => moment_any z d m W hW
  rw [show wV z d m = mv z (d * 1440 + m) by unfold wV; rw [if_pos h], h] at M
  have hE : iE z d m = 0 := (iE_ok z d m).2 ⟨hz, by omega, by omega, by omega, by omega⟩
  have I := Lib.hid (fun W (hW : Laid W) => inst_head z d m _ r W hW hE hi)
  have hz' := hz
  unfold May at hz'
  obtain ⟨_, _, s0, s1, _⟩ := hz'
  have vb := mv_bd z hz (d * 1440 + m) (by omega) (by omega)
  have L1 := fun W (hW : Laid W) => local_at z (mv z (d * 1440 + m)) _ hz (by omega) (by omega) rfl W hW
  have L2 := fun W (hW : Laid W) => local_at z (mv z (d * 1440 + m) - 1) _ hz (by omega) (by omega) rfl W hW
  have t1 := td_cases z (mv z (d * 1440 + m))
  have t2 := td_cases z (mv z (d * 1440 + m) - 1)
  have p0 : 0 ≤ td z (mv z (d * 1440 + m)) ∧ td z (mv z (d * 1440 + m)) ≤ 6000000000 := by unfold May at hz; omega
  have q0 : 0 ≤ td z (mv z (d * 1440 + m) - 1) ∧ td z (mv z (d * 1440 + m) - 1) ≤ 6000000000 := by unfold May at hz; omega
  clear t1 t2 hz h hi hE
  generalize td z (mv z (d * 1440 + m) - 1) = q at *
  generalize hp : td z (mv z (d * 1440 + m)) = p at *
  clear hp
  generalize mv z (d * 1440 + m) = v at *
  have ha : p / 1440 * 1440 + p % 1440 = p ∧ 0 ≤ p / 1440 ∧ p / 1440 ≤ 5000000 ∧ 0 ≤ p % 1440 ∧ p % 1440 ≤ 1439 := by omega
  have hx : q / 1440 * 1440 + q % 1440 = q ∧ 0 ≤ q / 1440 ∧ q / 1440 ≤ 5000000 ∧ 0 ≤ q % 1440 ∧ q % 1440 ≤ 1439 := by omega
  generalize p / 1440 = a at *
  generalize p % 1440 = b at *
  generalize q / 1440 = x at *
  generalize q % 1440 = y at *
  obtain ⟨ha, a0, a1, b0, b1⟩ := ha
  obtain ⟨hx, x0, x1, y0, y1⟩ := hx
  have e1 : (a * 1440 + b != d * 1440 + m) = false := by simp; omega
  have e4 : (m == 0) = true := by simpa using h0
  have v0 : 500000 ≤ v ∧ v ≤ 6000000000 := by omega
  have HM := Lib.hid M
  have HL1' := Lib.hid L1
  have HL2' := Lib.hid L2
  clear M L1 L2 ht p0 q0 ha hx vb h0
  have A := Lib.hid (fun W (hW : Laid W) => awake_any W hW)
  have HN := Lib.hid (Zat.new w z)
  have HW := Lib.hid ((Later.refl w).alloc (zc z) 28)
  have HL := Lib.hid (hL.grown HW.out)
  clear hL
  unfold zc
  go_enter Tryz.func5, Tryz.ntmps5
  go_wp2_with fail
  refine (HM.out _ HL.out).mono ?_
  rintro e w1 ⟨rfl, hg1⟩
  have HG1 := Lib.hid (hg1)
  have HL1 := Lib.hid (HL.out.grown hg1)
  obtain ⟨k0, k1, k2, k3, k4, k5, k6, k7, k8, k9⟩ := HN.out.later HG1.out
  clear hg1
  go_wp2_with fail
  refine (HL1'.out _ HL1.out).mono ?_
  rintro e w2 ⟨rfl, hg2⟩
  have HG2 := Lib.hid (gtrans HG1.out hg2)
  have HL2 := Lib.hid (HL1.out.grown hg2)
  clear k0 k1 k2 k3 k4 k5 k6 k7 k8 k9
  obtain ⟨k0, k1, k2, k3, k4, k5, k6, k7, k8, k9⟩ := HN.out.later HG2.out
  clear hg2
  go_wp2_with fail
  refine (HL2'.out _ HL2.out).mono ?_
  rintro e w3 ⟨rfl, hg3⟩
  have HG3 := Lib.hid (gtrans HG2.out hg3)
  have HL3 := Lib.hid (HL2.out.grown hg3)
  clear k0 k1 k2 k3 k4 k5 k6 k7 k8 k9
  obtain ⟨k0, k1, k2, k3, k4, k5, k6, k7, k8, k9⟩ := HN.out.later HG3.out
  clear hg3
  go_wp2_with fail
  refine (I.out _ HL3.out).mono ?_
  rintro e w4 ⟨g, len, cap, rfl, hc, hg4, hl⟩
  have HG4 := Lib.hid (gtrans HG3.out hg4)
  have HL4 := Lib.hid (HL3.out.grown hg4)
  clear k0 k1 k2 k3 k4 k5 k6 k7 k8 k9
  obtain ⟨k0, k1, k2, k3, k4, k5, k6, k7, k8, k9⟩ := HN.out.later HG4.out
  clear hg4
  have e7 : (((len + 1 : Nat) : Int) == 0) = false := by simp; omega
  have e8 : ((len : Int) + 1 == 0) = false := by simp; omega
  go_wp2_with fail
  refine (A.out _ HL4.out).mono ?_
  rintro e w5 ⟨rfl, hg5⟩
  have HG5 := Lib.hid (gtrans HG4.out hg5)
  have HL5 := Lib.hid (HL4.out.grown hg5)
  clear k0 k1 k2 k3 k4 k5 k6 k7 k8 k9
  clear hg5
  go_wp2_with fail
  go_ret
  exact ⟨rfl, gtrans HW.out HG5.out⟩

set_option maxHeartbeats 1000000 in
theorem first_told (z : Zn) (d m : Int) (w : World) (hL : Laid w) (h : wE z d m = 0) (r : List Int) (hi : ins z (d * 1440 + m) = mv z (d * 1440 + m) :: r) (ht : td z (mv z (d * 1440 + m)) = d * 1440 + m) (h0 : ¬ m = 0) : Calls Tryz.prog 5 #[.agg (zc z), .int .i64 d, .int .i64 m] w fun e w' => e = .returned (.bool true) ∧ Later w w' := by
  obtain ⟨hz, d0, d1, m0, m1⟩ := (wE_ok z d m).1 h
  have M := fun W (hW : Laid W) => moment_any z d m W hW
  rw [show wV z d m = mv z (d * 1440 + m) by unfold wV; rw [if_pos h], h] at M
  have hE : iE z d m = 0 := (iE_ok z d m).2 ⟨hz, by omega, by omega, by omega, by omega⟩
  have I := Lib.hid (fun W (hW : Laid W) => inst_head z d m _ r W hW hE hi)
  have hm1 : wE z d (m - 1) = 0 := (wE_ok z d (m - 1)).2 ⟨hz, d0, d1, by omega, by omega⟩
  have M2 := fun W (hW : Laid W) => moment_any z d (m - 1) W hW
  rw [show wV z d (m - 1) = mv z (d * 1440 + m - 1) by unfold wV; rw [if_pos hm1, show d * 1440 + (m - 1) = d * 1440 + m - 1 by omega], hm1] at M2
  have nx := mv_next z hz (d * 1440 + m) (by omega) (by omega)
  have ub := mv_bd z hz (d * 1440 + m - 1) (by omega) (by omega)
  generalize mv z (d * 1440 + m - 1) = u at *
  have hz' := hz
  unfold May at hz'
  obtain ⟨_, _, s0, s1, _⟩ := hz'
  have vb := mv_bd z hz (d * 1440 + m) (by omega) (by omega)
  have L1 := fun W (hW : Laid W) => local_at z (mv z (d * 1440 + m)) _ hz (by omega) (by omega) rfl W hW
  have L2 := fun W (hW : Laid W) => local_at z (mv z (d * 1440 + m) - 1) _ hz (by omega) (by omega) rfl W hW
  have t1 := td_cases z (mv z (d * 1440 + m))
  have t2 := td_cases z (mv z (d * 1440 + m) - 1)
  have p0 : 0 ≤ td z (mv z (d * 1440 + m)) ∧ td z (mv z (d * 1440 + m)) ≤ 6000000000 := by unfold May at hz; omega
  have q0 : 0 ≤ td z (mv z (d * 1440 + m) - 1) ∧ td z (mv z (d * 1440 + m) - 1) ≤ 6000000000 := by unfold May at hz; omega
  clear t1 t2 hz h hi hE
  clear hm1
  generalize td z (mv z (d * 1440 + m) - 1) = q at *
  generalize hp : td z (mv z (d * 1440 + m)) = p at *
  clear hp
  generalize mv z (d * 1440 + m) = v at *
  have ha : p / 1440 * 1440 + p % 1440 = p ∧ 0 ≤ p / 1440 ∧ p / 1440 ≤ 5000000 ∧ 0 ≤ p % 1440 ∧ p % 1440 ≤ 1439 := by omega
  have hx : q / 1440 * 1440 + q % 1440 = q ∧ 0 ≤ q / 1440 ∧ q / 1440 ≤ 5000000 ∧ 0 ≤ q % 1440 ∧ q % 1440 ≤ 1439 := by omega
  generalize p / 1440 = a at *
  generalize p % 1440 = b at *
  generalize q / 1440 = x at *
  generalize q % 1440 = y at *
  obtain ⟨ha, a0, a1, b0, b1⟩ := ha
  obtain ⟨hx, x0, x1, y0, y1⟩ := hx
  have e1 : (a * 1440 + b != d * 1440 + m) = false := by simp; omega
  have e4 : (m == 0) = false := by simpa using h0
  have e5 : decide (u ≤ v) = true := by simp; omega
  have e6 : decide (v - u ≤ 1 + z.s) = true := by simp; omega
  have HM2 := Lib.hid M2
  clear M2
  have v0 : 500000 ≤ v ∧ v ≤ 6000000000 := by omega
  have HM := Lib.hid M
  have HL1' := Lib.hid L1
  have HL2' := Lib.hid L2
  have u0 : 500000 ≤ u ∧ u ≤ 6000000000 := by omega
  clear M L1 L2 ht p0 q0 ha hx vb nx ub h0
  have A := Lib.hid (fun W (hW : Laid W) => awake_any W hW)
  have HN := Lib.hid (Zat.new w z)
  have HW := Lib.hid ((Later.refl w).alloc (zc z) 28)
  have HL := Lib.hid (hL.grown HW.out)
  clear hL
  unfold zc
  go_enter Tryz.func5, Tryz.ntmps5
  go_wp2_with fail
  refine (HM.out _ HL.out).mono ?_
  rintro e w1 ⟨rfl, hg1⟩
  have HG1 := Lib.hid (hg1)
  have HL1 := Lib.hid (HL.out.grown hg1)
  obtain ⟨k0, k1, k2, k3, k4, k5, k6, k7, k8, k9⟩ := HN.out.later HG1.out
  clear hg1
  go_wp2_with fail
  refine (HL1'.out _ HL1.out).mono ?_
  rintro e w2 ⟨rfl, hg2⟩
  have HG2 := Lib.hid (gtrans HG1.out hg2)
  have HL2 := Lib.hid (HL1.out.grown hg2)
  clear k0 k1 k2 k3 k4 k5 k6 k7 k8 k9
  obtain ⟨k0, k1, k2, k3, k4, k5, k6, k7, k8, k9⟩ := HN.out.later HG2.out
  clear hg2
  go_wp2_with fail
  refine (HL2'.out _ HL2.out).mono ?_
  rintro e w3 ⟨rfl, hg3⟩
  have HG3 := Lib.hid (gtrans HG2.out hg3)
  have HL3 := Lib.hid (HL2.out.grown hg3)
  clear k0 k1 k2 k3 k4 k5 k6 k7 k8 k9
  obtain ⟨k0, k1, k2, k3, k4, k5, k6, k7, k8, k9⟩ := HN.out.later HG3.out
  clear hg3
  go_wp2_with fail
  refine (I.out _ HL3.out).mono ?_
  rintro e w4 ⟨g, len, cap, rfl, hc, hg4, hl⟩
  have HG4 := Lib.hid (gtrans HG3.out hg4)
  have HL4 := Lib.hid (HL3.out.grown hg4)
  clear k0 k1 k2 k3 k4 k5 k6 k7 k8 k9
  obtain ⟨k0, k1, k2, k3, k4, k5, k6, k7, k8, k9⟩ := HN.out.later HG4.out
  clear hg4
  have e7 : (((len + 1 : Nat) : Int) == 0) = false := by simp; omega
  have e8 : ((len : Int) + 1 == 0) = false := by simp; omega
  go_wp2_with fail
  refine (HM2.out _ HL4.out).mono ?_
  rintro e w5 ⟨rfl, hg5⟩
  have HG5 := Lib.hid (gtrans HG4.out hg5)
  have HL5 := Lib.hid (HL4.out.grown hg5)
  clear k0 k1 k2 k3 k4 k5 k6 k7 k8 k9
  obtain ⟨k0, k1, k2, k3, k4, k5, k6, k7, k8, k9⟩ := HN.out.later HG5.out
  clear hg5
  go_wp2_with fail
  refine (A.out _ HL5.out).mono ?_
  rintro e w6 ⟨rfl, hg6⟩
  have HG6 := Lib.hid (gtrans HG5.out hg6)
  have HL6 := Lib.hid (HL5.out.grown hg6)
  clear k0 k1 k2 k3 k4 k5 k6 k7 k8 k9
  obtain ⟨k0, k1, k2, k3, k4, k5, k6, k7, k8, k9⟩ := HN.out.later HG6.out
  clear hg6
  go_wp2_with fail
  go_ret
  exact ⟨rfl, gtrans HW.out HG6.out⟩

set_option maxHeartbeats 1000000 in
theorem first_skip0 (z : Zn) (d m : Int) (w : World) (hL : Laid w) (h : wE z d m = 0) (hi : ins z (d * 1440 + m) = []) (ht : d * 1440 + m < td z (mv z (d * 1440 + m)) ∧ td z (mv z (d * 1440 + m)) ≤ d * 1440 + m + z.s ∧ td z (mv z (d * 1440 + m) - 1) < d * 1440 + m) (h0 : m = 0) : Calls Tryz.prog 5 #[.agg (zc z), .int .i64 d, .int .i64 m] w fun e w' => e = .returned (.bool true) ∧ Later w w' := by
  obtain ⟨hz, d0, d1, m0, m1⟩ := (wE_ok z d m).1 h
  have M := fun W (hW : Laid W) => moment_any z d m W hW
  rw [show wV z d m = mv z (d * 1440 + m) by unfold wV; rw [if_pos h], h] at M
  have hE : iE z d m = 0 := (iE_ok z d m).2 ⟨hz, by omega, by omega, by omega, by omega⟩
  have I := Lib.hid (fun W (hW : Laid W) => inst_bare z d m W hW hE hi)
  have hz' := hz
  unfold May at hz'
  obtain ⟨_, _, s0, s1, _⟩ := hz'
  have vb := mv_bd z hz (d * 1440 + m) (by omega) (by omega)
  have L1 := fun W (hW : Laid W) => local_at z (mv z (d * 1440 + m)) _ hz (by omega) (by omega) rfl W hW
  have L2 := fun W (hW : Laid W) => local_at z (mv z (d * 1440 + m) - 1) _ hz (by omega) (by omega) rfl W hW
  have t1 := td_cases z (mv z (d * 1440 + m))
  have t2 := td_cases z (mv z (d * 1440 + m) - 1)
  have p0 : 0 ≤ td z (mv z (d * 1440 + m)) ∧ td z (mv z (d * 1440 + m)) ≤ 6000000000 := by unfold May at hz; omega
  have q0 : 0 ≤ td z (mv z (d * 1440 + m) - 1) ∧ td z (mv z (d * 1440 + m) - 1) ≤ 6000000000 := by unfold May at hz; omega
  clear t1 t2 hz h hi hE
  generalize td z (mv z (d * 1440 + m) - 1) = q at *
  generalize hp : td z (mv z (d * 1440 + m)) = p at *
  clear hp
  generalize mv z (d * 1440 + m) = v at *
  have ha : p / 1440 * 1440 + p % 1440 = p ∧ 0 ≤ p / 1440 ∧ p / 1440 ≤ 5000000 ∧ 0 ≤ p % 1440 ∧ p % 1440 ≤ 1439 := by omega
  have hx : q / 1440 * 1440 + q % 1440 = q ∧ 0 ≤ q / 1440 ∧ q / 1440 ≤ 5000000 ∧ 0 ≤ q % 1440 ∧ q % 1440 ≤ 1439 := by omega
  generalize p / 1440 = a at *
  generalize p % 1440 = b at *
  generalize q / 1440 = x at *
  generalize q % 1440 = y at *
  obtain ⟨ha, a0, a1, b0, b1⟩ := ha
  obtain ⟨hx, x0, x1, y0, y1⟩ := hx
  have e1 : decide (a * 1440 + b ≤ d * 1440 + m) = false := by simp; omega
  have e2 : decide (a * 1440 + b > d * 1440 + m + z.s) = false := by simp; omega
  have e3 : decide (x * 1440 + y ≥ d * 1440 + m) = false := by simp; omega
  have e4 : (m == 0) = true := by simpa using h0
  have v0 : 500000 ≤ v ∧ v ≤ 6000000000 := by omega
  have HM := Lib.hid M
  have HL1' := Lib.hid L1
  have HL2' := Lib.hid L2
  clear M L1 L2 ht p0 q0 ha hx vb h0
  have A := Lib.hid (fun W (hW : Laid W) => awake_any W hW)
  have HN := Lib.hid (Zat.new w z)
  have HW := Lib.hid ((Later.refl w).alloc (zc z) 28)
  have HL := Lib.hid (hL.grown HW.out)
  clear hL
  unfold zc
  go_enter Tryz.func5, Tryz.ntmps5
  go_wp2_with fail
  refine (HM.out _ HL.out).mono ?_
  rintro e w1 ⟨rfl, hg1⟩
  have HG1 := Lib.hid (hg1)
  have HL1 := Lib.hid (HL.out.grown hg1)
  obtain ⟨k0, k1, k2, k3, k4, k5, k6, k7, k8, k9⟩ := HN.out.later HG1.out
  clear hg1
  go_wp2_with fail
  refine (HL1'.out _ HL1.out).mono ?_
  rintro e w2 ⟨rfl, hg2⟩
  have HG2 := Lib.hid (gtrans HG1.out hg2)
  have HL2 := Lib.hid (HL1.out.grown hg2)
  clear k0 k1 k2 k3 k4 k5 k6 k7 k8 k9
  obtain ⟨k0, k1, k2, k3, k4, k5, k6, k7, k8, k9⟩ := HN.out.later HG2.out
  clear hg2
  go_wp2_with fail
  refine (HL2'.out _ HL2.out).mono ?_
  rintro e w3 ⟨rfl, hg3⟩
  have HG3 := Lib.hid (gtrans HG2.out hg3)
  have HL3 := Lib.hid (HL2.out.grown hg3)
  clear k0 k1 k2 k3 k4 k5 k6 k7 k8 k9
  obtain ⟨k0, k1, k2, k3, k4, k5, k6, k7, k8, k9⟩ := HN.out.later HG3.out
  clear hg3
  go_wp2_with fail
  refine (I.out _ HL3.out).mono ?_
  rintro e w4 ⟨ad, cap, rfl, hg4⟩
  have HG4 := Lib.hid (gtrans HG3.out hg4)
  have HL4 := Lib.hid (HL3.out.grown hg4)
  clear k0 k1 k2 k3 k4 k5 k6 k7 k8 k9
  obtain ⟨k0, k1, k2, k3, k4, k5, k6, k7, k8, k9⟩ := HN.out.later HG4.out
  clear hg4
  go_wp2_with fail
  refine (A.out _ HL4.out).mono ?_
  rintro e w5 ⟨rfl, hg5⟩
  have HG5 := Lib.hid (gtrans HG4.out hg5)
  have HL5 := Lib.hid (HL4.out.grown hg5)
  clear k0 k1 k2 k3 k4 k5 k6 k7 k8 k9
  clear hg5
  go_wp2_with fail
  go_ret
  exact ⟨rfl, gtrans HW.out HG5.out⟩

set_option maxHeartbeats 1000000 in
theorem first_skip (z : Zn) (d m : Int) (w : World) (hL : Laid w) (h : wE z d m = 0) (hi : ins z (d * 1440 + m) = []) (ht : d * 1440 + m < td z (mv z (d * 1440 + m)) ∧ td z (mv z (d * 1440 + m)) ≤ d * 1440 + m + z.s ∧ td z (mv z (d * 1440 + m) - 1) < d * 1440 + m) (h0 : ¬ m = 0) : Calls Tryz.prog 5 #[.agg (zc z), .int .i64 d, .int .i64 m] w fun e w' => e = .returned (.bool true) ∧ Later w w' := by
  obtain ⟨hz, d0, d1, m0, m1⟩ := (wE_ok z d m).1 h
  have M := fun W (hW : Laid W) => moment_any z d m W hW
  rw [show wV z d m = mv z (d * 1440 + m) by unfold wV; rw [if_pos h], h] at M
  have hE : iE z d m = 0 := (iE_ok z d m).2 ⟨hz, by omega, by omega, by omega, by omega⟩
  have I := Lib.hid (fun W (hW : Laid W) => inst_bare z d m W hW hE hi)
  have hm1 : wE z d (m - 1) = 0 := (wE_ok z d (m - 1)).2 ⟨hz, d0, d1, by omega, by omega⟩
  have M2 := fun W (hW : Laid W) => moment_any z d (m - 1) W hW
  rw [show wV z d (m - 1) = mv z (d * 1440 + m - 1) by unfold wV; rw [if_pos hm1, show d * 1440 + (m - 1) = d * 1440 + m - 1 by omega], hm1] at M2
  have nx := mv_next z hz (d * 1440 + m) (by omega) (by omega)
  have ub := mv_bd z hz (d * 1440 + m - 1) (by omega) (by omega)
  generalize mv z (d * 1440 + m - 1) = u at *
  have hz' := hz
  unfold May at hz'
  obtain ⟨_, _, s0, s1, _⟩ := hz'
  have vb := mv_bd z hz (d * 1440 + m) (by omega) (by omega)
  have L1 := fun W (hW : Laid W) => local_at z (mv z (d * 1440 + m)) _ hz (by omega) (by omega) rfl W hW
  have L2 := fun W (hW : Laid W) => local_at z (mv z (d * 1440 + m) - 1) _ hz (by omega) (by omega) rfl W hW
  have t1 := td_cases z (mv z (d * 1440 + m))
  have t2 := td_cases z (mv z (d * 1440 + m) - 1)
  have p0 : 0 ≤ td z (mv z (d * 1440 + m)) ∧ td z (mv z (d * 1440 + m)) ≤ 6000000000 := by unfold May at hz; omega
  have q0 : 0 ≤ td z (mv z (d * 1440 + m) - 1) ∧ td z (mv z (d * 1440 + m) - 1) ≤ 6000000000 := by unfold May at hz; omega
  clear t1 t2 hz h hi hE
  clear hm1
  generalize td z (mv z (d * 1440 + m) - 1) = q at *
  generalize hp : td z (mv z (d * 1440 + m)) = p at *
  clear hp
  generalize mv z (d * 1440 + m) = v at *
  have ha : p / 1440 * 1440 + p % 1440 = p ∧ 0 ≤ p / 1440 ∧ p / 1440 ≤ 5000000 ∧ 0 ≤ p % 1440 ∧ p % 1440 ≤ 1439 := by omega
  have hx : q / 1440 * 1440 + q % 1440 = q ∧ 0 ≤ q / 1440 ∧ q / 1440 ≤ 5000000 ∧ 0 ≤ q % 1440 ∧ q % 1440 ≤ 1439 := by omega
  generalize p / 1440 = a at *
  generalize p % 1440 = b at *
  generalize q / 1440 = x at *
  generalize q % 1440 = y at *
  obtain ⟨ha, a0, a1, b0, b1⟩ := ha
  obtain ⟨hx, x0, x1, y0, y1⟩ := hx
  have e1 : decide (a * 1440 + b ≤ d * 1440 + m) = false := by simp; omega
  have e2 : decide (a * 1440 + b > d * 1440 + m + z.s) = false := by simp; omega
  have e3 : decide (x * 1440 + y ≥ d * 1440 + m) = false := by simp; omega
  have e4 : (m == 0) = false := by simpa using h0
  have e5 : decide (u ≤ v) = true := by simp; omega
  have e6 : decide (v - u ≤ 1 + z.s) = true := by simp; omega
  have HM2 := Lib.hid M2
  clear M2
  have v0 : 500000 ≤ v ∧ v ≤ 6000000000 := by omega
  have HM := Lib.hid M
  have HL1' := Lib.hid L1
  have HL2' := Lib.hid L2
  have u0 : 500000 ≤ u ∧ u ≤ 6000000000 := by omega
  clear M L1 L2 ht p0 q0 ha hx vb nx ub h0
  have A := Lib.hid (fun W (hW : Laid W) => awake_any W hW)
  have HN := Lib.hid (Zat.new w z)
  have HW := Lib.hid ((Later.refl w).alloc (zc z) 28)
  have HL := Lib.hid (hL.grown HW.out)
  clear hL
  unfold zc
  go_enter Tryz.func5, Tryz.ntmps5
  go_wp2_with fail
  refine (HM.out _ HL.out).mono ?_
  rintro e w1 ⟨rfl, hg1⟩
  have HG1 := Lib.hid (hg1)
  have HL1 := Lib.hid (HL.out.grown hg1)
  obtain ⟨k0, k1, k2, k3, k4, k5, k6, k7, k8, k9⟩ := HN.out.later HG1.out
  clear hg1
  go_wp2_with fail
  refine (HL1'.out _ HL1.out).mono ?_
  rintro e w2 ⟨rfl, hg2⟩
  have HG2 := Lib.hid (gtrans HG1.out hg2)
  have HL2 := Lib.hid (HL1.out.grown hg2)
  clear k0 k1 k2 k3 k4 k5 k6 k7 k8 k9
  obtain ⟨k0, k1, k2, k3, k4, k5, k6, k7, k8, k9⟩ := HN.out.later HG2.out
  clear hg2
  go_wp2_with fail
  refine (HL2'.out _ HL2.out).mono ?_
  rintro e w3 ⟨rfl, hg3⟩
  have HG3 := Lib.hid (gtrans HG2.out hg3)
  have HL3 := Lib.hid (HL2.out.grown hg3)
  clear k0 k1 k2 k3 k4 k5 k6 k7 k8 k9
  obtain ⟨k0, k1, k2, k3, k4, k5, k6, k7, k8, k9⟩ := HN.out.later HG3.out
  clear hg3
  go_wp2_with fail
  refine (I.out _ HL3.out).mono ?_
  rintro e w4 ⟨ad, cap, rfl, hg4⟩
  have HG4 := Lib.hid (gtrans HG3.out hg4)
  have HL4 := Lib.hid (HL3.out.grown hg4)
  clear k0 k1 k2 k3 k4 k5 k6 k7 k8 k9
  obtain ⟨k0, k1, k2, k3, k4, k5, k6, k7, k8, k9⟩ := HN.out.later HG4.out
  clear hg4
  go_wp2_with fail
  refine (HM2.out _ HL4.out).mono ?_
  rintro e w5 ⟨rfl, hg5⟩
  have HG5 := Lib.hid (gtrans HG4.out hg5)
  have HL5 := Lib.hid (HL4.out.grown hg5)
  clear k0 k1 k2 k3 k4 k5 k6 k7 k8 k9
  obtain ⟨k0, k1, k2, k3, k4, k5, k6, k7, k8, k9⟩ := HN.out.later HG5.out
  clear hg5
  go_wp2_with fail
  refine (A.out _ HL5.out).mono ?_
  rintro e w6 ⟨rfl, hg6⟩
  have HG6 := Lib.hid (gtrans HG5.out hg6)
  have HL6 := Lib.hid (HL5.out.grown hg6)
  clear k0 k1 k2 k3 k4 k5 k6 k7 k8 k9
  obtain ⟨k0, k1, k2, k3, k4, k5, k6, k7, k8, k9⟩ := HN.out.later HG6.out
  clear hg6
  go_wp2_with fail
  go_ret
  exact ⟨rfl, gtrans HW.out HG6.out⟩

theorem first_core (w : World) (hL : Laid w) (z : Zn) (d : Int) (_ : -9223372036854775808 ≤ d ∧ d ≤ 9223372036854775807) (m : Int) (_ : -9223372036854775808 ≤ m ∧ m ≤ 9223372036854775807) : Calls Tryz.prog 5 #[.agg (zc z), .int .i64 d, .int .i64 m] w fun e w' => e = .returned (.bool true) ∧ Later w w' := by
  by_cases h : wE z d m = 0
  · obtain ⟨hz, d0, d1, m0, m1⟩ := (wE_ok z d m).1 h
    rcases mv_told z hz (d * 1440 + m) (by omega) (by omega) with ⟨⟨r, hi⟩, ht⟩ | ⟨hi, ht⟩
    · by_cases h0 : m = 0
      · exact first_told0 z d m w hL h r hi ht h0
      · exact first_told z d m w hL h r hi ht h0
    · by_cases h0 : m = 0
      · exact first_skip0 z d m w hL h hi ht h0
      · exact first_skip z d m w hL h hi ht h0
  · exact first_no z d m w hL h

end Go.Proofs.YtmlnlkfdbbnkbaaGreatDoor.Window
