/-
  Texts of mine, merged: each part says what it holds. Conditions: as each theorem states.
-/
import Derived.Test.YtmlnlkfdbbnkbaaGreatDoorM17

/- Two windows about days of rest don't touch: the walk. Condition: the table of months lies where the program lays it. -/
namespace Go.Proofs.YtmlnlkfdbbnkbaaGreatDoor.Window
set_option maxRecDepth 100000
open Go.ChangeShapes Go.WideShapes Go.ChangeAt Go.RowKit
open Go.Proofs.YtmlnlkfdbbnkbaaGreatDoor.Divs Go.Proofs.YtmlnlkfdbbnkbaaGreatDoor.Grow
open Go.Proofs.YtmlnlkfdbbnkbaaGreatDoor.Greg (Laid)
open Go.Proofs.YtmlnlkfdbbnkbaaGreatDoor.Zo Go.Proofs.YtmlnlkfdbbnkbaaGreatDoor.Zone Go.Proofs.YtmlnlkfdbbnkbaaGreatDoor.Win
open Go.Proofs.YtmlnlkfdbbnkbaaGreatDoor.Cf (Cg Wn ce wo)
open Go.Proofs.YtmlnlkfdbbnkbaaGreatDoor.Conf (wc cc Is)
open Go.Proofs.YtmlnlkfdbbnkbaaGreatDoor.Fe (kd rst)
open Go.Proofs.YtmlnlkfdbbnkbaaGreatDoor.Su (mV mE sk sa)

set_option linter.unusedVariables false
open Go.Proofs.YtmlnlkfdbbnkbaaGreatDoor.Eachn
open Go.Proofs.YtmlnlkfdbbnkbaaGreatDoor.Conf (At load_at few_of own_of store_row)
open Go.Proofs.YtmlnlkfdbbnkbaaGreatDoor.Feast (Row)

/-- The ways of two windows about days of rest. -/
def AWays (d F T : Int) (B : Bool) (E F2 T2 : Int) (B2 : Bool) (E2 : Int) : Prop :=
  E ≠ 0 ∨ (E = 0 ∧ E2 ≠ 0) ∨ (E = 0 ∧ E2 = 0 ∧ B = false) ∨ (E = 0 ∧ E2 = 0 ∧ B = true ∧ B2 = false) ∨ (E = 0 ∧ E2 = 0 ∧ B = true ∧ B2 = true ∧ T < F2)

theorem aways (c : Cg) (y : Wn) (hk : y.k = 4) (d m : Int) (hd : -9223372036854775808 ≤ d ∧ d ≤ 9223372036854775807) (m0 : 1 ≤ m) (m1 : m ≤ 20) :
    AWays d (pF c y d) (pT c y d) (pB c y d) (pE c y d) (pF c y (IntKind.i64.wrap (d + m))) (pT c y (IntKind.i64.wrap (d + m))) (pB c y (IntKind.i64.wrap (d + m))) (pE c y (IntKind.i64.wrap (d + m))) := by
  unfold AWays
  by_cases h1 : pE c y d = 0
  · by_cases h2 : pE c y (IntKind.i64.wrap (d + m)) = 0
    · obtain ⟨_, _, d0, d1⟩ := (pE_ok c y d).1 h1
      have hw : IntKind.i64.wrap (d + m) = d + m := IntWalk.i64_in _ (by omega)
      rw [hw] at h2 ⊢
      cases b1 : pB c y d
      · exact .inr (.inr (.inl ⟨h1, h2, rfl⟩))
      · cases b2 : pB c y (d + m)
        · exact .inr (.inr (.inr (.inl ⟨h1, h2, rfl, rfl⟩)))
        · refine .inr (.inr (.inr (.inr ⟨h1, h2, rfl, rfl, ?_⟩)))
          obtain ⟨q, hr, hd0, q0, q1, _, _, s, e, s0, s1, e0, e1, u0, u1, l0, l1, f, t⟩ := rest_span c y d b1 hk
          obtain ⟨q', hr', hd1, q0', q1', _, _, s', e', s0', s1', e0', e1', u0', u1', l0', l1', f', t'⟩ := rest_span c y (d + m) b2 hk
          have : q < d + m := by
            by_cases g : q < d + m
            · exact g
            · have := hr.2.2.1 (d + m) (by omega) (by omega)
              rw [hd1] at this
              cases this
          have z1 : pT c y d = tt c y d := by unfold pT; rw [b1]; simp
          have z2 : pF c y (d + m) = fr c y (d + m) := by unfold pF; rw [b2]; simp
          rw [z1, z2, t, f']
          omega
    · exact .inr (.inl ⟨h1, h2⟩)
  · exact .inl h1

theorem tw_size (D : Array Value) (x : Wn) (a b : Int) (h : D.size = 37) : (tw D x a b).size = 46 := by
  unfold tw
  simp [wc, h]

theorem tw_low (D : Array Value) (x : Wn) (a b : Int) (h : D.size = 37) {i : Nat} {v : Value} (hv : D[i]? = some v) : (tw D x a b)[i]? = some v := by
  have hi : i < 37 := by
    rw [← h]
    exact (Array.getElem?_eq_some_iff.1 hv).1
  unfold tw
  rw [List.getElem?_toArray, List.getElem?_append_left (by simpa [h] using hi)]
  simpa using hv

theorem tw_win (D : Array Value) (x : Wn) (a b : Int) (h : D.size = 37) {i : Nat} {v : Value} (hv : (wc x)[i]? = some v) : (tw D x a b)[37 + i]? = some v := by
  have hi : i < 7 := (List.getElem?_eq_some_iff.1 hv).1
  unfold tw
  rw [List.getElem?_toArray, List.getElem?_append_right (by simp [h]), List.getElem?_append_left (by simp [wc, h]; omega)]
  simpa [h] using hv

theorem tw_day (D : Array Value) (x : Wn) (a b : Int) (h : D.size = 37) : (tw D x a b)[44]? = some (.int .i64 a) ∧ (tw D x a b)[45]? = some (.int .i64 b) := by
  unfold tw
  constructor
  · rw [List.getElem?_toArray, List.getElem?_append_right (by simp [h]), List.getElem?_append_right (by simp [wc, h])]
    simp [wc, h]
  · rw [List.getElem?_toArray, List.getElem?_append_right (by simp [h]), List.getElem?_append_right (by simp [wc, h])]
    simp [wc, h]

def PV (D : Array Value) (c : Cg) (y : Wn) (d F T M P : Int) (B : Bool) (E0 : Int) : Nat → Value → World → Prop
  | 0, v, _ => v = .agg D
  | 1, v, W => ∃ E B, v = .agg E ∧ Conf.Own W B E c
  | 2, v, _ => v = .agg (wc y).toArray
  | 3, v, _ => v = .int .i64 d
  | 4, v, _ => v = .tuple #[.agg #[.int .i64 F, .int .i64 T, .int .i64 M, .int .i64 P], .bool B, .int .i64 E0]
  | 5, v, _ => v = .tuple #[.agg #[.int .i64 F, .int .i64 T, .int .i64 M, .int .i64 P], .bool B, .int .i64 E0]
  | 6, v, _ => v = .agg #[.int .i64 F, .int .i64 T, .int .i64 M, .int .i64 P]
  | 7, v, _ => v = .bool B
  | 8, v, _ => v = .int .i64 E0
  | 11, v, _ => v = .bool B
  | 12, v, _ => v = .int .i64 E0
  | _, _, _ => True

theorem PV.later (D : Array Value) (c : Cg) (y : Wn) (d F T M P : Int) (B : Bool) (E0 : Int) (i : Nat) (v : Value) (W W' : World) (h : PV D c y d F T M P B E0 i v W) (g : Later W W') : PV D c y d F T M P B E0 i v W' := by
  unfold PV at *
  split at h <;> try exact h
  · exact (let ⟨E, b, e, k⟩ := h; ⟨E, b, e, k.later g⟩)
theorem PV.out (D : Array Value) (c : Cg) (y : Wn) (d F T M P : Int) (B : Bool) (E0 : Int) (i : Nat) (v : Value) (W W' : World) (g : Nat) (cs : Array Value) (h : PV D c y d F T M P B E0 i v W) (r : RA W g cs 39) (n : Nb cs) (o : Out g W W') : PV D c y d F T M P B E0 i v W' := by
  unfold PV at *
  split at h <;> try exact h
  · exact (let ⟨E, b, e, k⟩ := h; ⟨E, b, e, own_out k r o⟩)
def PW (D : Array Value) (c : Cg) (y : Wn) (d m dn F T M P : Int) (B : Bool) (E0 : Int) : Nat → Value → World → Prop
  | 0, v, _ => v = .agg D
  | 1, v, W => ∃ E B, v = .agg E ∧ Conf.Own W B E c
  | 2, v, _ => v = .agg (wc y).toArray
  | 3, v, _ => v = .int .i64 d
  | 4, v, _ => v = .int .i64 m
  | 5, v, _ => v = .int .i64 dn
  | 6, v, _ => v = .tuple #[.agg #[.int .i64 F, .int .i64 T, .int .i64 M, .int .i64 P], .bool B, .int .i64 E0]
  | 7, v, _ => v = .tuple #[.agg #[.int .i64 F, .int .i64 T, .int .i64 M, .int .i64 P], .bool B, .int .i64 E0]
  | 8, v, _ => v = .agg #[.int .i64 F, .int .i64 T, .int .i64 M, .int .i64 P]
  | 9, v, _ => v = .bool B
  | 10, v, _ => v = .int .i64 E0
  | 13, v, _ => v = .bool B
  | 14, v, _ => v = .int .i64 E0
  | _, _, _ => True

theorem PW.later (D : Array Value) (c : Cg) (y : Wn) (d m dn F T M P : Int) (B : Bool) (E0 : Int) (i : Nat) (v : Value) (W W' : World) (h : PW D c y d m dn F T M P B E0 i v W) (g : Later W W') : PW D c y d m dn F T M P B E0 i v W' := by
  unfold PW at *
  split at h <;> try exact h
  · exact (let ⟨E, b, e, k⟩ := h; ⟨E, b, e, k.later g⟩)
theorem PW.out (D : Array Value) (c : Cg) (y : Wn) (d m dn F T M P : Int) (B : Bool) (E0 : Int) (i : Nat) (v : Value) (W W' : World) (g : Nat) (cs : Array Value) (h : PW D c y d m dn F T M P B E0 i v W) (r : RA W g cs 39) (n : Nb cs) (o : Out g W W') : PW D c y d m dn F T M P B E0 i v W' := by
  unfold PW at *
  split at h <;> try exact h
  · exact (let ⟨E, b, e, k⟩ := h; ⟨E, b, e, own_out k r o⟩)

set_option maxHeartbeats 4000000 in
theorem apart_core (w : World) (hL : Laid w) (D : Array Value) (c : Cg) (hc : Is w D c) (x : Wn) (d : Int) (hd : -9223372036854775808 ≤ d ∧ d ≤ 9223372036854775807) (m : Int) (_ : -9223372036854775808 ≤ m ∧ m ≤ 9223372036854775807) : Calls Tryz.prog 8 #[.agg (tw D x d m)] w fun e w' => e = .returned (.bool true) ∧ Later w w' := by
  have A := Lib.hid (fun W (hW : Laid W) => awake_any W hW)
  have KF := Lib.hid (fun W (g : Later w W) => few_of (hc.later g))
  have KO := Lib.hid (fun W (g : Later w W) hf => own_of (hc.later g) hf)
  have KS := Lib.hid (fun W (hW : Laid W) E (h : Is W E c) => span_any E c (w4 x) d W hW h)
  have KS2 := Lib.hid (fun W (hW : Laid W) E (h : Is W E c) => span_any E c (w4 x) (IntKind.i64.wrap (d + m)) W hW h)
  unfold sc4 at KS KS2
  have hz := hc.size
  have HZ := Lib.hid hz
  have HO := Lib.hid hc.one
  have HQ := Lib.hid (fun m0 m1 => aways c (w4 x) rfl d m hd m0 m1)
  have HLw := Lib.hid hL
  obtain ⟨Q, hQ⟩ : ∃ Q, Q = tw D x d m := ⟨_, rfl⟩
  have HQZ : Hid (Q.size = 46) := Lib.hid (by rw [hQ]; exact tw_size D x d m hz)
  have HA0 : Hid (At (w.alloc (.cells Q 61)) w.heap.size D) := Lib.hid (fun i v hv => At.new w Q 61 i v (by rw [hQ]; exact tw_low D x d m hz hv))
  have HB0 : Hid ((w.alloc (.cells Q 61)).rangeAt w.heap.size 37 (wc x)) := Lib.hid (fun i v hv => At.new w Q 61 (37 + i) v (by rw [hQ]; exact tw_win D x d m hz hv))
  have HE0 : Hid ((w.alloc (.cells Q 61)).cell? ⟨w.heap.size, 44, none⟩ = some (.int .i64 d) ∧ (w.alloc (.cells Q 61)).cell? ⟨w.heap.size, 45, none⟩ = some (.int .i64 m)) := Lib.hid ⟨At.new w Q 61 44 _ (by rw [hQ]; exact (tw_day D x d m hz).1), At.new w Q 61 45 _ (by rw [hQ]; exact (tw_day D x d m hz).2)⟩
  have HG0 := Lib.hid ((Later.refl w).alloc Q 61)
  rw [← hQ]
  clear hL hc hz hQ hd
  obtain ⟨y, hy⟩ : ∃ y, y = w4 x := ⟨_, rfl⟩
  rw [← hy] at KS KS2 HQ
  have HY := Lib.hid hy
  clear hy
  obtain ⟨dn, hn⟩ : ∃ n, IntKind.i64.wrap (d + m) = n := ⟨_, rfl⟩
  rw [hn] at KS2 HQ
  have HS := Lib.hid hn
  clear hn
  generalize pF c y dn = F2 at *
  generalize pT c y dn = T2 at *
  generalize pM c y dn = M2 at *
  generalize pP c y dn = P2 at *
  generalize pB c y dn = B2 at *
  generalize pE c y dn = E2 at *
  generalize pF c y d = F at *
  generalize pT c y d = T at *
  generalize pM c y d = M at *
  generalize pP c y d = P at *
  generalize pB c y d = B at *
  generalize pE c y d = E0 at *
  go_enter Tryz.func8, Tryz.ntmps8
  go_wp2_with (first | (refine load_at D HZ.out rfl (.tmp 13) rfl w.heap.size rfl HA0.out ?_) | (refine store_row rfl (.tmp 3) (.tmp 14) rfl (w.heap.size + 1) rfl D HZ.out HO.out rfl _ rfl (Conf.row_new' _ _ _ _ (by simp)) (w.alloc (.cells Q 61)) ((Later.refl _).alloc _ _) (by simp) ?_; intro W2 hR2 hL2 _; have HD1 := Lib.hid hR2; have HX1 := Lib.hid hL2; have c44 := gsome (gtrans hL2 ((Later.refl W2).put (.cells (wc x).toArray 35))) HE0.out.1; have c45 := gsome (gtrans hL2 ((Later.refl W2).put (.cells (wc x).toArray 35))) HE0.out.2; unfold wc at c44 c45; clear hR2 hL2) | (refine Conf.load_win x rfl (.tmp 15) rfl w.heap.size 37 rfl (fun i v hv => gsome HX1.out (HB0.out i v hv)) ?_) | (refine load_at D HZ.out rfl (.tmp 3) rfl (w.heap.size + 1) rfl ((Conf.Row.at HD1.out).put _) ?_))
  clear c44 c45
  have HGW := Lib.hid (gtrans HG0.out HX1.out)
  have HG00 := Lib.hid (gtrans HGW.out ((Later.refl W2).put (.cells (wc x).toArray 35)))
  have hlt := HD1.out.lt
  have hge := HGW.out.size
  have HB00 := Lib.hid (RA.new W2 (wc x).toArray 35)
  have HD00 : Hid (RA (W2.alloc (.cells (wc x).toArray 35)) (w.heap.size + 1) D 33) := Lib.hid (RA.later HD1.out ((Later.refl W2).put _))
  unfold wc at HG00 HB00 HD00
  refine (KF.out _ HG00.out).mono ?_
  rintro e w1 ⟨rfl, hg1⟩
  have HG1 := Lib.hid (gtrans HG00.out hg1)
  have HL1 := Lib.hid (HLw.out.grown HG1.out)
  have HB1 := Lib.hid (HB00.out.later hg1)
  have HD1' := Lib.hid (HD00.out.later hg1)
  clear hg1
  cases e1 : Conf.fw c with
  | false =>
    go_wp2_with fail
    refine (A.out _ HL1.out).mono ?_
    rintro e w2 ⟨rfl, hg2⟩
    have HG2 := Lib.hid (gtrans HG1.out hg2)
    clear hg2
    go_wp2_with fail
    go_ret
    exact ⟨rfl, HG2.out⟩
  | true =>
    by_cases m0 : m < 1
    · have t0 : decide (m < 1) = true := by simpa using m0
      clear m0
      go_wp2_with fail
      refine (A.out _ HL1.out).mono ?_
      rintro e w2 ⟨rfl, hg2⟩
      have HG2 := Lib.hid (gtrans HG1.out hg2)
      clear hg2
      go_wp2_with fail
      go_ret
      exact ⟨rfl, HG2.out⟩
    by_cases m1 : 20 < m
    · have t0 : decide (m < 1) = false := by simpa using m0
      have t1 : decide (m > 20) = true := by simpa using m1
      clear m0 m1
      go_wp2_with fail
      refine (A.out _ HL1.out).mono ?_
      rintro e w2 ⟨rfl, hg2⟩
      have HG2 := Lib.hid (gtrans HG1.out hg2)
      clear hg2
      go_wp2_with fail
      go_ret
      exact ⟨rfl, HG2.out⟩
    have t0 : decide (m < 1) = false := by simpa using m0
    have t1 : decide (m > 20) = false := by simpa using m1
    have HQ' := Lib.hid (HQ.out (by omega) (by omega))
    have KO' := Lib.hid (fun W (g : Later w W) => KO.out W g e1)
    clear m0 m1
    have q0 := HB1.out.cell 0 _ rfl
    have f0 := HB1.out.froz 0
    go_wp2_with fail
    clear q0 f0 t0 t1
    have HG2' : Hid (Later w (w1.setCell ⟨W2.heap.size, 0, none⟩ (.int .i64 4))) := Lib.hid (HG1.out.setCell (by simpa using hge) _)
    have HB2' : Hid (At (w1.setCell ⟨W2.heap.size, 0, none⟩ (.int .i64 4)) W2.heap.size (wc y).toArray) := Lib.hid (fun i v hv => by rw [HY.out] at hv; exact (HB1.out.set 0 (.int .i64 4)).cell i v hv)
    have HA2' : Hid (At (w1.setCell ⟨W2.heap.size, 0, none⟩ (.int .i64 4)) (w.heap.size + 1) D) := Lib.hid (fun i v hv => RA.cell (t := 33) (cs := D) (by have := HD1'.out; unfold RA at *; rw [Conf.heap_set_other _ _ _ _ _ (by omega)]; exact this) i v hv)
    generalize w1.setCell ⟨W2.heap.size, 0, none⟩ (.int .i64 4) = w2 at *
    have HG2 := Lib.hid HG2'.out
    have HB2 := Lib.hid HB2'.out
    have HA2 := Lib.hid HA2'.out
    have HL2 := Lib.hid (HLw.out.grown HG2.out)
    clear HG2' HB2' HA2' HB1 HD1' HL1 HG1 hlt hge
    refine region_box 9 10 7 #[.int .i64 0, .int .i64 0, .int .i64 0, .int .i64 0] 39 (fun cs _ => cs = #[.int .i64 F, .int .i64 T, .int .i64 M, .int .i64 P]) (PV D c y d F T M P B E0) (by kernel_rfl) (by kernel_rfl) (by decide) (by kernel_rfl) (PV.later D c y d F T M P B E0) (PV.out D c y d F T M P B E0) (fun cs W W' h _ => h) trivial ?_ ?_ ?_ ?_ ⟨by decide, by decide⟩
    · intro i hi him his
      match i with
      | 0 =>
        intro o ho
        simp only [List.getElem?_toArray, List.getElem?_cons_zero, Option.some.injEq] at ho
        subst ho
        intro a W hl hold hdep
        refine ite_yes rfl ?_
        have h3 : a.tmps[3]? = some (.pointer (some ⟨w.heap.size + 1, 0, none⟩)) := hold 3 (free_of (by kernel_rfl))
        clear hold hdep
        exact Conf.wp_load_cfg D HZ.out W (w.heap.size + 1) (HA2.out.later hl) (.tmp 3) rfl (ev h3) ⟨_, rfl, rfl, Later.refl _⟩
      | 1 =>
        intro o ho
        simp only [List.getElem?_toArray, List.getElem?_cons_zero, List.getElem?_cons_succ, Option.some.injEq] at ho
        subst ho
        intro a W hl hold hdep
        refine ite_yes rfl ?_
        obtain ⟨_, h35, rfl⟩ := hdep 0 (by decide) (by decide) (by decide) _ _ rfl rfl
        clear hold hdep
        unfold Oper.wp
        go_simp
        refine (KO'.out _ (gtrans HG2.out hl)).mono ?_
        rintro e w1 ⟨E, rfl, ho, hg1⟩
        exact ⟨_, rfl, ⟨E, _, rfl, ho⟩, hg1⟩
      | 2 =>
        intro o ho
        simp only [List.getElem?_toArray, List.getElem?_cons_zero, List.getElem?_cons_succ, Option.some.injEq] at ho
        subst ho
        intro a W hl hold hdep
        refine ite_yes rfl ?_
        have h4 : a.tmps[4]? = some (.pointer (some ⟨W2.heap.size, 0, none⟩)) := hold 4 (free_of (by kernel_rfl))
        clear hold hdep
        exact wp_load_mid (P := Tryz.prog) 35 (.tmp 4) rfl (W2.heap.size) 0 (ev h4) (wc y) _ (fun j y0 hy => by rw [Nat.zero_add]; exact (HB2.out.later hl) j y0 (by simpa [wc] using hy)) Tryz.underlying35 rfl (by kernel_rfl) ⟨_, rfl, rfl, Later.refl _⟩
      | 3 =>
        intro o ho
        simp only [List.getElem?_toArray, List.getElem?_cons_zero, List.getElem?_cons_succ, Option.some.injEq] at ho
        subst ho
        intro a W hl hold hdep
        refine ite_yes rfl ?_
        have h5 : a.tmps[5]? = some (.int .i64 d) := hold 5 (free_of (by kernel_rfl))
        clear hold hdep
        unfold Oper.wp
        go_simp
        exact ⟨_, rfl, rfl, Later.refl _⟩
      | 4 =>
        intro o ho
        simp only [List.getElem?_toArray, List.getElem?_cons_zero, List.getElem?_cons_succ, Option.some.injEq] at ho
        subst ho
        intro a W hl hold hdep
        refine ite_yes rfl ?_
        obtain ⟨_, h36, ⟨E, B0, rfl, hE⟩⟩ := hdep 1 (by decide) (by decide) (by decide) _ _ rfl rfl
        obtain ⟨_, h37, rfl⟩ := hdep 2 (by decide) (by decide) (by decide) _ _ rfl rfl
        obtain ⟨_, h38, rfl⟩ := hdep 3 (by decide) (by decide) (by decide) _ _ rfl rfl
        clear hold hdep
        unfold Oper.wp
        go_simp
        refine (KS.out _ (HL2.out.grown hl) _ hE.is).mono ?_
        rintro e w1 ⟨rfl, hg1⟩
        exact ⟨_, rfl, rfl, hg1⟩
      | 5 =>
        intro o ho
        simp only [List.getElem?_toArray, List.getElem?_cons_zero, List.getElem?_cons_succ, Option.some.injEq] at ho
        subst ho
        intro a W hl hold hdep
        refine ite_yes rfl ?_
        obtain ⟨_, h39, rfl⟩ := hdep 4 (by decide) (by decide) (by decide) _ _ rfl rfl
        clear hold hdep
        unfold Oper.wp
        go_simp
        exact ⟨_, rfl, rfl, Later.refl _⟩
      | 6 =>
        intro o ho
        simp only [List.getElem?_toArray, List.getElem?_cons_zero, List.getElem?_cons_succ, Option.some.injEq] at ho
        subst ho
        intro a W hl hold hdep
        refine ite_yes rfl ?_
        obtain ⟨_, h34, rfl⟩ := hdep 5 (by decide) (by decide) (by decide) _ _ rfl rfl
        clear hold hdep
        unfold Oper.wp
        go_simp
        exact ⟨_, rfl, rfl, Later.refl _⟩
      | 7 =>
        intro o ho
        simp only [List.getElem?_toArray, List.getElem?_cons_zero, List.getElem?_cons_succ, Option.some.injEq] at ho
        subst ho
        intro a W hl hold hdep
        refine ite_yes rfl ?_
        obtain ⟨_, h34, rfl⟩ := hdep 5 (by decide) (by decide) (by decide) _ _ rfl rfl
        clear hold hdep
        unfold Oper.wp
        go_simp
        exact ⟨_, rfl, rfl, Later.refl _⟩
      | 8 =>
        intro o ho
        simp only [List.getElem?_toArray, List.getElem?_cons_zero, List.getElem?_cons_succ, Option.some.injEq] at ho
        subst ho
        intro a W hl hold hdep
        refine ite_yes rfl ?_
        obtain ⟨_, h34, rfl⟩ := hdep 5 (by decide) (by decide) (by decide) _ _ rfl rfl
        clear hold hdep
        unfold Oper.wp
        go_simp
        exact ⟨_, rfl, rfl, Later.refl _⟩
      | 9 => exact absurd rfl him
      | 10 => exact absurd rfl his
      | 11 =>
        intro o ho
        simp only [List.getElem?_toArray, List.getElem?_cons_zero, List.getElem?_cons_succ, Option.some.injEq] at ho
        subst ho
        intro a W hl hold hdep
        refine ite_yes rfl ?_
        obtain ⟨_, h41, rfl⟩ := hdep 7 (by decide) (by decide) (by decide) _ _ rfl rfl
        clear hold hdep
        unfold Oper.wp
        go_simp
        exact ⟨_, rfl, rfl, Later.refl _⟩
      | 12 =>
        intro o ho
        simp only [List.getElem?_toArray, List.getElem?_cons_zero, List.getElem?_cons_succ, Option.some.injEq] at ho
        subst ho
        intro a W hl hold hdep
        refine ite_yes rfl ?_
        obtain ⟨_, h42, rfl⟩ := hdep 8 (by decide) (by decide) (by decide) _ _ rfl rfl
        clear hold hdep
        unfold Oper.wp
        go_simp
        exact ⟨_, rfl, rfl, Later.refl _⟩
      | k + 13 => exact absurd hi (by simp)
    · intro o ho
      simp only [List.getElem?_toArray, List.getElem?_cons_zero, List.getElem?_cons_succ, Option.some.injEq] at ho
      subst ho
      refine ⟨rfl, rfl, fun a W hl => ?_⟩
      unfold Oper.wp
      go_simp
      exact ⟨_, rfl, hl.size, RA.new _ _ _, (Later.refl _).put _⟩
    · intro o ho
      simp only [List.getElem?_toArray, List.getElem?_cons_zero, List.getElem?_cons_succ, Option.some.injEq] at ho
      subst ho
      refine ⟨rfl, rfl, fun a W g hl hd hg hr hdep => ?_⟩
      obtain ⟨_, h40, rfl⟩ := hdep 6 (by decide) (by decide) (by decide) _ _ rfl rfl
      have c0 := hr.cell 0 _ rfl
      have c1 := hr.cell 1 _ rfl
      have c2 := hr.cell 2 _ rfl
      have c3 := hr.cell 3 _ rfl
      have f0 := hr.froz 0
      have f1 := hr.froz 1
      have f2 := hr.froz 2
      have f3 := hr.froz 3
      clear hdep
      unfold Oper.wp
      go_simp
      exact ⟨later_set4 hl hg _ _ _ _, out4 _ _ _ _ _ _, hr.set4 _ _ _ _, trivial⟩
    · intro a w3 hl hd hz hold hall hbox
      obtain ⟨g7, cs7, k7, i7, r7, n7, b7⟩ := hbox
      have k2 : a.tmps[2]? = some (.bool false) := hold 2 (free_of (by kernel_rfl))
      have k3 : a.tmps[3]? = some (.pointer (some ⟨w.heap.size + 1, 0, none⟩)) := hold 3 (free_of (by kernel_rfl))
      have k4 : a.tmps[4]? = some (.pointer (some ⟨W2.heap.size, 0, none⟩)) := hold 4 (free_of (by kernel_rfl))
      have k5 : a.tmps[5]? = some (.int .i64 d) := hold 5 (free_of (by kernel_rfl))
      have k6 : a.tmps[6]? = some (.int .i64 m) := hold 6 (free_of (by kernel_rfl))
      obtain ⟨_, k8, rfl⟩ := hall 11 _ _ (by decide) (by decide) rfl rfl
      obtain ⟨_, k9, rfl⟩ := hall 12 _ _ (by decide) (by decide) rfl rfl
      have ha := act_eta a 77 [] hz hd
      rw [show (List.range 77).map (fun s => a.tmps.getD s undef) = [a.tmps.getD 0 undef, a.tmps.getD 1 undef, a.tmps.getD 2 undef, a.tmps.getD 3 undef, a.tmps.getD 4 undef, a.tmps.getD 5 undef, a.tmps.getD 6 undef, a.tmps.getD 7 undef, a.tmps.getD 8 undef, a.tmps.getD 9 undef, a.tmps.getD 10 undef, a.tmps.getD 11 undef, a.tmps.getD 12 undef, a.tmps.getD 13 undef, a.tmps.getD 14 undef, a.tmps.getD 15 undef, a.tmps.getD 16 undef, a.tmps.getD 17 undef, a.tmps.getD 18 undef, a.tmps.getD 19 undef, a.tmps.getD 20 undef, a.tmps.getD 21 undef, a.tmps.getD 22 undef, a.tmps.getD 23 undef, a.tmps.getD 24 undef, a.tmps.getD 25 undef, a.tmps.getD 26 undef, a.tmps.getD 27 undef, a.tmps.getD 28 undef, a.tmps.getD 29 undef, a.tmps.getD 30 undef, a.tmps.getD 31 undef, a.tmps.getD 32 undef, a.tmps.getD 33 undef, a.tmps.getD 34 undef, a.tmps.getD 35 undef, a.tmps.getD 36 undef, a.tmps.getD 37 undef, a.tmps.getD 38 undef, a.tmps.getD 39 undef, a.tmps.getD 40 undef, a.tmps.getD 41 undef, a.tmps.getD 42 undef, a.tmps.getD 43 undef, a.tmps.getD 44 undef, a.tmps.getD 45 undef, a.tmps.getD 46 undef, a.tmps.getD 47 undef, a.tmps.getD 48 undef, a.tmps.getD 49 undef, a.tmps.getD 50 undef, a.tmps.getD 51 undef, a.tmps.getD 52 undef, a.tmps.getD 53 undef, a.tmps.getD 54 undef, a.tmps.getD 55 undef, a.tmps.getD 56 undef, a.tmps.getD 57 undef, a.tmps.getD 58 undef, a.tmps.getD 59 undef, a.tmps.getD 60 undef, a.tmps.getD 61 undef, a.tmps.getD 62 undef, a.tmps.getD 63 undef, a.tmps.getD 64 undef, a.tmps.getD 65 undef, a.tmps.getD 66 undef, a.tmps.getD 67 undef, a.tmps.getD 68 undef, a.tmps.getD 69 undef, a.tmps.getD 70 undef, a.tmps.getD 71 undef, a.tmps.getD 72 undef, a.tmps.getD 73 undef, a.tmps.getD 74 undef, a.tmps.getD 75 undef, a.tmps.getD 76 undef] from rfl, getD_of k2, getD_of k3, getD_of k4, getD_of k5, getD_of k6, getD_of k7, getD_of k8, getD_of k9] at ha
      try dsimp only at ha
      rw [ha]
      clear hall hold hz hd ha k2 k3 k4 k5 k6 k7 k8 k9
      generalize a.tmps.getD 0 undef = x0
      generalize a.tmps.getD 1 undef = x1
      generalize a.tmps.getD 10 undef = x10
      generalize a.tmps.getD 11 undef = x11
      generalize a.tmps.getD 12 undef = x12
      generalize a.tmps.getD 13 undef = x13
      generalize a.tmps.getD 14 undef = x14
      generalize a.tmps.getD 15 undef = x15
      generalize a.tmps.getD 16 undef = x16
      generalize a.tmps.getD 17 undef = x17
      generalize a.tmps.getD 18 undef = x18
      generalize a.tmps.getD 19 undef = x19
      generalize a.tmps.getD 20 undef = x20
      generalize a.tmps.getD 21 undef = x21
      generalize a.tmps.getD 22 undef = x22
      generalize a.tmps.getD 23 undef = x23
      generalize a.tmps.getD 24 undef = x24
      generalize a.tmps.getD 25 undef = x25
      generalize a.tmps.getD 26 undef = x26
      generalize a.tmps.getD 27 undef = x27
      generalize a.tmps.getD 28 undef = x28
      generalize a.tmps.getD 29 undef = x29
      generalize a.tmps.getD 30 undef = x30
      generalize a.tmps.getD 31 undef = x31
      generalize a.tmps.getD 32 undef = x32
      generalize a.tmps.getD 33 undef = x33
      generalize a.tmps.getD 34 undef = x34
      generalize a.tmps.getD 35 undef = x35
      generalize a.tmps.getD 36 undef = x36
      generalize a.tmps.getD 37 undef = x37
      generalize a.tmps.getD 38 undef = x38
      generalize a.tmps.getD 39 undef = x39
      generalize a.tmps.getD 40 undef = x40
      generalize a.tmps.getD 41 undef = x41
      generalize a.tmps.getD 42 undef = x42
      generalize a.tmps.getD 43 undef = x43
      generalize a.tmps.getD 44 undef = x44
      generalize a.tmps.getD 45 undef = x45
      generalize a.tmps.getD 46 undef = x46
      generalize a.tmps.getD 47 undef = x47
      generalize a.tmps.getD 48 undef = x48
      generalize a.tmps.getD 49 undef = x49
      generalize a.tmps.getD 50 undef = x50
      generalize a.tmps.getD 51 undef = x51
      generalize a.tmps.getD 52 undef = x52
      generalize a.tmps.getD 53 undef = x53
      generalize a.tmps.getD 54 undef = x54
      generalize a.tmps.getD 55 undef = x55
      generalize a.tmps.getD 56 undef = x56
      generalize a.tmps.getD 57 undef = x57
      generalize a.tmps.getD 58 undef = x58
      generalize a.tmps.getD 59 undef = x59
      generalize a.tmps.getD 60 undef = x60
      generalize a.tmps.getD 61 undef = x61
      generalize a.tmps.getD 62 undef = x62
      generalize a.tmps.getD 63 undef = x63
      generalize a.tmps.getD 64 undef = x64
      generalize a.tmps.getD 65 undef = x65
      generalize a.tmps.getD 66 undef = x66
      generalize a.tmps.getD 67 undef = x67
      generalize a.tmps.getD 68 undef = x68
      generalize a.tmps.getD 69 undef = x69
      generalize a.tmps.getD 70 undef = x70
      generalize a.tmps.getD 71 undef = x71
      generalize a.tmps.getD 72 undef = x72
      generalize a.tmps.getD 73 undef = x73
      generalize a.tmps.getD 74 undef = x74
      generalize a.tmps.getD 75 undef = x75
      generalize a.tmps.getD 76 undef = x76
      subst b7
      have HG3 := Lib.hid (gtrans HG2.out hl)
      have HL3 := Lib.hid (HL2.out.grown hl)
      have HA3 := Lib.hid (HA2.out.later hl)
      have HB3 := Lib.hid (HB2.out.later hl)
      have HR3 := Lib.hid r7
      clear r7 n7 hl
      go_wp2_with fail
      refine region_box 11 12 10 #[.int .i64 0, .int .i64 0, .int .i64 0, .int .i64 0] 39 (fun cs _ => cs = #[.int .i64 F2, .int .i64 T2, .int .i64 M2, .int .i64 P2]) (PW D c y d m dn F2 T2 M2 P2 B2 E2) (by kernel_rfl) (by kernel_rfl) (by decide) (by kernel_rfl) (PW.later D c y d m dn F2 T2 M2 P2 B2 E2) (PW.out D c y d m dn F2 T2 M2 P2 B2 E2) (fun cs W W' h _ => h) trivial ?_ ?_ ?_ ?_ ⟨by decide, by decide⟩
      · intro i hi him his
        match i with
        | 0 =>
          intro o ho
          simp only [List.getElem?_toArray, List.getElem?_cons_zero, Option.some.injEq] at ho
          subst ho
          intro a W hl hold hdep
          refine ite_yes rfl ?_
          have h3 : a.tmps[3]? = some (.pointer (some ⟨w.heap.size + 1, 0, none⟩)) := hold 3 (free_of (by kernel_rfl))
          clear hold hdep
          exact Conf.wp_load_cfg D HZ.out W (w.heap.size + 1) (HA3.out.later hl) (.tmp 3) rfl (ev h3) ⟨_, rfl, rfl, Later.refl _⟩
        | 1 =>
          intro o ho
          simp only [List.getElem?_toArray, List.getElem?_cons_zero, List.getElem?_cons_succ, Option.some.injEq] at ho
          subst ho
          intro a W hl hold hdep
          refine ite_yes rfl ?_
          obtain ⟨_, h44, rfl⟩ := hdep 0 (by decide) (by decide) (by decide) _ _ rfl rfl
          clear hold hdep
          unfold Oper.wp
          go_simp
          refine (KO'.out _ (gtrans HG3.out hl)).mono ?_
          rintro e w1 ⟨E, rfl, ho, hg1⟩
          exact ⟨_, rfl, ⟨E, _, rfl, ho⟩, hg1⟩
        | 2 =>
          intro o ho
          simp only [List.getElem?_toArray, List.getElem?_cons_zero, List.getElem?_cons_succ, Option.some.injEq] at ho
          subst ho
          intro a W hl hold hdep
          refine ite_yes rfl ?_
          have h4 : a.tmps[4]? = some (.pointer (some ⟨W2.heap.size, 0, none⟩)) := hold 4 (free_of (by kernel_rfl))
          clear hold hdep
          exact wp_load_mid (P := Tryz.prog) 35 (.tmp 4) rfl (W2.heap.size) 0 (ev h4) (wc y) _ (fun j y0 hy => by rw [Nat.zero_add]; exact (HB3.out.later hl) j y0 (by simpa [wc] using hy)) Tryz.underlying35 rfl (by kernel_rfl) ⟨_, rfl, rfl, Later.refl _⟩
        | 3 =>
          intro o ho
          simp only [List.getElem?_toArray, List.getElem?_cons_zero, List.getElem?_cons_succ, Option.some.injEq] at ho
          subst ho
          intro a W hl hold hdep
          refine ite_yes rfl ?_
          have h5 : a.tmps[5]? = some (.int .i64 d) := hold 5 (free_of (by kernel_rfl))
          clear hold hdep
          unfold Oper.wp
          go_simp
          exact ⟨_, rfl, rfl, Later.refl _⟩
        | 4 =>
          intro o ho
          simp only [List.getElem?_toArray, List.getElem?_cons_zero, List.getElem?_cons_succ, Option.some.injEq] at ho
          subst ho
          intro a W hl hold hdep
          refine ite_yes rfl ?_
          have h6 : a.tmps[6]? = some (.int .i64 m) := hold 6 (free_of (by kernel_rfl))
          clear hold hdep
          unfold Oper.wp
          go_simp
          exact ⟨_, rfl, rfl, Later.refl _⟩
        | 5 =>
          intro o ho
          simp only [List.getElem?_toArray, List.getElem?_cons_zero, List.getElem?_cons_succ, Option.some.injEq] at ho
          subst ho
          intro a W hl hold hdep
          refine ite_yes rfl ?_
          obtain ⟨_, h47, rfl⟩ := hdep 3 (by decide) (by decide) (by decide) _ _ rfl rfl
          obtain ⟨_, h48, rfl⟩ := hdep 4 (by decide) (by decide) (by decide) _ _ rfl rfl
          clear hold hdep
          unfold Oper.wp
          go_simp
          exact ⟨_, rfl, (by rw [HS.out]; rfl), Later.refl _⟩
        | 6 =>
          intro o ho
          simp only [List.getElem?_toArray, List.getElem?_cons_zero, List.getElem?_cons_succ, Option.some.injEq] at ho
          subst ho
          intro a W hl hold hdep
          refine ite_yes rfl ?_
          obtain ⟨_, h45, ⟨E, B0, rfl, hE⟩⟩ := hdep 1 (by decide) (by decide) (by decide) _ _ rfl rfl
          obtain ⟨_, h46, rfl⟩ := hdep 2 (by decide) (by decide) (by decide) _ _ rfl rfl
          obtain ⟨_, h49, rfl⟩ := hdep 5 (by decide) (by decide) (by decide) _ _ rfl rfl
          clear hold hdep
          unfold Oper.wp
          go_simp
          refine (KS2.out _ (HL3.out.grown hl) _ hE.is).mono ?_
          rintro e w1 ⟨rfl, hg1⟩
          exact ⟨_, rfl, rfl, hg1⟩
        | 7 =>
          intro o ho
          simp only [List.getElem?_toArray, List.getElem?_cons_zero, List.getElem?_cons_succ, Option.some.injEq] at ho
          subst ho
          intro a W hl hold hdep
          refine ite_yes rfl ?_
          obtain ⟨_, h50, rfl⟩ := hdep 6 (by decide) (by decide) (by decide) _ _ rfl rfl
          clear hold hdep
          unfold Oper.wp
          go_simp
          exact ⟨_, rfl, rfl, Later.refl _⟩
        | 8 =>
          intro o ho
          simp only [List.getElem?_toArray, List.getElem?_cons_zero, List.getElem?_cons_succ, Option.some.injEq] at ho
          subst ho
          intro a W hl hold hdep
          refine ite_yes rfl ?_
          obtain ⟨_, h43, rfl⟩ := hdep 7 (by decide) (by decide) (by decide) _ _ rfl rfl
          clear hold hdep
          unfold Oper.wp
          go_simp
          exact ⟨_, rfl, rfl, Later.refl _⟩
        | 9 =>
          intro o ho
          simp only [List.getElem?_toArray, List.getElem?_cons_zero, List.getElem?_cons_succ, Option.some.injEq] at ho
          subst ho
          intro a W hl hold hdep
          refine ite_yes rfl ?_
          obtain ⟨_, h43, rfl⟩ := hdep 7 (by decide) (by decide) (by decide) _ _ rfl rfl
          clear hold hdep
          unfold Oper.wp
          go_simp
          exact ⟨_, rfl, rfl, Later.refl _⟩
        | 10 =>
          intro o ho
          simp only [List.getElem?_toArray, List.getElem?_cons_zero, List.getElem?_cons_succ, Option.some.injEq] at ho
          subst ho
          intro a W hl hold hdep
          refine ite_yes rfl ?_
          obtain ⟨_, h43, rfl⟩ := hdep 7 (by decide) (by decide) (by decide) _ _ rfl rfl
          clear hold hdep
          unfold Oper.wp
          go_simp
          exact ⟨_, rfl, rfl, Later.refl _⟩
        | 11 => exact absurd rfl him
        | 12 => exact absurd rfl his
        | 13 =>
          intro o ho
          simp only [List.getElem?_toArray, List.getElem?_cons_zero, List.getElem?_cons_succ, Option.some.injEq] at ho
          subst ho
          intro a W hl hold hdep
          refine ite_yes rfl ?_
          obtain ⟨_, h52, rfl⟩ := hdep 9 (by decide) (by decide) (by decide) _ _ rfl rfl
          clear hold hdep
          unfold Oper.wp
          go_simp
          exact ⟨_, rfl, rfl, Later.refl _⟩
        | 14 =>
          intro o ho
          simp only [List.getElem?_toArray, List.getElem?_cons_zero, List.getElem?_cons_succ, Option.some.injEq] at ho
          subst ho
          intro a W hl hold hdep
          refine ite_yes rfl ?_
          obtain ⟨_, h53, rfl⟩ := hdep 10 (by decide) (by decide) (by decide) _ _ rfl rfl
          clear hold hdep
          unfold Oper.wp
          go_simp
          exact ⟨_, rfl, rfl, Later.refl _⟩
        | k + 15 => exact absurd hi (by simp)
      · intro o ho
        simp only [List.getElem?_toArray, List.getElem?_cons_zero, List.getElem?_cons_succ, Option.some.injEq] at ho
        subst ho
        refine ⟨rfl, rfl, fun a W hl => ?_⟩
        unfold Oper.wp
        go_simp
        exact ⟨_, rfl, hl.size, RA.new _ _ _, (Later.refl _).put _⟩
      · intro o ho
        simp only [List.getElem?_toArray, List.getElem?_cons_zero, List.getElem?_cons_succ, Option.some.injEq] at ho
        subst ho
        refine ⟨rfl, rfl, fun a W g hl hd hg hr hdep => ?_⟩
        obtain ⟨_, h51, rfl⟩ := hdep 8 (by decide) (by decide) (by decide) _ _ rfl rfl
        have c0 := hr.cell 0 _ rfl
        have c1 := hr.cell 1 _ rfl
        have c2 := hr.cell 2 _ rfl
        have c3 := hr.cell 3 _ rfl
        have f0 := hr.froz 0
        have f1 := hr.froz 1
        have f2 := hr.froz 2
        have f3 := hr.froz 3
        clear hdep
        unfold Oper.wp
        go_simp
        exact ⟨later_set4 hl hg _ _ _ _, out4 _ _ _ _ _ _, hr.set4 _ _ _ _, trivial⟩
      · intro a w4 hl hd hz hold hall hbox
        obtain ⟨g10, cs10, k10, i10, r10, n10, b10⟩ := hbox
        have k2 : a.tmps[2]? = some (.bool false) := hold 2 (free_of (by kernel_rfl))
        have k3 : a.tmps[3]? = some (.pointer (some ⟨w.heap.size + 1, 0, none⟩)) := hold 3 (free_of (by kernel_rfl))
        have k4 : a.tmps[4]? = some (.pointer (some ⟨W2.heap.size, 0, none⟩)) := hold 4 (free_of (by kernel_rfl))
        have k5 : a.tmps[5]? = some (.int .i64 d) := hold 5 (free_of (by kernel_rfl))
        have k6 : a.tmps[6]? = some (.int .i64 m) := hold 6 (free_of (by kernel_rfl))
        have k7 : a.tmps[7]? = some (.pointer (some ⟨g7, 0, none⟩)) := hold 7 (free_of (by kernel_rfl))
        have k8 : a.tmps[8]? = some (.bool B) := hold 8 (free_of (by kernel_rfl))
        have k9 : a.tmps[9]? = some (.int .i64 E0) := hold 9 (free_of (by kernel_rfl))
        obtain ⟨_, k11, rfl⟩ := hall 13 _ _ (by decide) (by decide) rfl rfl
        obtain ⟨_, k12, rfl⟩ := hall 14 _ _ (by decide) (by decide) rfl rfl
        have ha := act_eta a 77 [] hz hd
        rw [show (List.range 77).map (fun s => a.tmps.getD s undef) = [a.tmps.getD 0 undef, a.tmps.getD 1 undef, a.tmps.getD 2 undef, a.tmps.getD 3 undef, a.tmps.getD 4 undef, a.tmps.getD 5 undef, a.tmps.getD 6 undef, a.tmps.getD 7 undef, a.tmps.getD 8 undef, a.tmps.getD 9 undef, a.tmps.getD 10 undef, a.tmps.getD 11 undef, a.tmps.getD 12 undef, a.tmps.getD 13 undef, a.tmps.getD 14 undef, a.tmps.getD 15 undef, a.tmps.getD 16 undef, a.tmps.getD 17 undef, a.tmps.getD 18 undef, a.tmps.getD 19 undef, a.tmps.getD 20 undef, a.tmps.getD 21 undef, a.tmps.getD 22 undef, a.tmps.getD 23 undef, a.tmps.getD 24 undef, a.tmps.getD 25 undef, a.tmps.getD 26 undef, a.tmps.getD 27 undef, a.tmps.getD 28 undef, a.tmps.getD 29 undef, a.tmps.getD 30 undef, a.tmps.getD 31 undef, a.tmps.getD 32 undef, a.tmps.getD 33 undef, a.tmps.getD 34 undef, a.tmps.getD 35 undef, a.tmps.getD 36 undef, a.tmps.getD 37 undef, a.tmps.getD 38 undef, a.tmps.getD 39 undef, a.tmps.getD 40 undef, a.tmps.getD 41 undef, a.tmps.getD 42 undef, a.tmps.getD 43 undef, a.tmps.getD 44 undef, a.tmps.getD 45 undef, a.tmps.getD 46 undef, a.tmps.getD 47 undef, a.tmps.getD 48 undef, a.tmps.getD 49 undef, a.tmps.getD 50 undef, a.tmps.getD 51 undef, a.tmps.getD 52 undef, a.tmps.getD 53 undef, a.tmps.getD 54 undef, a.tmps.getD 55 undef, a.tmps.getD 56 undef, a.tmps.getD 57 undef, a.tmps.getD 58 undef, a.tmps.getD 59 undef, a.tmps.getD 60 undef, a.tmps.getD 61 undef, a.tmps.getD 62 undef, a.tmps.getD 63 undef, a.tmps.getD 64 undef, a.tmps.getD 65 undef, a.tmps.getD 66 undef, a.tmps.getD 67 undef, a.tmps.getD 68 undef, a.tmps.getD 69 undef, a.tmps.getD 70 undef, a.tmps.getD 71 undef, a.tmps.getD 72 undef, a.tmps.getD 73 undef, a.tmps.getD 74 undef, a.tmps.getD 75 undef, a.tmps.getD 76 undef] from rfl, getD_of k2, getD_of k3, getD_of k4, getD_of k5, getD_of k6, getD_of k7, getD_of k8, getD_of k9, getD_of k10, getD_of k11, getD_of k12] at ha
        try dsimp only at ha
        rw [ha]
        clear hall hold hz hd ha k2 k3 k4 k5 k6 k7 k8 k9 k10 k11 k12
        generalize a.tmps.getD 0 undef = x0
        generalize a.tmps.getD 1 undef = x1
        generalize a.tmps.getD 13 undef = x13
        generalize a.tmps.getD 14 undef = x14
        generalize a.tmps.getD 15 undef = x15
        generalize a.tmps.getD 16 undef = x16
        generalize a.tmps.getD 17 undef = x17
        generalize a.tmps.getD 18 undef = x18
        generalize a.tmps.getD 19 undef = x19
        generalize a.tmps.getD 20 undef = x20
        generalize a.tmps.getD 21 undef = x21
        generalize a.tmps.getD 22 undef = x22
        generalize a.tmps.getD 23 undef = x23
        generalize a.tmps.getD 24 undef = x24
        generalize a.tmps.getD 25 undef = x25
        generalize a.tmps.getD 26 undef = x26
        generalize a.tmps.getD 27 undef = x27
        generalize a.tmps.getD 28 undef = x28
        generalize a.tmps.getD 29 undef = x29
        generalize a.tmps.getD 30 undef = x30
        generalize a.tmps.getD 31 undef = x31
        generalize a.tmps.getD 32 undef = x32
        generalize a.tmps.getD 33 undef = x33
        generalize a.tmps.getD 34 undef = x34
        generalize a.tmps.getD 35 undef = x35
        generalize a.tmps.getD 36 undef = x36
        generalize a.tmps.getD 37 undef = x37
        generalize a.tmps.getD 38 undef = x38
        generalize a.tmps.getD 39 undef = x39
        generalize a.tmps.getD 40 undef = x40
        generalize a.tmps.getD 41 undef = x41
        generalize a.tmps.getD 42 undef = x42
        generalize a.tmps.getD 43 undef = x43
        generalize a.tmps.getD 44 undef = x44
        generalize a.tmps.getD 45 undef = x45
        generalize a.tmps.getD 46 undef = x46
        generalize a.tmps.getD 47 undef = x47
        generalize a.tmps.getD 48 undef = x48
        generalize a.tmps.getD 49 undef = x49
        generalize a.tmps.getD 50 undef = x50
        generalize a.tmps.getD 51 undef = x51
        generalize a.tmps.getD 52 undef = x52
        generalize a.tmps.getD 53 undef = x53
        generalize a.tmps.getD 54 undef = x54
        generalize a.tmps.getD 55 undef = x55
        generalize a.tmps.getD 56 undef = x56
        generalize a.tmps.getD 57 undef = x57
        generalize a.tmps.getD 58 undef = x58
        generalize a.tmps.getD 59 undef = x59
        generalize a.tmps.getD 60 undef = x60
        generalize a.tmps.getD 61 undef = x61
        generalize a.tmps.getD 62 undef = x62
        generalize a.tmps.getD 63 undef = x63
        generalize a.tmps.getD 64 undef = x64
        generalize a.tmps.getD 65 undef = x65
        generalize a.tmps.getD 66 undef = x66
        generalize a.tmps.getD 67 undef = x67
        generalize a.tmps.getD 68 undef = x68
        generalize a.tmps.getD 69 undef = x69
        generalize a.tmps.getD 70 undef = x70
        generalize a.tmps.getD 71 undef = x71
        generalize a.tmps.getD 72 undef = x72
        generalize a.tmps.getD 73 undef = x73
        generalize a.tmps.getD 74 undef = x74
        generalize a.tmps.getD 75 undef = x75
        generalize a.tmps.getD 76 undef = x76
        subst b10
        have HG4 := Lib.hid (gtrans HG3.out hl)
        have HL4 := Lib.hid (HL3.out.grown hl)
        have HR4 := Lib.hid (HR3.out.later hl)
        have HS4 := Lib.hid r10
        clear r10 n10 hl
        rcases HQ'.out with h | ⟨rfl, h⟩ | ⟨rfl, rfl, rfl⟩ | ⟨rfl, rfl, rfl, rfl⟩ | ⟨rfl, rfl, rfl, rfl, h⟩
        · have t0 : (E0 != 0) = true := by simpa using h
          clear h
          go_wp2_with fail
          refine (A.out _ HL4.out).mono ?_
          rintro e w5 ⟨rfl, hg5⟩
          have HG5 := Lib.hid (gtrans HG4.out hg5)
          clear hg5
          go_wp2_with fail
          go_ret
          exact ⟨rfl, HG5.out⟩
        · have t0 : (E2 != 0) = true := by simpa using h
          clear h
          go_wp2_with fail
          refine (A.out _ HL4.out).mono ?_
          rintro e w5 ⟨rfl, hg5⟩
          have HG5 := Lib.hid (gtrans HG4.out hg5)
          clear hg5
          go_wp2_with fail
          go_ret
          exact ⟨rfl, HG5.out⟩
        · go_wp2_with fail
          refine (A.out _ HL4.out).mono ?_
          rintro e w5 ⟨rfl, hg5⟩
          have HG5 := Lib.hid (gtrans HG4.out hg5)
          clear hg5
          go_wp2_with fail
          go_ret
          exact ⟨rfl, HG5.out⟩
        · go_wp2_with fail
          refine (A.out _ HL4.out).mono ?_
          rintro e w5 ⟨rfl, hg5⟩
          have HG5 := Lib.hid (gtrans HG4.out hg5)
          clear hg5
          go_wp2_with fail
          go_ret
          exact ⟨rfl, HG5.out⟩
        · have t0 : decide (T < F2) = true := by simpa using h
          clear h
          go_wp2_with fail
          refine (A.out _ HL4.out).mono ?_
          rintro e w5 ⟨rfl, hg5⟩
          have HG5 := Lib.hid (gtrans HG4.out hg5)
          have c1 := (HR4.out.later hg5).cell 1 _ rfl
          have c0 := (HS4.out.later hg5).cell 0 _ rfl
          clear hg5
          go_wp2_with fail
          go_ret
          exact ⟨rfl, HG5.out⟩

end Go.Proofs.YtmlnlkfdbbnkbaaGreatDoor.Window
