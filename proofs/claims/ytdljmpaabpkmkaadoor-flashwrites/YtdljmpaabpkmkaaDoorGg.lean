/-
  What any record, written up to any cut, makes of any flash, and which record is the latest: the law's walk. Conditions: the table lies where the program lays it; bytes are bytes.
-/
import Derived.Test.YtdljmpaabpkmkaaDoorGf
namespace Go.Proofs.YtdljmpaabpkmkaaDoor.Fls
set_option maxRecDepth 100000
open Go.ChangeShapes Go.WideShapes Go.ChangeAt Go.RowKit
open Go.Proofs.YtdljmpaabpkmkaaDoor.Divs Go.Proofs.YtdljmpaabpkmkaaDoor.Grow Go.Proofs.YtdljmpaabpkmkaaDoor.By Go.Proofs.YtdljmpaabpkmkaaDoor.Wi Go.Proofs.YtdljmpaabpkmkaaDoor.Fa Go.Proofs.YtdljmpaabpkmkaaDoor.Each
open Go.Proofs.YtdljmpaabpkmkaaDoor.Crc (Laid)

theorem sk_len {k : IntKind} {W : World} {p : Option Addr} {l c : Nat} {xs : List Int} (h : Sk k W (.slice p l c) xs) : l = xs.length := by
  obtain ⟨ad, cap, e, _⟩ := h
  simp only [Value.slice.injEq] at e
  exact e.2.1

def XV (a1 a2 a3 : Option Addr) (la lb ln k1 k2 k3 : Nat) (rc : Rc) (cut : Int) (xa xb X Y : List Int) (D : Bool) (E : Int) : Nat → Value → World → Prop
  | 0, v, _ => v = .agg #[.slice a1 la k1, .slice a2 lb k2]
  | 1, v, W => Fv W v xa xb
  | 2, v, _ => v = .agg #[.int .i64 rc.g, .int .i64 rc.c, .int .i64 rc.m, .slice a3 ln k3]
  | 3, v, _ => v = .int .i64 cut
  | 4, v, W => ∃ q, v = .tuple #[q, .bool D, .int .i64 E] ∧ Fv W q X Y
  | 5, v, W => ∃ q, v = .tuple #[q, .bool D, .int .i64 E] ∧ Fv W q X Y
  | 6, v, W => Fv W v X Y
  | 7, v, _ => v = .bool D
  | 8, v, _ => v = .int .i64 E
  | 11, v, _ => v = .bool D
  | 12, v, _ => v = .int .i64 E
  | _, _, _ => True

theorem XV.later (a1 a2 a3 : Option Addr) (la lb ln k1 k2 k3 : Nat) (rc : Rc) (cut : Int) (xa xb X Y : List Int) (D : Bool) (E : Int) (i : Nat) (v : Value) (W W' : World) (h : XV a1 a2 a3 la lb ln k1 k2 k3 rc cut xa xb X Y D E i v W) (g : Later W W') : XV a1 a2 a3 la lb ln k1 k2 k3 rc cut xa xb X Y D E i v W' := by
  unfold XV at *
  split at h <;> try exact h
  · exact h.later g
  · exact (let ⟨q, e, s⟩ := h; ⟨q, e, s.later g⟩)
  · exact (let ⟨q, e, s⟩ := h; ⟨q, e, s.later g⟩)
  · exact h.later g

theorem XV.out (a1 a2 a3 : Option Addr) (la lb ln k1 k2 k3 : Nat) (rc : Rc) (cut : Int) (xa xb X Y : List Int) (D : Bool) (E : Int) (i : Nat) (v : Value) (W W' : World) (g : Nat) (cs : Array Value) (h : XV a1 a2 a3 la lb ln k1 k2 k3 rc cut xa xb X Y D E i v W) (r : RA W g cs 24) (n : Nb cs) (o : Out g W W') : XV a1 a2 a3 la lb ln k1 k2 k3 rc cut xa xb X Y D E i v W' := by
  unfold XV at *
  split at h <;> try exact h
  · exact fv_out h r n o
  · exact (let ⟨q, e, s⟩ := h; ⟨q, e, fv_out s r n o⟩)
  · exact (let ⟨q, e, s⟩ := h; ⟨q, e, fv_out s r n o⟩)
  · exact fv_out h r n o

set_option maxHeartbeats 4000000 in
theorem writes_core (w : World) (hL : Laid w) (xa xb : List Int) (v : Value) (hs : Fv w v xa xb) (ha : Fa.By xa) (hb : Fa.By xb) (r : Rc) (u : Value) (hr : Rk w u r) (hf : Fit r) (cut : Int) : Calls Tryd.prog 3 #[v, u, .int .i64 cut] w fun e w' => e = .returned (.bool true) ∧ Later w w' := by
  have A := Lib.hid (fun W (g : Later w W) => awake_any W (hL.grown g))
  obtain ⟨x, y, rfl, hx, hy⟩ := hs
  obtain ⟨z, rfl, hz⟩ := hr
  obtain ⟨a1, k1, rfl, _⟩ := hx.len
  obtain ⟨a2, k2, rfl, _⟩ := hy.len
  obtain ⟨a3, k3, rfl, _⟩ := hz.len
  have KF := Lib.hid (fun W (g : Later w W) => few_any xa xb _ W ⟨_, _, rfl, hx.later g, hy.later g⟩)
  by_cases hfew : (xa.length ≤ 5000 ∧ xb.length ≤ 5000) ∧ r.b.length ≤ 5000
  · obtain ⟨⟨na, nb⟩, nr⟩ := hfew
    have KO := Lib.hid (fun W (g : Later w W) => own_any xa xb (by omega) (by omega) _ W ⟨_, _, rfl, hx.later g, hy.later g⟩)
    have KR := Lib.hid (fun W u (g : Later w W) (h : Fv W u xa xb) => precover_any xa xb ha hb (by omega) (by omega) u W h (hL.grown g))
    have KL := Lib.hid (fun W (g : Later w W) => rrecover_any xa xb ha hb (by omega) (by omega) _ W ⟨_, _, rfl, hx.later g, hy.later g⟩)
    have KW := Lib.hid (fun W u v (g : Later w W) (h : Fv W u xa xb) (h2 : Rk W v r) => pwrite_any xa xb r cut u v W h h2 hf ha hb (by omega) (by omega) (hL.grown g))
    have KQ := Lib.hid (fun W (g : Later w W) => rwrite_any xa xb r cut _ _ W ⟨_, _, rfl, hx.later g, hy.later g⟩ ⟨_, rfl, hz.later g⟩ hf ha hb (by omega) (by omega))
    rw [decide_eq_true na, decide_eq_true nb] at KF
    have t : ¬ (r.b.length : Int) > 5000 := by omega
    have HZ := Lib.hid hz
    obtain ⟨L, hLL⟩ : ∃ L, lt xa xb = L := ⟨_, rfl⟩
    simp only [hLL] at KR KL
    obtain ⟨lr, S, H⟩ := L
    simp only at KR
    obtain ⟨EH, hEH⟩ : ∃ EH : Int, (if H = true then 0 else 123) = EH := ⟨_, rfl⟩
    simp only [hEH] at KR
    have HEH := Lib.hid hEH
    clear hEH
    obtain ⟨E, hE⟩ : ∃ E, wE xa xb r = E := ⟨_, rfl⟩
    obtain ⟨X, hX⟩ : ∃ X, (if wE xa xb r = 0 then wa xa xb r cut else []) = X := ⟨_, rfl⟩
    obtain ⟨Y, hY⟩ : ∃ Y, (if wE xa xb r = 0 then wb xa xb r cut else []) = Y := ⟨_, rfl⟩
    obtain ⟨D, hD⟩ : ∃ D, (decide (wE xa xb r = 0) && al r cut) = D := ⟨_, rfl⟩
    simp only [hX, hY, hD] at KW KQ
    simp only [hE] at KW KQ
    have HE := Lib.hid hE
    have HXX := Lib.hid hX
    have HYY := Lib.hid hY
    have KB := Lib.hid (fun xs W u v (hu : Sk .u8 W u xs) (hv : Sk .u8 W v xs) => bsame_yes xs u v W hu hv)
    have KT := Lib.hid (fun W u v (h1 : Rk W u lr) (h2 : Rk W v lr) => rsame_any lr lr u v W h1 h2)
    rw [sm_self] at KT
    clear hx hy hz hL ha hb hf na nb nr hLL hE hX hY hD
    generalize xa.length = la at *
    generalize xb.length = lb at *
    generalize r.b.length = ln at *
    have HL0 : Hid (Later w ((w.alloc (.cells #[.slice a1 la k1, .slice a2 lb k2] 24)).alloc (.cells #[.int .i64 r.g, .int .i64 r.c, .int .i64 r.m, .slice a3 ln k3] 26))) := Lib.hid (((Later.refl w).put _).put _)
    have HF0 : Hid (RA ((w.alloc (.cells #[.slice a1 la k1, .slice a2 lb k2] 24)).alloc (.cells #[.int .i64 r.g, .int .i64 r.c, .int .i64 r.m, .slice a3 ln k3] 26)) w.heap.size #[.slice a1 la k1, .slice a2 lb k2] 24) := Lib.hid ((RA.new w _ _).later ((Later.refl _).put _))
    have HB0 : Hid (RA ((w.alloc (.cells #[.slice a1 la k1, .slice a2 lb k2] 24)).alloc (.cells #[.int .i64 r.g, .int .i64 r.c, .int .i64 r.m, .slice a3 ln k3] 26)) (w.heap.size + 1) #[.int .i64 r.g, .int .i64 r.c, .int .i64 r.m, .slice a3 ln k3] 26) := Lib.hid (by
      have := RA.new (w.alloc (.cells #[.slice a1 la k1, .slice a2 lb k2] 24)) #[.int .i64 r.g, .int .i64 r.c, .int .i64 r.m, .slice a3 ln k3] 26
      rwa [World.size_alloc] at this)
    have a0 := HF0.out.cell 0 _ rfl; have a1 := HF0.out.cell 1 _ rfl
    go_enter Tryd.func3, Tryd.ntmps3
    go_wp2_with fail
    clear a0 a1
    refine (KF.out _ HL0.out).mono ?_
    rintro e w1 ⟨rfl, hg1⟩
    have HL3 := Lib.hid (gtrans HL0.out hg1)
    have HF3 := Lib.hid (HF0.out.later hg1)
    have HB3 := Lib.hid (HB0.out.later hg1)
    have b3 := HB3.out.cell 3 _ rfl
    clear hg1
    go_wp2_with fail
    clear b3
    refine region_box 9 10 7 #[.slice none 0 0, .slice none 0 0] 24 (fun cs W => ∃ p1 p2 l1 l2 q1 q2, cs = #[.slice p1 l1 q1, .slice p2 l2 q2] ∧ Sk .u8 W (.slice p1 l1 q1) X ∧ Sk .u8 W (.slice p2 l2 q2) Y) (XV a1 a2 a3 la lb ln k1 k2 k3 r cut xa xb X Y D E) (by kernel_rfl) (by kernel_rfl) (by decide) (by kernel_rfl) (XV.later a1 a2 a3 la lb ln k1 k2 k3 r cut xa xb X Y D E) (XV.out a1 a2 a3 la lb ln k1 k2 k3 r cut xa xb X Y D E) (fun cs W W' ⟨p1, p2, l1, l2, q1, q2, e, s, t⟩ g => ⟨p1, p2, l1, l2, q1, q2, e, s.later g, t.later g⟩) (nb2 _ _ _ _ _ _) ?_ ?_ ?_ ?_ ⟨by decide, by decide⟩
    · intro i hi him his
      match i with
      | 0 =>
        intro o ho
        simp only [List.getElem?_toArray, List.getElem?_cons_zero, Option.some.injEq] at ho
        subst ho
        intro a W hl hold hdep
        refine ite_yes rfl ?_
        have h3 : a.tmps[3]? = some (.pointer (some ⟨w.heap.size, 0, none⟩)) := hold 3 (free_of (by kernel_rfl))
        have e0 := (HF3.out.later hl).cell 0 _ rfl
        have e1 := (HF3.out.later hl).cell 1 _ rfl
        clear hold hdep
        unfold Oper.wp
        go_simp
        exact ⟨_, rfl, rfl, Later.refl _⟩
      | 1 =>
        intro o ho
        simp only [List.getElem?_toArray, List.getElem?_cons_zero, List.getElem?_cons_succ, Option.some.injEq] at ho
        subst ho
        intro a W hl hold hdep
        refine ite_yes rfl ?_
        obtain ⟨_, h26, rfl⟩ := hdep 0 (by decide) (by decide) (by decide) _ _ rfl rfl
        clear hold hdep
        unfold Oper.wp
        go_simp
        refine (KO.out _ (gtrans HL3.out hl)).mono ?_
        rintro e w1 ⟨p, rfl, hp, hg1⟩
        exact ⟨_, rfl, hp, hg1⟩
      | 2 =>
        intro o ho
        simp only [List.getElem?_toArray, List.getElem?_cons_zero, List.getElem?_cons_succ, Option.some.injEq] at ho
        subst ho
        intro a W hl hold hdep
        refine ite_yes rfl ?_
        have h4 : a.tmps[4]? = some (.pointer (some ⟨w.heap.size + 1, 0, none⟩)) := hold 4 (free_of (by kernel_rfl))
        have e0 := (HB3.out.later hl).cell 0 _ rfl
        have e1 := (HB3.out.later hl).cell 1 _ rfl
        have e2 := (HB3.out.later hl).cell 2 _ rfl
        have e3 := (HB3.out.later hl).cell 3 _ rfl
        clear hold hdep
        unfold Oper.wp
        go_simp
        exact ⟨_, rfl, rfl, Later.refl _⟩
      | 3 =>
        intro o ho
        simp only [List.getElem?_toArray, List.getElem?_cons_zero, List.getElem?_cons_succ, Option.some.injEq] at ho
        subst ho
        intro a W hl hold hdep
        refine ite_yes rfl ?_
        have h2 : a.tmps[2]? = some (.int .i64 cut) := hold 2 (free_of (by kernel_rfl))
        clear hold hdep
        unfold Oper.wp
        go_simp
        exact ⟨_, rfl, rfl, Later.refl _⟩
      | 4 =>
        intro o ho
        simp only [List.getElem?_toArray, List.getElem?_cons_zero, List.getElem?_cons_succ, Option.some.injEq] at ho
        subst ho
        intro a W hl hold hdep
        refine ite_yes rfl ?_
        obtain ⟨_, h27, sOw⟩ := hdep 1 (by decide) (by decide) (by decide) _ _ rfl rfl
        obtain ⟨_, h28, rfl⟩ := hdep 2 (by decide) (by decide) (by decide) _ _ rfl rfl
        obtain ⟨_, h29, rfl⟩ := hdep 3 (by decide) (by decide) (by decide) _ _ rfl rfl
        clear hold hdep
        unfold Oper.wp
        go_simp
        refine (KW.out _ _ _ (gtrans HL3.out hl) sOw ⟨_, rfl, HZ.out.later (gtrans HL3.out hl)⟩).mono ?_
        rintro e w1 ⟨p, rfl, hp, hg1⟩
        exact ⟨_, rfl, ⟨_, rfl, hp⟩, hg1⟩
      | 5 =>
        intro o ho
        simp only [List.getElem?_toArray, List.getElem?_cons_zero, List.getElem?_cons_succ, Option.some.injEq] at ho
        subst ho
        intro a W hl hold hdep
        refine ite_yes rfl ?_
        obtain ⟨_, h30, ⟨qW, rfl, sW⟩⟩ := hdep 4 (by decide) (by decide) (by decide) _ _ rfl rfl
        clear hold hdep
        unfold Oper.wp
        go_simp
        exact ⟨_, rfl, ⟨_, rfl, sW⟩, Later.refl _⟩
      | 6 =>
        intro o ho
        simp only [List.getElem?_toArray, List.getElem?_cons_zero, List.getElem?_cons_succ, Option.some.injEq] at ho
        subst ho
        intro a W hl hold hdep
        refine ite_yes rfl ?_
        obtain ⟨_, h25, ⟨qV, rfl, sV⟩⟩ := hdep 5 (by decide) (by decide) (by decide) _ _ rfl rfl
        clear hold hdep
        unfold Oper.wp
        go_simp
        exact ⟨_, rfl, sV, Later.refl _⟩
      | 7 =>
        intro o ho
        simp only [List.getElem?_toArray, List.getElem?_cons_zero, List.getElem?_cons_succ, Option.some.injEq] at ho
        subst ho
        intro a W hl hold hdep
        refine ite_yes rfl ?_
        obtain ⟨_, h25, ⟨qV, rfl, sV⟩⟩ := hdep 5 (by decide) (by decide) (by decide) _ _ rfl rfl
        clear hold hdep
        unfold Oper.wp
        go_simp
        exact ⟨_, rfl, rfl, Later.refl _⟩
      | 8 =>
        intro o ho
        simp only [List.getElem?_toArray, List.getElem?_cons_zero, List.getElem?_cons_succ, Option.some.injEq] at ho
        subst ho
        intro a W hl hold hdep
        refine ite_yes rfl ?_
        obtain ⟨_, h25, ⟨qV, rfl, sV⟩⟩ := hdep 5 (by decide) (by decide) (by decide) _ _ rfl rfl
        clear hold hdep
        unfold Oper.wp
        go_simp
        exact ⟨_, rfl, rfl, Later.refl _⟩
      | 9 => exact absurd rfl him
      | 10 => exact absurd rfl his
      | 11 =>
        intro o ho
        simp only [List.getElem?_toArray, List.getElem?_cons_zero, List.getElem?_cons_succ, Option.some.injEq] at ho
        subst ho
        intro a W hl hold hdep
        refine ite_yes rfl ?_
        obtain ⟨_, h32, rfl⟩ := hdep 7 (by decide) (by decide) (by decide) _ _ rfl rfl
        clear hold hdep
        unfold Oper.wp
        go_simp
        exact ⟨_, rfl, rfl, Later.refl _⟩
      | 12 =>
        intro o ho
        simp only [List.getElem?_toArray, List.getElem?_cons_zero, List.getElem?_cons_succ, Option.some.injEq] at ho
        subst ho
        intro a W hl hold hdep
        refine ite_yes rfl ?_
        obtain ⟨_, h33, rfl⟩ := hdep 8 (by decide) (by decide) (by decide) _ _ rfl rfl
        clear hold hdep
        unfold Oper.wp
        go_simp
        exact ⟨_, rfl, rfl, Later.refl _⟩
      | k + 13 => exact absurd hi (by simp)
    · intro o ho
      simp only [List.getElem?_toArray, List.getElem?_cons_zero, List.getElem?_cons_succ, Option.some.injEq] at ho
      subst ho
      refine ⟨rfl, rfl, fun a W hl => ?_⟩
      unfold Oper.wp
      go_simp
      exact ⟨_, rfl, hl.size, RA.new _ _ _, (Later.refl _).put _⟩
    · intro o ho
      simp only [List.getElem?_toArray, List.getElem?_cons_zero, List.getElem?_cons_succ, Option.some.injEq] at ho
      subst ho
      refine ⟨rfl, rfl, fun a W g hl hd hg hr hdep => ?_⟩
      obtain ⟨_, h31, ⟨x, y, rfl, sx, sy⟩⟩ := hdep 6 (by decide) (by decide) (by decide) _ _ rfl rfl
      obtain ⟨p1, q1, rfl, _⟩ := sx.len
      obtain ⟨p2, q2, rfl, _⟩ := sy.len
      have c0 := hr.cell 0 _ rfl
      have c1 := hr.cell 1 _ rfl
      have f0 := hr.froz 0
      have f1 := hr.froz 1
      clear hdep
      unfold Oper.wp
      go_simp
      exact ⟨later_set2 hl hg _ _, Out.set2 _ _ _ _, _, hr.set2 _ _, nb2 _ _ _ _ _ _, ⟨_, _, _, _, _, _, rfl, sk_out sx hr (nb2 _ _ _ _ _ _) (Out.set2 _ _ _ _), sk_out sy hr (nb2 _ _ _ _ _ _) (Out.set2 _ _ _ _)⟩⟩
    · intro a W hl hd hz hold hall hbox
      obtain ⟨g7, cs7, k7, i7, r7, n7, b7⟩ := hbox
      have k2 : a.tmps[2]? = some (.int .i64 cut) := hold 2 (free_of (by kernel_rfl))
      have k3 : a.tmps[3]? = some (.pointer (some ⟨w.heap.size, 0, none⟩)) := hold 3 (free_of (by kernel_rfl))
      have k4 : a.tmps[4]? = some (.pointer (some ⟨w.heap.size + 1, 0, none⟩)) := hold 4 (free_of (by kernel_rfl))
      have k6 : a.tmps[6]? = some (.bool false) := hold 6 (free_of (by kernel_rfl))
      obtain ⟨_, k8, rfl⟩ := hall 11 _ _ (by decide) (by decide) rfl rfl
      obtain ⟨_, k9, rfl⟩ := hall 12 _ _ (by decide) (by decide) rfl rfl
      have ha := act_eta a 118 [] hz hd
      rw [show (List.range 118).map (fun s => a.tmps.getD s undef) = [a.tmps.getD 0 undef, a.tmps.getD 1 undef, a.tmps.getD 2 undef, a.tmps.getD 3 undef, a.tmps.getD 4 undef, a.tmps.getD 5 undef, a.tmps.getD 6 undef, a.tmps.getD 7 undef, a.tmps.getD 8 undef, a.tmps.getD 9 undef, a.tmps.getD 10 undef, a.tmps.getD 11 undef, a.tmps.getD 12 undef, a.tmps.getD 13 undef, a.tmps.getD 14 undef, a.tmps.getD 15 undef, a.tmps.getD 16 undef, a.tmps.getD 17 undef, a.tmps.getD 18 undef, a.tmps.getD 19 undef, a.tmps.getD 20 undef, a.tmps.getD 21 undef, a.tmps.getD 22 undef, a.tmps.getD 23 undef, a.tmps.getD 24 undef, a.tmps.getD 25 undef, a.tmps.getD 26 undef, a.tmps.getD 27 undef, a.tmps.getD 28 undef, a.tmps.getD 29 undef, a.tmps.getD 30 undef, a.tmps.getD 31 undef, a.tmps.getD 32 undef, a.tmps.getD 33 undef, a.tmps.getD 34 undef, a.tmps.getD 35 undef, a.tmps.getD 36 undef, a.tmps.getD 37 undef, a.tmps.getD 38 undef, a.tmps.getD 39 undef, a.tmps.getD 40 undef, a.tmps.getD 41 undef, a.tmps.getD 42 undef, a.tmps.getD 43 undef, a.tmps.getD 44 undef, a.tmps.getD 45 undef, a.tmps.getD 46 undef, a.tmps.getD 47 undef, a.tmps.getD 48 undef, a.tmps.getD 49 undef, a.tmps.getD 50 undef, a.tmps.getD 51 undef, a.tmps.getD 52 undef, a.tmps.getD 53 undef, a.tmps.getD 54 undef, a.tmps.getD 55 undef, a.tmps.getD 56 undef, a.tmps.getD 57 undef, a.tmps.getD 58 undef, a.tmps.getD 59 undef, a.tmps.getD 60 undef, a.tmps.getD 61 undef, a.tmps.getD 62 undef, a.tmps.getD 63 undef, a.tmps.getD 64 undef, a.tmps.getD 65 undef, a.tmps.getD 66 undef, a.tmps.getD 67 undef, a.tmps.getD 68 undef, a.tmps.getD 69 undef, a.tmps.getD 70 undef, a.tmps.getD 71 undef, a.tmps.getD 72 undef, a.tmps.getD 73 undef, a.tmps.getD 74 undef, a.tmps.getD 75 undef, a.tmps.getD 76 undef, a.tmps.getD 77 undef, a.tmps.getD 78 undef, a.tmps.getD 79 undef, a.tmps.getD 80 undef, a.tmps.getD 81 undef, a.tmps.getD 82 undef, a.tmps.getD 83 undef, a.tmps.getD 84 undef, a.tmps.getD 85 undef, a.tmps.getD 86 undef, a.tmps.getD 87 undef, a.tmps.getD 88 undef, a.tmps.getD 89 undef, a.tmps.getD 90 undef, a.tmps.getD 91 undef, a.tmps.getD 92 undef, a.tmps.getD 93 undef, a.tmps.getD 94 undef, a.tmps.getD 95 undef, a.tmps.getD 96 undef, a.tmps.getD 97 undef, a.tmps.getD 98 undef, a.tmps.getD 99 undef, a.tmps.getD 100 undef, a.tmps.getD 101 undef, a.tmps.getD 102 undef, a.tmps.getD 103 undef, a.tmps.getD 104 undef, a.tmps.getD 105 undef, a.tmps.getD 106 undef, a.tmps.getD 107 undef, a.tmps.getD 108 undef, a.tmps.getD 109 undef, a.tmps.getD 110 undef, a.tmps.getD 111 undef, a.tmps.getD 112 undef, a.tmps.getD 113 undef, a.tmps.getD 114 undef, a.tmps.getD 115 undef, a.tmps.getD 116 undef, a.tmps.getD 117 undef] from rfl, getD_of k2, getD_of k3, getD_of k4, getD_of k6, getD_of k7, getD_of k8, getD_of k9] at ha
      try dsimp only at ha
      rw [ha]
      clear hall hold hz hd ha k2 k3 k4 k6 k7 k8 k9
      generalize a.tmps.getD 0 undef = x0
      generalize a.tmps.getD 1 undef = x1
      generalize a.tmps.getD 5 undef = x5
      generalize a.tmps.getD 10 undef = x10
      generalize a.tmps.getD 11 undef = x11
      generalize a.tmps.getD 12 undef = x12
      generalize a.tmps.getD 13 undef = x13
      generalize a.tmps.getD 14 undef = x14
      generalize a.tmps.getD 15 undef = x15
      generalize a.tmps.getD 16 undef = x16
      generalize a.tmps.getD 17 undef = x17
      generalize a.tmps.getD 18 undef = x18
      generalize a.tmps.getD 19 undef = x19
      generalize a.tmps.getD 20 undef = x20
      generalize a.tmps.getD 21 undef = x21
      generalize a.tmps.getD 22 undef = x22
      generalize a.tmps.getD 23 undef = x23
      generalize a.tmps.getD 24 undef = x24
      generalize a.tmps.getD 25 undef = x25
      generalize a.tmps.getD 26 undef = x26
      generalize a.tmps.getD 27 undef = x27
      generalize a.tmps.getD 28 undef = x28
      generalize a.tmps.getD 29 undef = x29
      generalize a.tmps.getD 30 undef = x30
      generalize a.tmps.getD 31 undef = x31
      generalize a.tmps.getD 32 undef = x32
      generalize a.tmps.getD 33 undef = x33
      generalize a.tmps.getD 34 undef = x34
      generalize a.tmps.getD 35 undef = x35
      generalize a.tmps.getD 36 undef = x36
      generalize a.tmps.getD 37 undef = x37
      generalize a.tmps.getD 38 undef = x38
      generalize a.tmps.getD 39 undef = x39
      generalize a.tmps.getD 40 undef = x40
      generalize a.tmps.getD 41 undef = x41
      generalize a.tmps.getD 42 undef = x42
      generalize a.tmps.getD 43 undef = x43
      generalize a.tmps.getD 44 undef = x44
      generalize a.tmps.getD 45 undef = x45
      generalize a.tmps.getD 46 undef = x46
      generalize a.tmps.getD 47 undef = x47
      generalize a.tmps.getD 48 undef = x48
      generalize a.tmps.getD 49 undef = x49
      generalize a.tmps.getD 50 undef = x50
      generalize a.tmps.getD 51 undef = x51
      generalize a.tmps.getD 52 undef = x52
      generalize a.tmps.getD 53 undef = x53
      generalize a.tmps.getD 54 undef = x54
      generalize a.tmps.getD 55 undef = x55
      generalize a.tmps.getD 56 undef = x56
      generalize a.tmps.getD 57 undef = x57
      generalize a.tmps.getD 58 undef = x58
      generalize a.tmps.getD 59 undef = x59
      generalize a.tmps.getD 60 undef = x60
      generalize a.tmps.getD 61 undef = x61
      generalize a.tmps.getD 62 undef = x62
      generalize a.tmps.getD 63 undef = x63
      generalize a.tmps.getD 64 undef = x64
      generalize a.tmps.getD 65 undef = x65
      generalize a.tmps.getD 66 undef = x66
      generalize a.tmps.getD 67 undef = x67
      generalize a.tmps.getD 68 undef = x68
      generalize a.tmps.getD 69 undef = x69
      generalize a.tmps.getD 70 undef = x70
      generalize a.tmps.getD 71 undef = x71
      generalize a.tmps.getD 72 undef = x72
      generalize a.tmps.getD 73 undef = x73
      generalize a.tmps.getD 74 undef = x74
      generalize a.tmps.getD 75 undef = x75
      generalize a.tmps.getD 76 undef = x76
      generalize a.tmps.getD 77 undef = x77
      generalize a.tmps.getD 78 undef = x78
      generalize a.tmps.getD 79 undef = x79
      generalize a.tmps.getD 80 undef = x80
      generalize a.tmps.getD 81 undef = x81
      generalize a.tmps.getD 82 undef = x82
      generalize a.tmps.getD 83 undef = x83
      generalize a.tmps.getD 84 undef = x84
      generalize a.tmps.getD 85 undef = x85
      generalize a.tmps.getD 86 undef = x86
      generalize a.tmps.getD 87 undef = x87
      generalize a.tmps.getD 88 undef = x88
      generalize a.tmps.getD 89 undef = x89
      generalize a.tmps.getD 90 undef = x90
      generalize a.tmps.getD 91 undef = x91
      generalize a.tmps.getD 92 undef = x92
      generalize a.tmps.getD 93 undef = x93
      generalize a.tmps.getD 94 undef = x94
      generalize a.tmps.getD 95 undef = x95
      generalize a.tmps.getD 96 undef = x96
      generalize a.tmps.getD 97 undef = x97
      generalize a.tmps.getD 98 undef = x98
      generalize a.tmps.getD 99 undef = x99
      generalize a.tmps.getD 100 undef = x100
      generalize a.tmps.getD 101 undef = x101
      generalize a.tmps.getD 102 undef = x102
      generalize a.tmps.getD 103 undef = x103
      generalize a.tmps.getD 104 undef = x104
      generalize a.tmps.getD 105 undef = x105
      generalize a.tmps.getD 106 undef = x106
      generalize a.tmps.getD 107 undef = x107
      generalize a.tmps.getD 108 undef = x108
      generalize a.tmps.getD 109 undef = x109
      generalize a.tmps.getD 110 undef = x110
      generalize a.tmps.getD 111 undef = x111
      generalize a.tmps.getD 112 undef = x112
      generalize a.tmps.getD 113 undef = x113
      generalize a.tmps.getD 114 undef = x114
      generalize a.tmps.getD 115 undef = x115
      generalize a.tmps.getD 116 undef = x116
      generalize a.tmps.getD 117 undef = x117
      obtain ⟨p1, p2, l1, l2, q1, q2, rfl, sx, sy⟩ := b7
      have e1 := sk_len sx
      have e2 := sk_len sy
      have HL4 := Lib.hid (gtrans HL3.out hl)
      have HF4 := Lib.hid (HF3.out.later hl)
      have HB4 := Lib.hid (HB3.out.later hl)
      have HS1 := Lib.hid sx
      have HS2 := Lib.hid sy
      have HR7 := Lib.hid r7
      have HI1 := Lib.hid e1
      have HI2 := Lib.hid e2
      clear hl sx sy r7 n7 i7 e1 e2
      have a0 := HF4.out.cell 0 _ rfl; have a1 := HF4.out.cell 1 _ rfl
      have b0 := HB4.out.cell 0 _ rfl; have b1 := HB4.out.cell 1 _ rfl; have b2 := HB4.out.cell 2 _ rfl; have b3 := HB4.out.cell 3 _ rfl
      go_wp2_with fail
      clear a0 a1
      clear b0 b1 b2 b3
      refine (KQ.out _ HL4.out).mono ?_
      rintro e w5 ⟨u5, rfl, ⟨y5, z5, rfl, hy5, hz5⟩, hg5⟩
      obtain ⟨o1, f1, rfl, _⟩ := hy5.len
      obtain ⟨o2, f2, rfl, _⟩ := hz5.len
      generalize X.length = m1 at *
      generalize Y.length = m2 at *
      have HP5 : Hid (Later w5 (w5.alloc (.cells #[.slice o1 m1 f1, .slice o2 m2 f2, .bool D, .int .i64 E] 34))) := Lib.hid ((Later.refl _).put _)
      have HL5 := Lib.hid (gtrans HL4.out (gtrans hg5 HP5.out))
      have HF5 := Lib.hid (HF4.out.later (gtrans hg5 HP5.out))
      have HR75 := Lib.hid (HR7.out.later (gtrans hg5 HP5.out))
      have HS15 := Lib.hid (HS1.out.later (gtrans hg5 HP5.out))
      have HS25 := Lib.hid (HS2.out.later (gtrans hg5 HP5.out))
      have HW5 : Hid (RA (w5.alloc (.cells #[.slice o1 m1 f1, .slice o2 m2 f2, .bool D, .int .i64 E] 34)) w5.heap.size #[.slice o1 m1 f1, .slice o2 m2 f2, .bool D, .int .i64 E] 34) := Lib.hid (RA.new w5 _ _)
      have HY5 := Lib.hid (hy5.later HP5.out)
      have HZ5 := Lib.hid (hz5.later HP5.out)
      have a0 := HF5.out.cell 0 _ rfl; have a1 := HF5.out.cell 1 _ rfl
      clear hy5 hz5 hg5
      go_wp2_with fail
      clear a0 a1
      refine (KO.out _ HL5.out).mono ?_
      rintro e w6 ⟨u6, rfl, hu6, hg6⟩
      have HL6 := Lib.hid (gtrans HL5.out hg6)
      have HF6 := Lib.hid (HF5.out.later hg6)
      have HU6 := Lib.hid hu6
      have HG6 := Lib.hid hg6
      clear hu6 hg6
      go_wp2_with fail
      refine (KR.out _ _ HL6.out HU6.out).mono ?_
      rintro e w7 ⟨u7, rfl, ⟨y7, rfl, hy7⟩, hg7⟩
      obtain ⟨b1, j1, rfl, _⟩ := hy7.len
      generalize lr.b.length = n1 at *
      have HP7 : Hid (Later w7 (w7.alloc (.cells #[.int .i64 lr.g, .int .i64 lr.c, .int .i64 lr.m, .slice b1 n1 j1] 26))) := Lib.hid ((Later.refl _).put _)
      have HG7 := Lib.hid (gtrans HG6.out (gtrans hg7 HP7.out))
      have HL7 := Lib.hid (gtrans HL6.out (gtrans hg7 HP7.out))
      have HF7 := Lib.hid (HF6.out.later (gtrans hg7 HP7.out))
      have HX7 : Hid (RA (w7.alloc (.cells #[.int .i64 lr.g, .int .i64 lr.c, .int .i64 lr.m, .slice b1 n1 j1] 26)) w7.heap.size #[.int .i64 lr.g, .int .i64 lr.c, .int .i64 lr.m, .slice b1 n1 j1] 26) := Lib.hid (RA.new w7 _ _)
      have HM7 := Lib.hid (hy7.later HP7.out)
      have a0 := HF7.out.cell 0 _ rfl; have a1 := HF7.out.cell 1 _ rfl
      clear hy7 hg7
      go_wp2_with fail
      clear a0 a1
      refine (KL.out _ HL7.out).mono ?_
      rintro e w8 ⟨u8, rfl, ⟨y8, rfl, hy8⟩, hg8⟩
      obtain ⟨c1, d1, rfl, _⟩ := hy8.len
      simp only
      generalize lr.b.length = n3 at *
      have HP8 : Hid (Later w8 (w8.alloc (.cells #[.int .i64 lr.g, .int .i64 lr.c, .int .i64 lr.m, .slice c1 n3 d1, .bool S, .bool H] 39))) := Lib.hid ((Later.refl _).put _)
      have HG8 := Lib.hid (gtrans hg8 HP8.out)
      have HL8 := Lib.hid (gtrans HL7.out HG8.out)
      have HG78 := Lib.hid (gtrans HG7.out HG8.out)
      have HX8 := Lib.hid (HX7.out.later HG8.out)
      have HM8 := Lib.hid (HM7.out.later HG8.out)
      have HW8 := Lib.hid (HW5.out.later HG78.out)
      have HR8 := Lib.hid (HR75.out.later HG78.out)
      have HS18 := Lib.hid (HS15.out.later HG78.out)
      have HS28 := Lib.hid (HS25.out.later HG78.out)
      have HY8 := Lib.hid (HY5.out.later HG78.out)
      have HZ8 := Lib.hid (HZ5.out.later HG78.out)
      have HN8 : Hid (RA (w8.alloc (.cells #[.int .i64 lr.g, .int .i64 lr.c, .int .i64 lr.m, .slice c1 n3 d1, .bool S, .bool H] 39)) w8.heap.size #[.int .i64 lr.g, .int .i64 lr.c, .int .i64 lr.m, .slice c1 n3 d1, .bool S, .bool H] 39) := Lib.hid (RA.new w8 _ _)
      have HK8 := Lib.hid (hy8.later HP8.out)
      have bq0 := HX8.out.cell 0 _ rfl; have bq1 := HX8.out.cell 1 _ rfl; have bq2 := HX8.out.cell 2 _ rfl; have bq3 := HX8.out.cell 3 _ rfl
      have dq2 := HW8.out.cell 2 _ rfl; have dq3 := HW8.out.cell 3 _ rfl
      have nq0 := HN8.out.cell 0 _ rfl; have nq1 := HN8.out.cell 1 _ rfl; have nq2 := HN8.out.cell 2 _ rfl; have nq3 := HN8.out.cell 3 _ rfl; have nq4 := HN8.out.cell 4 _ rfl; have nq5 := HN8.out.cell 5 _ rfl
      clear hy8 hg8
      have HHH : Hid ((EH == 0) = H) := Lib.hid (by rw [← HEH.out]; cases H <;> rfl)
      have hhh := HHH.out
      have hbb : (H != H) = false := by simp
      have hdd : (D != D) = false := by simp
      have hss : (S != S) = false := by simp
      have hee : (E != E) = false := by simp
      go_wp2_with fail
      clear bq0 bq1 bq2 bq3 dq2 dq3 nq0 nq1 nq2 nq3 nq4 nq5 hbb hdd hss hee
      refine (KT.out _ _ _ ⟨_, rfl, HM8.out⟩ ⟨_, rfl, HK8.out⟩).mono ?_
      rintro e w9 ⟨rfl, hg9⟩
      have HL9 := Lib.hid (gtrans HL8.out hg9)
      have HR9 := Lib.hid (HR8.out.later hg9)
      have HW9 := Lib.hid (HW8.out.later hg9)
      have HS19 := Lib.hid (HS18.out.later hg9)
      have HS29 := Lib.hid (HS28.out.later hg9)
      have HY9 := Lib.hid (HY8.out.later hg9)
      have HZ9 := Lib.hid (HZ8.out.later hg9)
      have nq5 := (HN8.out.later hg9).cell 5 _ rfl
      clear hg9
      cases H with
      | true =>
          have eEH : EH = 0 := by rw [← HEH.out]; rfl
          subst eEH
          clear hhh
          by_cases hE0 : E = 0
          · subst hE0
            go_wp2_with fail
            clear nq5
            refine (A.out _ HL9.out).mono ?_
            rintro e w10 ⟨rfl, hg10⟩
            have HL10 := Lib.hid (gtrans HL9.out hg10)
            have HR10 := Lib.hid (HR9.out.later hg10)
            have HW10 := Lib.hid (HW9.out.later hg10)
            have HS110 := Lib.hid (HS19.out.later hg10)
            have HS210 := Lib.hid (HS29.out.later hg10)
            have HY10 := Lib.hid (HY9.out.later hg10)
            have HZ10 := Lib.hid (HZ9.out.later hg10)
            have bq0 := HR10.out.cell 0 _ rfl
            have dq0 := HW10.out.cell 0 _ rfl
            clear hg10
            go_wp2_with fail
            clear bq0 dq0
            refine (KB.out X _ _ _ HS110.out HY10.out).mono ?_
            rintro e w11 ⟨rfl, hg11⟩
            have HL11 := Lib.hid (gtrans HL10.out hg11)
            have HS211 := Lib.hid (HS210.out.later hg11)
            have HZ11 := Lib.hid (HZ10.out.later hg11)
            have bq1 := (HR10.out.later hg11).cell 1 _ rfl
            have dq1 := (HW10.out.later hg11).cell 1 _ rfl
            clear hg11
            go_wp2_with fail
            clear bq1 dq1
            refine (KB.out Y _ _ _ HS211.out HZ11.out).mono ?_
            rintro e w12 ⟨rfl, hg12⟩
            go_wp2_with fail
            go_ret
            exact ⟨rfl, gtrans HL11.out hg12⟩
          · have t5 : (E != 0) = true := by simpa using hE0
            have hw : wE xa xb r ≠ 0 := by rw [HE.out]; exact hE0
            have eX : X = [] := by rw [← HXX.out, if_neg hw]
            have eY : Y = [] := by rw [← HYY.out, if_neg hw]
            have z1 : l1 = 0 := by
              have h := sk_len HS19.out
              rw [h, eX]
              rfl
            have z2 : l2 = 0 := by
              have h := sk_len HS29.out
              rw [h, eY]
              rfl
            subst z1 z2
            clear hw eX eY hE0
            go_wp2_with fail
            clear nq5
            refine (A.out _ HL9.out).mono ?_
            rintro e w10 ⟨rfl, hg10⟩
            have bq0 := (HR9.out.later hg10).cell 0 _ rfl; have bq1 := (HR9.out.later hg10).cell 1 _ rfl
            go_wp2_with fail
            go_ret
            exact ⟨rfl, gtrans HL9.out hg10⟩
      | false =>
          have eEH : EH = 123 := by rw [← HEH.out]; rfl
          subst eEH
          clear hhh
          by_cases hE0 : E = 0
          · subst hE0
            go_wp2_with fail
            clear nq5
            refine (A.out _ HL9.out).mono ?_
            rintro e w10 ⟨rfl, hg10⟩
            have HL10 := Lib.hid (gtrans HL9.out hg10)
            have HR10 := Lib.hid (HR9.out.later hg10)
            have HW10 := Lib.hid (HW9.out.later hg10)
            have HS110 := Lib.hid (HS19.out.later hg10)
            have HS210 := Lib.hid (HS29.out.later hg10)
            have HY10 := Lib.hid (HY9.out.later hg10)
            have HZ10 := Lib.hid (HZ9.out.later hg10)
            have bq0 := HR10.out.cell 0 _ rfl
            have dq0 := HW10.out.cell 0 _ rfl
            clear hg10
            go_wp2_with fail
            clear bq0 dq0
            refine (KB.out X _ _ _ HS110.out HY10.out).mono ?_
            rintro e w11 ⟨rfl, hg11⟩
            have HL11 := Lib.hid (gtrans HL10.out hg11)
            have HS211 := Lib.hid (HS210.out.later hg11)
            have HZ11 := Lib.hid (HZ10.out.later hg11)
            have bq1 := (HR10.out.later hg11).cell 1 _ rfl
            have dq1 := (HW10.out.later hg11).cell 1 _ rfl
            clear hg11
            go_wp2_with fail
            clear bq1 dq1
            refine (KB.out Y _ _ _ HS211.out HZ11.out).mono ?_
            rintro e w12 ⟨rfl, hg12⟩
            go_wp2_with fail
            go_ret
            exact ⟨rfl, gtrans HL11.out hg12⟩
          · have t5 : (E != 0) = true := by simpa using hE0
            have hw : wE xa xb r ≠ 0 := by rw [HE.out]; exact hE0
            have eX : X = [] := by rw [← HXX.out, if_neg hw]
            have eY : Y = [] := by rw [← HYY.out, if_neg hw]
            have z1 : l1 = 0 := by
              have h := sk_len HS19.out
              rw [h, eX]
              rfl
            have z2 : l2 = 0 := by
              have h := sk_len HS29.out
              rw [h, eY]
              rfl
            subst z1 z2
            clear hw eX eY hE0
            go_wp2_with fail
            clear nq5
            refine (A.out _ HL9.out).mono ?_
            rintro e w10 ⟨rfl, hg10⟩
            have bq0 := (HR9.out.later hg10).cell 0 _ rfl; have bq1 := (HR9.out.later hg10).cell 1 _ rfl
            go_wp2_with fail
            go_ret
            exact ⟨rfl, gtrans HL9.out hg10⟩
  · have HFW : Hid ((decide (xa.length ≤ 5000) && decide (xb.length ≤ 5000)) = true → ¬ r.b.length ≤ 5000) := Lib.hid (fun h k => by
      simp only [Bool.and_eq_true, decide_eq_true_eq] at h
      exact hfew ⟨h, k⟩)
    clear hx hy hz hfew ha hb hf
    obtain ⟨fw, hfw⟩ : ∃ fw, (decide (xa.length ≤ 5000) && decide (xb.length ≤ 5000)) = fw := ⟨_, rfl⟩
    simp only [hfw] at KF
    rw [hfw] at HFW
    clear hfw hL
    generalize xa.length = la at *
    generalize xb.length = lb at *
    generalize r.b.length = ln at *
    have HL0 : Hid (Later w ((w.alloc (.cells #[.slice a1 la k1, .slice a2 lb k2] 24)).alloc (.cells #[.int .i64 r.g, .int .i64 r.c, .int .i64 r.m, .slice a3 ln k3] 26))) := Lib.hid (((Later.refl w).put _).put _)
    have HF0 : Hid (RA ((w.alloc (.cells #[.slice a1 la k1, .slice a2 lb k2] 24)).alloc (.cells #[.int .i64 r.g, .int .i64 r.c, .int .i64 r.m, .slice a3 ln k3] 26)) w.heap.size #[.slice a1 la k1, .slice a2 lb k2] 24) := Lib.hid ((RA.new w _ _).later ((Later.refl _).put _))
    have HB0 : Hid (RA ((w.alloc (.cells #[.slice a1 la k1, .slice a2 lb k2] 24)).alloc (.cells #[.int .i64 r.g, .int .i64 r.c, .int .i64 r.m, .slice a3 ln k3] 26)) (w.heap.size + 1) #[.int .i64 r.g, .int .i64 r.c, .int .i64 r.m, .slice a3 ln k3] 26) := Lib.hid (by
      have := RA.new (w.alloc (.cells #[.slice a1 la k1, .slice a2 lb k2] 24)) #[.int .i64 r.g, .int .i64 r.c, .int .i64 r.m, .slice a3 ln k3] 26
      rwa [World.size_alloc] at this)
    have a0 := HF0.out.cell 0 _ rfl; have a1 := HF0.out.cell 1 _ rfl
    go_enter Tryd.func3, Tryd.ntmps3
    go_wp2_with fail
    clear a0 a1
    refine (KF.out _ HL0.out).mono ?_
    rintro e w1 ⟨rfl, hg1⟩
    have HL1 := Lib.hid (gtrans HL0.out hg1)
    have b3 := (HB0.out.later hg1).cell 3 _ rfl
    clear hg1
    cases fw with
    | false =>
      go_wp2_with fail
      refine (A.out _ HL1.out).mono ?_
      rintro e w2 ⟨rfl, hg2⟩
      go_wp2_with fail
      go_ret
      exact ⟨rfl, gtrans HL1.out hg2⟩
    | true =>
      have t : (ln : Int) > 5000 := by have := HFW.out rfl; omega
      go_wp2_with fail
      refine (A.out _ HL1.out).mono ?_
      rintro e w2 ⟨rfl, hg2⟩
      go_wp2_with fail
      go_ret
      exact ⟨rfl, gtrans HL1.out hg2⟩

end Go.Proofs.YtdljmpaabpkmkaaDoor.Fls
