/-
  What Write makes of a flash, whatever record is written, by the program and by the document's reckoning; the walk of the law that behind a write the latest record is the new one, whole, or the old one, whole, as far as the write. Conditions: the table lies where the program lays it; bytes are bytes, and at most 20000 each.
-/
import Derived.Test.YtdljmpaabpkmkaaDoorGc
import Derived.Test.YtdljmpaabpkmkaaDoorEh
namespace Go.Proofs.YtdljmpaabpkmkaaDoor.Fls
set_option maxRecDepth 100000
open Go.ChangeShapes Go.WideShapes Go.ChangeAt Go.RowKit
open Go.Proofs.YtdljmpaabpkmkaaDoor.Divs Go.Proofs.YtdljmpaabpkmkaaDoor.Grow Go.Proofs.YtdljmpaabpkmkaaDoor.By Go.Proofs.YtdljmpaabpkmkaaDoor.Wi Go.Proofs.YtdljmpaabpkmkaaDoor.Fa Go.Proofs.YtdljmpaabpkmkaaDoor.Each
open Go.Proofs.YtdljmpaabpkmkaaDoor.Crc (Laid)

theorem we_no {a b : List Int} {r : Rc} (h : may r = false) : wE a b r = 120 := by
  unfold wE
  rw [h]
  rfl

theorem pwrite_any (a b : List Int) (r : Rc) (cut : Int) (u v : Value) (w : World) (hs : Fv w u a b) (hr : Rk w v r) (hf : Fit r) (ha : Fa.By a) (hb : Fa.By b) (na : a.length ≤ 20000) (nb : b.length ≤ 20000) (hL : Laid w) :
    Calls Tryd.prog 11 #[u, v, .int .i64 cut] w fun e w' => ∃ q, e = .returned (.tuple #[q, .bool (decide (wE a b r = 0) && al r cut), .int .i64 (wE a b r)]) ∧ Fv w' q (if wE a b r = 0 then wa a b r cut else []) (if wE a b r = 0 then wb a b r cut else []) ∧ Later w w' := by
  by_cases hm : may r = true
  · exact pwrite_yes a b r cut u v w hs hr hm hf ha hb na nb hL
  · have hm : may r = false := by simpa using hm
    rw [we_no hm]
    exact (pwrite_no a b r cut u v w hs hr hm).mono fun e w' ⟨h1, h2⟩ => ⟨_, h1, fv_nil _, h2⟩

theorem rwrite_any (a b : List Int) (r : Rc) (cut : Int) (u v : Value) (w : World) (hs : Fv w u a b) (hr : Rk w v r) (hf : Fit r) (ha : Fa.By a) (hb : Fa.By b) (na : a.length ≤ 20000) (nb : b.length ≤ 20000) :
    Calls Tryd.prog 13 #[u, v, .int .i64 cut] w fun e w' => ∃ q, e = .returned q ∧ Wv w' q (if wE a b r = 0 then wa a b r cut else []) (if wE a b r = 0 then wb a b r cut else []) (decide (wE a b r = 0) && al r cut) (wE a b r) ∧ Later w w' := by
  by_cases hm : may r = true
  · exact rwrite_yes a b r cut u v w hs hr hm hf ha hb na nb
  · have hm : may r = false := by simpa using hm
    rw [we_no hm]
    exact rwrite_no a b r cut u v w hs hr hm

theorem wc_len (r : Rc) (cut : Int) (hm : may r = true) : (wc r cut).length ≤ 4148 := by
  unfold wc
  rw [List.length_take]
  have := co_len hm
  omega

theorem wa_len {a b : List Int} {r : Rc} {cut : Int} (hm : may r = true) (na : a.length ≤ 5000) : (wa a b r cut).length ≤ 20000 := by
  unfold wa
  split
  · have := wc_len r cut hm
    omega
  · omega

theorem wb_len {a b : List Int} {r : Rc} {cut : Int} (hm : may r = true) (nb : b.length ≤ 5000) : (wb a b r cut).length ≤ 20000 := by
  unfold wb
  split
  · omega
  · have := wc_len r cut hm
    omega

theorem fv_out {W W' : World} {g : Nat} {v : Value} {a b : List Int} {cs : Array Value} {t : TypeId} (h : Fv W v a b) (r : RA W g cs t) (n : Nb cs) (o : Out g W W') : Fv W' v a b := by
  obtain ⟨x, y, rfl, hx, hy⟩ := h
  exact ⟨x, y, rfl, sk_out hx r n o, sk_out hy r n o⟩

def WV (a1 a2 a3 : Option Addr) (la lb ln k1 k2 k3 : Nat) (rc : Rc) (cut : Int) (xa xb X Y : List Int) (D : Bool) (E : Int) : Nat → Value → World → Prop
  | 0, v, _ => v = .agg #[.slice a1 la k1, .slice a2 lb k2]
  | 1, v, W => Fv W v xa xb
  | 2, v, _ => v = .agg #[.int .i64 rc.g, .int .i64 rc.c, .int .i64 rc.m, .slice a3 ln k3]
  | 3, v, _ => v = .int .i64 cut
  | 4, v, W => ∃ q, v = .tuple #[q, .bool D, .int .i64 E] ∧ Fv W q X Y
  | 5, v, W => ∃ q, v = .tuple #[q, .bool D, .int .i64 E] ∧ Fv W q X Y
  | 6, v, W => Fv W v X Y
  | 7, v, _ => v = .bool D
  | 8, v, _ => v = .int .i64 E
  | 11, v, _ => v = .bool D
  | 12, v, _ => v = .int .i64 E
  | _, _, _ => True

theorem WV.later (a1 a2 a3 : Option Addr) (la lb ln k1 k2 k3 : Nat) (rc : Rc) (cut : Int) (xa xb X Y : List Int) (D : Bool) (E : Int) (i : Nat) (v : Value) (W W' : World) (h : WV a1 a2 a3 la lb ln k1 k2 k3 rc cut xa xb X Y D E i v W) (g : Later W W') : WV a1 a2 a3 la lb ln k1 k2 k3 rc cut xa xb X Y D E i v W' := by
  unfold WV at *
  split at h <;> try exact h
  · exact h.later g
  · exact (let ⟨q, e, s⟩ := h; ⟨q, e, s.later g⟩)
  · exact (let ⟨q, e, s⟩ := h; ⟨q, e, s.later g⟩)
  · exact h.later g

theorem WV.out (a1 a2 a3 : Option Addr) (la lb ln k1 k2 k3 : Nat) (rc : Rc) (cut : Int) (xa xb X Y : List Int) (D : Bool) (E : Int) (i : Nat) (v : Value) (W W' : World) (g : Nat) (cs : Array Value) (h : WV a1 a2 a3 la lb ln k1 k2 k3 rc cut xa xb X Y D E i v W) (r : RA W g cs 24) (n : Nb cs) (o : Out g W W') : WV a1 a2 a3 la lb ln k1 k2 k3 rc cut xa xb X Y D E i v W' := by
  unfold WV at *
  split at h <;> try exact h
  · exact fv_out h r n o
  · exact (let ⟨q, e, s⟩ := h; ⟨q, e, fv_out s r n o⟩)
  · exact (let ⟨q, e, s⟩ := h; ⟨q, e, fv_out s r n o⟩)
  · exact fv_out h r n o

set_option maxHeartbeats 1000000 in
theorem whole_core (w : World) (hL : Laid w) (xa xb : List Int) (v : Value) (hs : Fv w v xa xb) (ha : Fa.By xa) (hb : Fa.By xb) (r : Rc) (u : Value) (hr : Rk w u r) (hf : Fit r) (cut : Int) : Calls Tryd.prog 7 #[v, u, .int .i64 cut] w fun e w' => e = .returned (.bool true) ∧ Later w w' := by
  have A := Lib.hid (fun W (g : Later w W) => awake_any W (hL.grown g))
  obtain ⟨x, y, rfl, hx, hy⟩ := hs
  obtain ⟨z, rfl, hz⟩ := hr
  obtain ⟨a1, k1, rfl, _⟩ := hx.len
  obtain ⟨a2, k2, rfl, _⟩ := hy.len
  obtain ⟨a3, k3, rfl, _⟩ := hz.len
  have KF := Lib.hid (fun W (g : Later w W) => few_any xa xb _ W ⟨_, _, rfl, hx.later g, hy.later g⟩)
  by_cases hfew : (xa.length ≤ 5000 ∧ xb.length ≤ 5000) ∧ r.b.length ≤ 5000
  · obtain ⟨⟨na, nb⟩, nr⟩ := hfew
    have KO := Lib.hid (fun W (g : Later w W) => own_any xa xb (by omega) (by omega) _ W ⟨_, _, rfl, hx.later g, hy.later g⟩)
    have KR := Lib.hid (fun W u (g : Later w W) (h : Fv W u xa xb) => precover_any xa xb ha hb (by omega) (by omega) u W h (hL.grown g))
    have KW := Lib.hid (fun W u v (g : Later w W) (h : Fv W u xa xb) (h2 : Rk W v r) => pwrite_any xa xb r cut u v W h h2 hf ha hb (by omega) (by omega) (hL.grown g))
    rw [decide_eq_true na, decide_eq_true nb] at KF
    have t : ¬ (r.b.length : Int) > 5000 := by omega
    have HZ := Lib.hid hz
    obtain ⟨L, hLL⟩ : ∃ L, lt xa xb = L := ⟨_, rfl⟩
    simp only [hLL] at KR
    have HLL := Lib.hid hLL
    obtain ⟨lr, S, H⟩ := L
    simp only at KR
    obtain ⟨EH, hEH⟩ : ∃ EH : Int, (if H = true then 0 else 123) = EH := ⟨_, rfl⟩
    simp only [hEH] at KR
    have HEH := Lib.hid hEH
    clear hEH
    have HL := Lib.hid hL
    have HNA := Lib.hid (fun hm => wa_len (b := xb) (r := r) (cut := cut) hm na)
    have HNB := Lib.hid (fun hm => wb_len (a := xa) (r := r) (cut := cut) hm nb)
    have HAA := Lib.hid ha
    have HBB := Lib.hid hb
    have HFT := Lib.hid hf
    obtain ⟨E, hE⟩ : ∃ E, wE xa xb r = E := ⟨_, rfl⟩
    obtain ⟨X, hX⟩ : ∃ X, (if wE xa xb r = 0 then wa xa xb r cut else []) = X := ⟨_, rfl⟩
    obtain ⟨Y, hY⟩ : ∃ Y, (if wE xa xb r = 0 then wb xa xb r cut else []) = Y := ⟨_, rfl⟩
    obtain ⟨D, hD⟩ : ∃ D, (decide (wE xa xb r = 0) && al r cut) = D := ⟨_, rfl⟩
    simp only [hX, hY, hD] at KW
    simp only [hE] at KW
    have HE := Lib.hid hE
    have HXX := Lib.hid hX
    have HYY := Lib.hid hY
    have HDD := Lib.hid hD
    clear hx hy hz hL ha hb hf na nb nr hLL hE hX hY hD
    generalize xa.length = la at *
    generalize xb.length = lb at *
    generalize r.b.length = ln at *
    have HL0 : Hid (Later w ((w.alloc (.cells #[.slice a1 la k1, .slice a2 lb k2] 24)).alloc (.cells #[.int .i64 r.g, .int .i64 r.c, .int .i64 r.m, .slice a3 ln k3] 26))) := Lib.hid (((Later.refl w).put _).put _)
    have HF0 : Hid (RA ((w.alloc (.cells #[.slice a1 la k1, .slice a2 lb k2] 24)).alloc (.cells #[.int .i64 r.g, .int .i64 r.c, .int .i64 r.m, .slice a3 ln k3] 26)) w.heap.size #[.slice a1 la k1, .slice a2 lb k2] 24) := Lib.hid ((RA.new w _ _).later ((Later.refl _).put _))
    have HB0 : Hid (RA ((w.alloc (.cells #[.slice a1 la k1, .slice a2 lb k2] 24)).alloc (.cells #[.int .i64 r.g, .int .i64 r.c, .int .i64 r.m, .slice a3 ln k3] 26)) (w.heap.size + 1) #[.int .i64 r.g, .int .i64 r.c, .int .i64 r.m, .slice a3 ln k3] 26) := Lib.hid (by
      have := RA.new (w.alloc (.cells #[.slice a1 la k1, .slice a2 lb k2] 24)) #[.int .i64 r.g, .int .i64 r.c, .int .i64 r.m, .slice a3 ln k3] 26
      rwa [World.size_alloc] at this)
    have a0 := HF0.out.cell 0 _ rfl; have a1 := HF0.out.cell 1 _ rfl
    go_enter Tryd.func7, Tryd.ntmps7
    go_wp2_with fail
    clear a0 a1
    refine (KF.out _ HL0.out).mono ?_
    rintro e w1 ⟨rfl, hg1⟩
    have HL1 := Lib.hid (gtrans HL0.out hg1)
    have HF1 := Lib.hid (HF0.out.later hg1)
    have HB1 := Lib.hid (HB0.out.later hg1)
    have e0 := HF1.out.cell 0 _ rfl; have e1 := HF1.out.cell 1 _ rfl
    have b3 := HB1.out.cell 3 _ rfl
    clear hg1
    go_wp2_with fail
    clear e0 e1 b3
    refine (KO.out _ HL1.out).mono ?_
    rintro e w2 ⟨u2, rfl, hu2, hg2⟩
    have HU2 := Lib.hid hu2
    have HL2 := Lib.hid (gtrans HL1.out hg2)
    have HF2 := Lib.hid (HF1.out.later hg2)
    have HB2 := Lib.hid (HB1.out.later hg2)
    clear hu2 hg2
    go_wp2_with fail
    refine (KR.out _ _ HL2.out HU2.out).mono ?_
    rintro e w3 ⟨u3, rfl, ⟨y3, rfl, hy3⟩, hg3⟩
    obtain ⟨b1, j1, rfl, _⟩ := hy3.len
    generalize lr.b.length = n1 at *
    have HP3 : Hid (Later w3 (w3.alloc (.cells #[.int .i64 lr.g, .int .i64 lr.c, .int .i64 lr.m, .slice b1 n1 j1] 26))) := Lib.hid ((Later.refl _).put _)
    have HL3 := Lib.hid (gtrans HL2.out (gtrans hg3 HP3.out))
    have HF3 := Lib.hid (HF2.out.later (gtrans hg3 HP3.out))
    have HB3 := Lib.hid (HB2.out.later (gtrans hg3 HP3.out))
    have HX3 : Hid (RA (w3.alloc (.cells #[.int .i64 lr.g, .int .i64 lr.c, .int .i64 lr.m, .slice b1 n1 j1] 26)) w3.heap.size #[.int .i64 lr.g, .int .i64 lr.c, .int .i64 lr.m, .slice b1 n1 j1] 26) := Lib.hid (RA.new w3 _ _)
    have HY3 := Lib.hid (hy3.later HP3.out)
    clear hy3 hg3
    go_wp2_with fail
    generalize (w3.alloc (Obj.cells #[Value.int IntKind.i64 lr.g, Value.int IntKind.i64 lr.c, Value.int IntKind.i64 lr.m, Value.slice b1 n1 j1] 26)) = w4 at *
    refine region_box 9 10 10 #[.slice none 0 0, .slice none 0 0] 24 (fun cs W => ∃ p1 p2 l1 l2 q1 q2, cs = #[.slice p1 l1 q1, .slice p2 l2 q2] ∧ Sk .u8 W (.slice p1 l1 q1) X ∧ Sk .u8 W (.slice p2 l2 q2) Y) (WV a1 a2 a3 la lb ln k1 k2 k3 r cut xa xb X Y D E) (by kernel_rfl) (by kernel_rfl) (by decide) (by kernel_rfl) (WV.later a1 a2 a3 la lb ln k1 k2 k3 r cut xa xb X Y D E) (WV.out a1 a2 a3 la lb ln k1 k2 k3 r cut xa xb X Y D E) (fun cs W W' ⟨p1, p2, l1, l2, q1, q2, e, s, t⟩ g => ⟨p1, p2, l1, l2, q1, q2, e, s.later g, t.later g⟩) (nb2 _ _ _ _ _ _) ?_ ?_ ?_ ?_ ⟨by decide, by decide⟩
    · intro i hi him his
      match i with
      | 0 =>
        intro o ho
        simp only [List.getElem?_toArray, List.getElem?_cons_zero, Option.some.injEq] at ho
        subst ho
        intro a W hl hold hdep
        refine ite_yes rfl ?_
        have h3 : a.tmps[3]? = some (.pointer (some ⟨w.heap.size, 0, none⟩)) := hold 3 (free_of (by kernel_rfl))
        have e0 := (HF3.out.later hl).cell 0 _ rfl
        have e1 := (HF3.out.later hl).cell 1 _ rfl
        clear hold hdep
        unfold Oper.wp
        go_simp
        exact ⟨_, rfl, rfl, Later.refl _⟩
      | 1 =>
        intro o ho
        simp only [List.getElem?_toArray, List.getElem?_cons_zero, List.getElem?_cons_succ, Option.some.injEq] at ho
        subst ho
        intro a W hl hold hdep
        refine ite_yes rfl ?_
        obtain ⟨_, h34, rfl⟩ := hdep 0 (by decide) (by decide) (by decide) _ _ rfl rfl
        clear hold hdep
        unfold Oper.wp
        go_simp
        refine (KO.out _ (gtrans HL3.out hl)).mono ?_
        rintro e w1 ⟨p, rfl, hp, hg1⟩
        exact ⟨_, rfl, hp, hg1⟩
      | 2 =>
        intro o ho
        simp only [List.getElem?_toArray, List.getElem?_cons_zero, List.getElem?_cons_succ, Option.some.injEq] at ho
        subst ho
        intro a W hl hold hdep
        refine ite_yes rfl ?_
        have h4 : a.tmps[4]? = some (.pointer (some ⟨w.heap.size + 1, 0, none⟩)) := hold 4 (free_of (by kernel_rfl))
        have e0 := (HB3.out.later hl).cell 0 _ rfl
        have e1 := (HB3.out.later hl).cell 1 _ rfl
        have e2 := (HB3.out.later hl).cell 2 _ rfl
        have e3 := (HB3.out.later hl).cell 3 _ rfl
        clear hold hdep
        unfold Oper.wp
        go_simp
        exact ⟨_, rfl, rfl, Later.refl _⟩
      | 3 =>
        intro o ho
        simp only [List.getElem?_toArray, List.getElem?_cons_zero, List.getElem?_cons_succ, Option.some.injEq] at ho
        subst ho
        intro a W hl hold hdep
        refine ite_yes rfl ?_
        have h2 : a.tmps[2]? = some (.int .i64 cut) := hold 2 (free_of (by kernel_rfl))
        clear hold hdep
        unfold Oper.wp
        go_simp
        exact ⟨_, rfl, rfl, Later.refl _⟩
      | 4 =>
        intro o ho
        simp only [List.getElem?_toArray, List.getElem?_cons_zero, List.getElem?_cons_succ, Option.some.injEq] at ho
        subst ho
        intro a W hl hold hdep
        refine ite_yes rfl ?_
        obtain ⟨_, h35, sOw⟩ := hdep 1 (by decide) (by decide) (by decide) _ _ rfl rfl
        obtain ⟨_, h36, rfl⟩ := hdep 2 (by decide) (by decide) (by decide) _ _ rfl rfl
        obtain ⟨_, h37, rfl⟩ := hdep 3 (by decide) (by decide) (by decide) _ _ rfl rfl
        clear hold hdep
        unfold Oper.wp
        go_simp
        refine (KW.out _ _ _ (gtrans HL3.out hl) sOw ⟨_, rfl, HZ.out.later (gtrans HL3.out hl)⟩).mono ?_
        rintro e w1 ⟨p, rfl, hp, hg1⟩
        exact ⟨_, rfl, ⟨_, rfl, hp⟩, hg1⟩
      | 5 =>
        intro o ho
        simp only [List.getElem?_toArray, List.getElem?_cons_zero, List.getElem?_cons_succ, Option.some.injEq] at ho
        subst ho
        intro a W hl hold hdep
        refine ite_yes rfl ?_
        obtain ⟨_, h38, ⟨qW, rfl, sW⟩⟩ := hdep 4 (by decide) (by decide) (by decide) _ _ rfl rfl
        clear hold hdep
        unfold Oper.wp
        go_simp
        exact ⟨_, rfl, ⟨_, rfl, sW⟩, Later.refl _⟩
      | 6 =>
        intro o ho
        simp only [List.getElem?_toArray, List.getElem?_cons_zero, List.getElem?_cons_succ, Option.some.injEq] at ho
        subst ho
        intro a W hl hold hdep
        refine ite_yes rfl ?_
        obtain ⟨_, h33, ⟨qV, rfl, sV⟩⟩ := hdep 5 (by decide) (by decide) (by decide) _ _ rfl rfl
        clear hold hdep
        unfold Oper.wp
        go_simp
        exact ⟨_, rfl, sV, Later.refl _⟩
      | 7 =>
        intro o ho
        simp only [List.getElem?_toArray, List.getElem?_cons_zero, List.getElem?_cons_succ, Option.some.injEq] at ho
        subst ho
        intro a W hl hold hdep
        refine ite_yes rfl ?_
        obtain ⟨_, h33, ⟨qV, rfl, sV⟩⟩ := hdep 5 (by decide) (by decide) (by decide) _ _ rfl rfl
        clear hold hdep
        unfold Oper.wp
        go_simp
        exact ⟨_, rfl, rfl, Later.refl _⟩
      | 8 =>
        intro o ho
        simp only [List.getElem?_toArray, List.getElem?_cons_zero, List.getElem?_cons_succ, Option.some.injEq] at ho
        subst ho
        intro a W hl hold hdep
        refine ite_yes rfl ?_
        obtain ⟨_, h33, ⟨qV, rfl, sV⟩⟩ := hdep 5 (by decide) (by decide) (by decide) _ _ rfl rfl
        clear hold hdep
        unfold Oper.wp
        go_simp
        exact ⟨_, rfl, rfl, Later.refl _⟩
      | 9 => exact absurd rfl him
      | 10 => exact absurd rfl his
      | 11 =>
        intro o ho
        simp only [List.getElem?_toArray, List.getElem?_cons_zero, List.getElem?_cons_succ, Option.some.injEq] at ho
        subst ho
        intro a W hl hold hdep
        refine ite_yes rfl ?_
        obtain ⟨_, h40, rfl⟩ := hdep 7 (by decide) (by decide) (by decide) _ _ rfl rfl
        clear hold hdep
        unfold Oper.wp
        go_simp
        exact ⟨_, rfl, rfl, Later.refl _⟩
      | 12 =>
        intro o ho
        simp only [List.getElem?_toArray, List.getElem?_cons_zero, List.getElem?_cons_succ, Option.some.injEq] at ho
        subst ho
        intro a W hl hold hdep
        refine ite_yes rfl ?_
        obtain ⟨_, h41, rfl⟩ := hdep 8 (by decide) (by decide) (by decide) _ _ rfl rfl
        clear hold hdep
        unfold Oper.wp
        go_simp
        exact ⟨_, rfl, rfl, Later.refl _⟩
      | k + 13 => exact absurd hi (by simp)
    · intro o ho
      simp only [List.getElem?_toArray, List.getElem?_cons_zero, List.getElem?_cons_succ, Option.some.injEq] at ho
      subst ho
      refine ⟨rfl, rfl, fun a W hl => ?_⟩
      unfold Oper.wp
      go_simp
      exact ⟨_, rfl, hl.size, RA.new _ _ _, (Later.refl _).put _⟩
    · intro o ho
      simp only [List.getElem?_toArray, List.getElem?_cons_zero, List.getElem?_cons_succ, Option.some.injEq] at ho
      subst ho
      refine ⟨rfl, rfl, fun a W g hl hd hg hr hdep => ?_⟩
      obtain ⟨_, h39, ⟨x, y, rfl, sx, sy⟩⟩ := hdep 6 (by decide) (by decide) (by decide) _ _ rfl rfl
      obtain ⟨p1, q1, rfl, _⟩ := sx.len
      obtain ⟨p2, q2, rfl, _⟩ := sy.len
      have c0 := hr.cell 0 _ rfl
      have c1 := hr.cell 1 _ rfl
      have f0 := hr.froz 0
      have f1 := hr.froz 1
      clear hdep
      unfold Oper.wp
      go_simp
      exact ⟨later_set2 hl hg _ _, Out.set2 _ _ _ _, _, hr.set2 _ _, nb2 _ _ _ _ _ _, ⟨_, _, _, _, _, _, rfl, sk_out sx hr (nb2 _ _ _ _ _ _) (Out.set2 _ _ _ _), sk_out sy hr (nb2 _ _ _ _ _ _) (Out.set2 _ _ _ _)⟩⟩
    · intro a W hl hd hz hold hall hbox
      obtain ⟨g10, cs10, k10, i10, r10, n10, b10⟩ := hbox
      have k2 : a.tmps[2]? = some (.int .i64 cut) := hold 2 (free_of (by kernel_rfl))
      have k3 : a.tmps[3]? = some (.pointer (some ⟨w.heap.size, 0, none⟩)) := hold 3 (free_of (by kernel_rfl))
      have k4 : a.tmps[4]? = some (.pointer (some ⟨w.heap.size + 1, 0, none⟩)) := hold 4 (free_of (by kernel_rfl))
      have k6 : a.tmps[6]? = some (.bool false) := hold 6 (free_of (by kernel_rfl))
      have k7 : a.tmps[7]? = some (.pointer (some ⟨w3.heap.size, 0, none⟩)) := hold 7 (free_of (by kernel_rfl))
      have k8 : a.tmps[8]? = some (.bool S) := hold 8 (free_of (by kernel_rfl))
      have k9 : a.tmps[9]? = some (.int .i64 EH) := hold 9 (free_of (by kernel_rfl))
      obtain ⟨_, k11, rfl⟩ := hall 11 _ _ (by decide) (by decide) rfl rfl
      obtain ⟨_, k12, rfl⟩ := hall 12 _ _ (by decide) (by decide) rfl rfl
      have ha := act_eta a 81 [] hz hd
      rw [show (List.range 81).map (fun s => a.tmps.getD s undef) = [a.tmps.getD 0 undef, a.tmps.getD 1 undef, a.tmps.getD 2 undef, a.tmps.getD 3 undef, a.tmps.getD 4 undef, a.tmps.getD 5 undef, a.tmps.getD 6 undef, a.tmps.getD 7 undef, a.tmps.getD 8 undef, a.tmps.getD 9 undef, a.tmps.getD 10 undef, a.tmps.getD 11 undef, a.tmps.getD 12 undef, a.tmps.getD 13 undef, a.tmps.getD 14 undef, a.tmps.getD 15 undef, a.tmps.getD 16 undef, a.tmps.getD 17 undef, a.tmps.getD 18 undef, a.tmps.getD 19 undef, a.tmps.getD 20 undef, a.tmps.getD 21 undef, a.tmps.getD 22 undef, a.tmps.getD 23 undef, a.tmps.getD 24 undef, a.tmps.getD 25 undef, a.tmps.getD 26 undef, a.tmps.getD 27 undef, a.tmps.getD 28 undef, a.tmps.getD 29 undef, a.tmps.getD 30 undef, a.tmps.getD 31 undef, a.tmps.getD 32 undef, a.tmps.getD 33 undef, a.tmps.getD 34 undef, a.tmps.getD 35 undef, a.tmps.getD 36 undef, a.tmps.getD 37 undef, a.tmps.getD 38 undef, a.tmps.getD 39 undef, a.tmps.getD 40 undef, a.tmps.getD 41 undef, a.tmps.getD 42 undef, a.tmps.getD 43 undef, a.tmps.getD 44 undef, a.tmps.getD 45 undef, a.tmps.getD 46 undef, a.tmps.getD 47 undef, a.tmps.getD 48 undef, a.tmps.getD 49 undef, a.tmps.getD 50 undef, a.tmps.getD 51 undef, a.tmps.getD 52 undef, a.tmps.getD 53 undef, a.tmps.getD 54 undef, a.tmps.getD 55 undef, a.tmps.getD 56 undef, a.tmps.getD 57 undef, a.tmps.getD 58 undef, a.tmps.getD 59 undef, a.tmps.getD 60 undef, a.tmps.getD 61 undef, a.tmps.getD 62 undef, a.tmps.getD 63 undef, a.tmps.getD 64 undef, a.tmps.getD 65 undef, a.tmps.getD 66 undef, a.tmps.getD 67 undef, a.tmps.getD 68 undef, a.tmps.getD 69 undef, a.tmps.getD 70 undef, a.tmps.getD 71 undef, a.tmps.getD 72 undef, a.tmps.getD 73 undef, a.tmps.getD 74 undef, a.tmps.getD 75 undef, a.tmps.getD 76 undef, a.tmps.getD 77 undef, a.tmps.getD 78 undef, a.tmps.getD 79 undef, a.tmps.getD 80 undef] from rfl, getD_of k2, getD_of k3, getD_of k4, getD_of k6, getD_of k7, getD_of k8, getD_of k9, getD_of k10, getD_of k11, getD_of k12] at ha
      try dsimp only at ha
      rw [ha]
      clear hall hold hz hd ha k2 k3 k4 k6 k7 k8 k9 k10 k11 k12
      generalize a.tmps.getD 0 undef = x0
      generalize a.tmps.getD 1 undef = x1
      generalize a.tmps.getD 5 undef = x5
      generalize a.tmps.getD 13 undef = x13
      generalize a.tmps.getD 14 undef = x14
      generalize a.tmps.getD 15 undef = x15
      generalize a.tmps.getD 16 undef = x16
      generalize a.tmps.getD 17 undef = x17
      generalize a.tmps.getD 18 undef = x18
      generalize a.tmps.getD 19 undef = x19
      generalize a.tmps.getD 20 undef = x20
      generalize a.tmps.getD 21 undef = x21
      generalize a.tmps.getD 22 undef = x22
      generalize a.tmps.getD 23 undef = x23
      generalize a.tmps.getD 24 undef = x24
      generalize a.tmps.getD 25 undef = x25
      generalize a.tmps.getD 26 undef = x26
      generalize a.tmps.getD 27 undef = x27
      generalize a.tmps.getD 28 undef = x28
      generalize a.tmps.getD 29 undef = x29
      generalize a.tmps.getD 30 undef = x30
      generalize a.tmps.getD 31 undef = x31
      generalize a.tmps.getD 32 undef = x32
      generalize a.tmps.getD 33 undef = x33
      generalize a.tmps.getD 34 undef = x34
      generalize a.tmps.getD 35 undef = x35
      generalize a.tmps.getD 36 undef = x36
      generalize a.tmps.getD 37 undef = x37
      generalize a.tmps.getD 38 undef = x38
      generalize a.tmps.getD 39 undef = x39
      generalize a.tmps.getD 40 undef = x40
      generalize a.tmps.getD 41 undef = x41
      generalize a.tmps.getD 42 undef = x42
      generalize a.tmps.getD 43 undef = x43
      generalize a.tmps.getD 44 undef = x44
      generalize a.tmps.getD 45 undef = x45
      generalize a.tmps.getD 46 undef = x46
      generalize a.tmps.getD 47 undef = x47
      generalize a.tmps.getD 48 undef = x48
      generalize a.tmps.getD 49 undef = x49
      generalize a.tmps.getD 50 undef = x50
      generalize a.tmps.getD 51 undef = x51
      generalize a.tmps.getD 52 undef = x52
      generalize a.tmps.getD 53 undef = x53
      generalize a.tmps.getD 54 undef = x54
      generalize a.tmps.getD 55 undef = x55
      generalize a.tmps.getD 56 undef = x56
      generalize a.tmps.getD 57 undef = x57
      generalize a.tmps.getD 58 undef = x58
      generalize a.tmps.getD 59 undef = x59
      generalize a.tmps.getD 60 undef = x60
      generalize a.tmps.getD 61 undef = x61
      generalize a.tmps.getD 62 undef = x62
      generalize a.tmps.getD 63 undef = x63
      generalize a.tmps.getD 64 undef = x64
      generalize a.tmps.getD 65 undef = x65
      generalize a.tmps.getD 66 undef = x66
      generalize a.tmps.getD 67 undef = x67
      generalize a.tmps.getD 68 undef = x68
      generalize a.tmps.getD 69 undef = x69
      generalize a.tmps.getD 70 undef = x70
      generalize a.tmps.getD 71 undef = x71
      generalize a.tmps.getD 72 undef = x72
      generalize a.tmps.getD 73 undef = x73
      generalize a.tmps.getD 74 undef = x74
      generalize a.tmps.getD 75 undef = x75
      generalize a.tmps.getD 76 undef = x76
      generalize a.tmps.getD 77 undef = x77
      generalize a.tmps.getD 78 undef = x78
      generalize a.tmps.getD 79 undef = x79
      generalize a.tmps.getD 80 undef = x80
      obtain ⟨p1, p2, l1, l2, q1, q2, rfl, sx, sy⟩ := b10
      have HL4 := Lib.hid (gtrans HL3.out hl)
      have HB4 := Lib.hid (HB3.out.later hl)
      have HX4 := Lib.hid (HX3.out.later hl)
      have HY4 := Lib.hid (HY3.out.later hl)
      have HS1 := Lib.hid sx
      have HS2 := Lib.hid sy
      have HR10 := Lib.hid r10
      clear hl sx sy r10 n10 i10
      by_cases hE0 : E = 0
      · subst hE0
        have hW := HE.out
        obtain ⟨hm, _⟩ := wE_ok hW
        have eX : wa xa xb r cut = X := by have := HXX.out; rwa [if_pos hW] at this
        have eY : wb xa xb r cut = Y := by have := HYY.out; rwa [if_pos hW] at this
        have hXb : Fa.By X := by rw [← eX]; exact wa_byte HAA.out hm HFT.out
        have hYb : Fa.By Y := by rw [← eY]; exact wb_byte HBB.out hm HFT.out
        have hXl : X.length ≤ 20000 := by rw [← eX]; exact HNA.out hm
        have hYl : Y.length ≤ 20000 := by rw [← eY]; exact HNB.out hm
        have KV := Lib.hid (fun W u (g : Later w W) (h : Fv W u X Y) => precover_any X Y hXb hYb hXl hYl u W h (HL.out.grown g))
        obtain ⟨L2, hL2⟩ : ∃ L, lt X Y = L := ⟨_, rfl⟩
        simp only [hL2] at KV
        have hD0 : D = al r cut := by rw [← HDD.out, hW]; rfl
        have hall : al r cut = true → L2.1 = r ∧ L2.2.2 = true := fun h => by rw [← hL2, ← eX, ← eY]; exact lt_all HFT.out hW h
        have hcut : al r cut = false → L2.1 = lr ∧ L2.2.2 = H := fun h => by
          have := lt_cut HFT.out hW h
          rwa [eX, eY, hL2, HLL.out] at this
        rw [← hD0] at hall hcut
        have HALL := Lib.hid hall
        have HCUT := Lib.hid hcut
        obtain ⟨nr, S2, H2⟩ := L2
        simp only at KV
        obtain ⟨EN, hEN⟩ : ∃ EN : Int, (if H2 = true then 0 else 123) = EN := ⟨_, rfl⟩
        simp only [hEN] at KV
        have HEN := Lib.hid hEN
        have a0 := HR10.out.cell 0 _ rfl; have a1 := HR10.out.cell 1 _ rfl
        clear hW hm eX eY hXb hYb hXl hYl hL2 hD0 hall hcut hEN
        go_wp2_with fail
        clear a0 a1
        refine (KV.out _ _ HL4.out ⟨_, _, rfl, HS1.out, HS2.out⟩).mono ?_
        rintro e w5 ⟨u5, rfl, ⟨y5, rfl, hy5⟩, hg5⟩
        obtain ⟨e1, f1, rfl, _⟩ := hy5.len
        obtain ⟨n2, hn2⟩ : ∃ n, nr.b.length = n := ⟨_, rfl⟩
        rw [hn2] at hy5 ⊢
        have HP5 : Hid (Later w5 (w5.alloc (.cells #[.int .i64 nr.g, .int .i64 nr.c, .int .i64 nr.m, .slice e1 n2 f1] 26))) := Lib.hid ((Later.refl _).put _)
        have HL5 := Lib.hid (gtrans HL4.out (gtrans hg5 HP5.out))
        have HB5 := Lib.hid (HB4.out.later (gtrans hg5 HP5.out))
        have HX5 := Lib.hid (HX4.out.later (gtrans hg5 HP5.out))
        have HY5 := Lib.hid (HY4.out.later (gtrans hg5 HP5.out))
        have HN5 : Hid (RA (w5.alloc (.cells #[.int .i64 nr.g, .int .i64 nr.c, .int .i64 nr.m, .slice e1 n2 f1] 26)) w5.heap.size #[.int .i64 nr.g, .int .i64 nr.c, .int .i64 nr.m, .slice e1 n2 f1] 26) := Lib.hid (RA.new w5 _ _)
        have HM5 := Lib.hid (hy5.later HP5.out)
        clear hy5 hg5 hn2
        cases D with
        | true =>
          go_wp2_with fail
          refine (A.out _ HL5.out).mono ?_
          rintro e w6 ⟨rfl, hg6⟩
          obtain ⟨en, eh⟩ := HALL.out (by simp)
          try simp only at en eh
          have eEN : EN = 0 := by rw [← HEN.out, eh]; rfl
          subst eEN
          have KS := Lib.hid (fun W u v (h1 : Rk W u nr) (h2 : Rk W v nr) => psame_any nr nr u v W h1 h2 (by rw [en]; exact HFT.out.2) (by rw [en]; exact HFT.out.2))
          rw [sm_self] at KS
          have HZ6 : Hid (Sk .u8 w (.slice a3 ln k3) nr.b) := Lib.hid (by rw [en]; exact HZ.out)
          have HL6 := Lib.hid (gtrans HL5.out hg6)
          have HM6 := Lib.hid (HM5.out.later hg6)
          have HEQ := Lib.hid en
          have a0 := (HN5.out.later hg6).cell 0 _ rfl; have a1 := (HN5.out.later hg6).cell 1 _ rfl; have a2 := (HN5.out.later hg6).cell 2 _ rfl; have a3 := (HN5.out.later hg6).cell 3 _ rfl
          have b0 := (HB5.out.later hg6).cell 0 _ rfl; have b1 := (HB5.out.later hg6).cell 1 _ rfl; have b2 := (HB5.out.later hg6).cell 2 _ rfl; have b3 := (HB5.out.later hg6).cell 3 _ rfl
          clear hg6 en eh
          go_wp2_with fail
          clear a0 a1 a2 a3
          clear b0 b1 b2 b3
          refine (KS.out _ _ _ ⟨_, rfl, HM6.out⟩ ⟨_, by rw [HEQ.out], HZ6.out.later HL6.out⟩).mono ?_
          rintro e w7 ⟨rfl, hg7⟩
          go_wp2_with fail
          go_ret
          exact ⟨rfl, gtrans HL6.out hg7⟩
        | false =>
          go_wp2_with fail
          refine (A.out _ HL5.out).mono ?_
          rintro e w6 ⟨rfl, hg6⟩
          obtain ⟨en, eh⟩ := HCUT.out (by simp)
          try simp only at en eh
          have HL6 := Lib.hid (gtrans HL5.out hg6)
          cases H with
          | false =>
            have eEN : EN = 123 := by rw [← HEN.out, eh]; rfl
            have eEH : EH = 123 := by rw [← HEH.out]; rfl
            subst eEN eEH
            clear hg6 en eh
            go_wp2_with fail
            go_ret
            exact ⟨rfl, HL6.out⟩
          | true =>
            have eEN : EN = 0 := by rw [← HEN.out, eh]; rfl
            have eEH : EH = 0 := by rw [← HEH.out]; rfl
            subst eEN eEH
            have hlb : By lr.b := by
              have h := lt_may HAA.out HBB.out (by rw [HLL.out])
              rw [HLL.out] at h
              exact h.2.2
            have KS := Lib.hid (fun W u v (h1 : Rk W u nr) (h2 : Rk W v nr) => psame_any nr nr u v W h1 h2 (by rw [en]; exact hlb) (by rw [en]; exact hlb))
            rw [sm_self] at KS
            have HM6 := Lib.hid (HM5.out.later hg6)
            have HY6 : Hid (Sk .u8 w6 (.slice b1 n1 j1) nr.b) := Lib.hid (by rw [en]; exact HY5.out.later hg6)
            have HEQ := Lib.hid en
            have a0 := (HN5.out.later hg6).cell 0 _ rfl; have a1 := (HN5.out.later hg6).cell 1 _ rfl; have a2 := (HN5.out.later hg6).cell 2 _ rfl; have a3 := (HN5.out.later hg6).cell 3 _ rfl
            have b0 := (HX5.out.later hg6).cell 0 _ rfl; have b1 := (HX5.out.later hg6).cell 1 _ rfl; have b2 := (HX5.out.later hg6).cell 2 _ rfl; have b3 := (HX5.out.later hg6).cell 3 _ rfl
            clear hg6 en eh hlb
            go_wp2_with fail
            clear a0 a1 a2 a3
            clear b0 b1 b2 b3
            refine (KS.out _ _ _ ⟨_, rfl, HM6.out⟩ ⟨_, by rw [HEQ.out], HY6.out⟩).mono ?_
            rintro e w7 ⟨rfl, hg7⟩
            go_wp2_with fail
            go_ret
            exact ⟨rfl, gtrans HL6.out hg7⟩
      · have t5 : (E != 0) = true := by simpa using hE0
        have hD : D = false := by rw [← HDD.out, HE.out, decide_eq_false hE0]; rfl
        subst hD
        clear hE0
        go_wp2_with fail
        refine (A.out _ HL4.out).mono ?_
        rintro e w6 ⟨rfl, hg6⟩
        go_wp2_with fail
        go_ret
        exact ⟨rfl, gtrans HL4.out hg6⟩
  · have HFW : Hid ((decide (xa.length ≤ 5000) && decide (xb.length ≤ 5000)) = true → ¬ r.b.length ≤ 5000) := Lib.hid (fun h k => by
      simp only [Bool.and_eq_true, decide_eq_true_eq] at h
      exact hfew ⟨h, k⟩)
    clear hx hy hz hfew ha hb hf
    obtain ⟨fw, hfw⟩ : ∃ fw, (decide (xa.length ≤ 5000) && decide (xb.length ≤ 5000)) = fw := ⟨_, rfl⟩
    simp only [hfw] at KF
    rw [hfw] at HFW
    clear hfw hL
    generalize xa.length = la at *
    generalize xb.length = lb at *
    generalize r.b.length = ln at *
    have HL0 : Hid (Later w ((w.alloc (.cells #[.slice a1 la k1, .slice a2 lb k2] 24)).alloc (.cells #[.int .i64 r.g, .int .i64 r.c, .int .i64 r.m, .slice a3 ln k3] 26))) := Lib.hid (((Later.refl w).put _).put _)
    have HF0 : Hid (RA ((w.alloc (.cells #[.slice a1 la k1, .slice a2 lb k2] 24)).alloc (.cells #[.int .i64 r.g, .int .i64 r.c, .int .i64 r.m, .slice a3 ln k3] 26)) w.heap.size #[.slice a1 la k1, .slice a2 lb k2] 24) := Lib.hid ((RA.new w _ _).later ((Later.refl _).put _))
    have HB0 : Hid (RA ((w.alloc (.cells #[.slice a1 la k1, .slice a2 lb k2] 24)).alloc (.cells #[.int .i64 r.g, .int .i64 r.c, .int .i64 r.m, .slice a3 ln k3] 26)) (w.heap.size + 1) #[.int .i64 r.g, .int .i64 r.c, .int .i64 r.m, .slice a3 ln k3] 26) := Lib.hid (by
      have := RA.new (w.alloc (.cells #[.slice a1 la k1, .slice a2 lb k2] 24)) #[.int .i64 r.g, .int .i64 r.c, .int .i64 r.m, .slice a3 ln k3] 26
      rwa [World.size_alloc] at this)
    have a0 := HF0.out.cell 0 _ rfl; have a1 := HF0.out.cell 1 _ rfl
    go_enter Tryd.func7, Tryd.ntmps7
    go_wp2_with fail
    clear a0 a1
    refine (KF.out _ HL0.out).mono ?_
    rintro e w1 ⟨rfl, hg1⟩
    have HL1 := Lib.hid (gtrans HL0.out hg1)
    have b3 := (HB0.out.later hg1).cell 3 _ rfl
    clear hg1
    cases fw with
    | false =>
      go_wp2_with fail
      refine (A.out _ HL1.out).mono ?_
      rintro e w2 ⟨rfl, hg2⟩
      go_wp2_with fail
      go_ret
      exact ⟨rfl, gtrans HL1.out hg2⟩
    | true =>
      have t : (ln : Int) > 5000 := by have := HFW.out rfl; omega
      go_wp2_with fail
      refine (A.out _ HL1.out).mono ?_
      rintro e w2 ⟨rfl, hg2⟩
      go_wp2_with fail
      go_ret
      exact ⟨rfl, gtrans HL1.out hg2⟩

end Go.Proofs.YtdljmpaabpkmkaaDoor.Fls
