/-
  So it goes on, write by write, wherever each one is cut: the law's walk, its first part: plain facts, the sum over the records. Conditions: the table lies where the program lays it; bytes are bytes.
-/
import Derived.Test.YtdljmpaabpkmkaaDoorGg
import Derived.Test.YtdljmpaabpkmkaaDoorGl
namespace Go.Proofs.YtdljmpaabpkmkaaDoor.Fls
set_option maxRecDepth 100000
open Go.ChangeShapes Go.WideShapes Go.ChangeAt Go.RowKit
open Go.Proofs.YtdljmpaabpkmkaaDoor.Divs Go.Proofs.YtdljmpaabpkmkaaDoor.Grow Go.Proofs.YtdljmpaabpkmkaaDoor.By Go.Proofs.YtdljmpaabpkmkaaDoor.Wi Go.Proofs.YtdljmpaabpkmkaaDoor.Fa Go.Proofs.YtdljmpaabpkmkaaDoor.Each
open Go.Proofs.YtdljmpaabpkmkaaDoor.Crc (Laid)

/-- What the slots hold behind some writes, and the last record that was written whole. -/
def Iv (j : Nat) (A B : List Int) (lr : Rc) : Prop := Fa.By A ∧ Fa.By B ∧ A.length ≤ 5000 ∧ B.length ≤ 5000 ∧ Fa.By lr.b ∧
  (((lt A B).2.2 = true ∧ (lt A B).1 = lr ∧ 1 ≤ lr.g ∧ lr.g ≤ j) ∨ ((lt A B).2.2 = false ∧ lr = r0))

theorem iv_zero : Iv 0 [] [] r0 := by
  refine ⟨by unfold Fa.By; simp, by unfold Fa.By; simp, by simp, by simp, by unfold Fa.By r0; simp, .inr ⟨?_, rfl⟩⟩
  rw [ex_lt0]

theorem iv_skip {j : Nat} {A B : List Int} {lr : Rc} (h : Iv j A B lr) : Iv (j + 1) A B lr := by
  obtain ⟨h1, h2, h3, h4, h5, h6⟩ := h
  refine ⟨h1, h2, h3, h4, h5, ?_⟩
  rcases h6 with ⟨a, b, c, d⟩ | h6
  · exact .inl ⟨a, b, c, by omega⟩
  · exact .inr h6

theorem iv_we {j : Nat} {A B : List Int} {lr r : Rc} (h : Iv j A B lr) (hg : r.g = (j : Int) + 1) (hm : may r = true) : wE A B r = 0 := by
  obtain ⟨_, _, _, _, _, h6⟩ := h
  unfold wE
  rw [if_pos hm]
  refine if_neg ?_
  rintro ⟨a, b⟩
  rcases h6 with ⟨_, e, _, d⟩ | ⟨e, _⟩
  · rw [e] at b
    omega
  · rw [e] at a
    cases a

theorem wa_len5 {a b : List Int} {r : Rc} {cut : Int} (hm : may r = true) (na : a.length ≤ 5000) : (wa a b r cut).length ≤ 5000 := by
  unfold wa
  split
  · have := wc_len r cut hm
    omega
  · omega

theorem wb_len5 {a b : List Int} {r : Rc} {cut : Int} (hm : may r = true) (nb : b.length ≤ 5000) : (wb a b r cut).length ≤ 5000 := by
  unfold wb
  split
  · omega
  · have := wc_len r cut hm
    omega

theorem iv_next {j : Nat} {A B : List Int} {lr r : Rc} {cut : Int} (h : Iv j A B lr) (hg : r.g = (j : Int) + 1) (hf : Fit r) (hw : wE A B r = 0) : Iv (j + 1) (wa A B r cut) (wb A B r cut) (if al r cut = true then r else lr) := by
  obtain ⟨h1, h2, h3, h4, h5, h6⟩ := h
  obtain ⟨hm, _⟩ := wE_ok hw
  refine ⟨wa_byte h1 hm hf, wb_byte h2 hm hf, wa_len5 hm h3, wb_len5 hm h4, ?_, ?_⟩
  · split
    · exact hf.2
    · exact h5
  · by_cases ha : al r cut = true
    · obtain ⟨e1, e2⟩ := lt_all hf hw ha
      rw [if_pos ha]
      exact .inl ⟨e2, e1, by omega, by omega⟩
    · have ha' : al r cut = false := by simpa using ha
      obtain ⟨e1, e2⟩ := lt_cut hf hw ha'
      rw [if_neg ha, e1, e2]
      rcases h6 with ⟨a, b, c, d⟩ | h6
      · exact .inl ⟨a, b, c, by omega⟩
      · exact .inr h6

theorem RA.other4 {W : World} {g g' : Nat} {cs : Array Value} {t : TypeId} (h : RA W g cs t) (hn : g ≠ g') (v0 v1 v2 v3 : Value) : RA ((((W.setCell ⟨g', 0, none⟩ v0).setCell ⟨g', 1, none⟩ v1).setCell ⟨g', 2, none⟩ v2).setCell ⟨g', 3, none⟩ v3) g cs t :=
  (((h.other hn 0 v0).other hn 1 v1).other hn 2 v2).other hn 3 v3

theorem RA.other2 {W : World} {g g' : Nat} {cs : Array Value} {t : TypeId} (h : RA W g cs t) (hn : g ≠ g') (v0 v1 : Value) : RA ((W.setCell ⟨g', 0, none⟩ v0).setCell ⟨g', 1, none⟩ v1) g cs t :=
  (h.other hn 0 v0).other hn 1 v1

def SRel (n : Nat) (s i : Value) : Prop := ∃ (j : Nat) (x : Int), j ≤ n ∧ i = .int .i64 (j : Int) ∧ s = .int .i64 x

def GV (p1 p2 az : Option Addr) (la lb ln q1 q2 kz : Nat) (rc : Rc) (bc oc nc kc j : Nat) (cut : Int) (X Y : List Int) (D : Bool) (E : Int) : Nat → Value → World → Prop
  | 0, v, _ => v = .agg #[.slice p1 la q1, .slice p2 lb q2]
  | 1, v, _ => v = .agg #[.int .i64 ((j : Int) + 1), .int .i64 rc.c, .int .i64 rc.m, .slice az ln kz]
  | 2, v, _ => v = .slice (some ⟨bc, oc, none⟩) nc kc
  | 3, v, _ => v = .int .i64 (j : Int)
  | 4, v, _ => v = .pointer (some ⟨bc, oc + j, none⟩)
  | 5, v, _ => v = .int .i64 cut
  | 6, v, W => ∃ q, v = .tuple #[q, .bool D, .int .i64 E] ∧ Fv W q X Y
  | 7, v, W => ∃ q, v = .tuple #[q, .bool D, .int .i64 E] ∧ Fv W q X Y
  | 8, v, W => Fv W v X Y
  | 9, v, _ => v = .bool D
  | 10, v, _ => v = .int .i64 E
  | 13, v, _ => v = .bool D
  | 14, v, _ => v = .int .i64 E
  | _, _, _ => True

theorem GV.later (p1 p2 az : Option Addr) (la lb ln q1 q2 kz : Nat) (rc : Rc) (bc oc nc kc j : Nat) (cut : Int) (X Y : List Int) (D : Bool) (E : Int) (i : Nat) (v : Value) (W W' : World) (h : GV p1 p2 az la lb ln q1 q2 kz rc bc oc nc kc j cut X Y D E i v W) (g : Later W W') : GV p1 p2 az la lb ln q1 q2 kz rc bc oc nc kc j cut X Y D E i v W' := by
  unfold GV at *
  split at h <;> try exact h
  · exact (let ⟨q, e, s⟩ := h; ⟨q, e, s.later g⟩)
  · exact (let ⟨q, e, s⟩ := h; ⟨q, e, s.later g⟩)
  · exact h.later g

theorem GV.out (p1 p2 az : Option Addr) (la lb ln q1 q2 kz : Nat) (rc : Rc) (bc oc nc kc j : Nat) (cut : Int) (X Y : List Int) (D : Bool) (E : Int) (i : Nat) (v : Value) (W W' : World) (g : Nat) (cs : Array Value) (h : GV p1 p2 az la lb ln q1 q2 kz rc bc oc nc kc j cut X Y D E i v W) (r : RA W g cs 24) (n : Nb cs) (o : Out g W W') : GV p1 p2 az la lb ln q1 q2 kz rc bc oc nc kc j cut X Y D E i v W' := by
  unfold GV at *
  split at h <;> try exact h
  · exact (let ⟨q, e, s⟩ := h; ⟨q, e, fv_out s r n o⟩)
  · exact (let ⟨q, e, s⟩ := h; ⟨q, e, fv_out s r n o⟩)
  · exact fv_out h r n o

/-- What stands at the head of each round. -/
def GRel (rs : List Rc) (w : World) (i : Value) (wr : World) : Prop := ∃ (j : Nat) (A B : List Int) (lr : Rc) (p1 p2 p3 : Option Addr) (q1 q2 q3 : Nat), j ≤ rs.length ∧ i = .int .i64 (j : Int) ∧ Later w wr ∧
  RA wr w.heap.size #[.slice p1 A.length q1, .slice p2 B.length q2] 24 ∧ Sk .u8 wr (.slice p1 A.length q1) A ∧ Sk .u8 wr (.slice p2 B.length q2) B ∧
  RA wr (w.heap.size + 1) #[.int .i64 lr.g, .int .i64 lr.c, .int .i64 lr.m, .slice p3 lr.b.length q3] 26 ∧ Sk .u8 wr (.slice p3 lr.b.length q3) lr.b ∧ Iv j A B lr

set_option maxHeartbeats 1000000 in
theorem goes_core (w : World) (hL : Laid w) (rs : List Rc) (v : Value) (hr : Rs w v rs) (hf : ∀ r ∈ rs, Fit r) (cs : List Int) (u : Value) (hc : Sk .i64 w u cs) : Calls Tryd.prog 8 #[v, u] w fun e w' => e = .returned (.bool true) ∧ Later w w' := by
  have A := Lib.hid (fun W (g : Later w W) => awake_any W (hL.grown g))
  obtain ⟨ad, cap, rfl, m1, m2, hcell⟩ := hr
  have HC := Lib.hid hcell
  have HFT := Lib.hid hf
  have HCS := Lib.hid hc
  obtain ⟨ac, kc, rfl, _⟩ := hc.len
  have HL := Lib.hid hL
  clear hc hf hL hcell
  go_enter Tryd.func8, Tryd.ntmps8
  go_wp2_with fail
  go_loop [5, 6] (fun s i => SRel rs.length s i) (fun _ i => rs.length - (intOf i).toNat)
  case atStart => exact ⟨0, 0, by omega, rfl, rfl⟩
  case round =>
    obtain ⟨j, x, hj, rfl, rfl⟩ := hrel
    by_cases hlt : j < rs.length
    · obtain ⟨r, hx⟩ : ∃ r, rs[j]? = some r := ⟨_, List.getElem?_eq_getElem hlt⟩
      obtain ⟨b, off, z, rfl, k0, k1, k2, k3, hz⟩ := HC.out j r hx
      obtain ⟨az, kz, rfl, _⟩ := hz.len
      clear hz hx
      go_wp2_with fail
      go_round
      case rel => exact ⟨j + 1, _, by omega, by go_num, rfl⟩
      case measure => simp [intOf]; omega
    · have hjl : j = rs.length := by omega
      subst hjl
      by_cases c1 : 12 < rs.length
      · have t1 : (rs.length : Int) > 12 := by omega
        go_wp2_with fail
        refine (A.out _ (Later.refl w)).mono ?_
        rintro e w1 ⟨rfl, hg1⟩
        go_wp2_with fail
        go_ret
        exact ⟨rfl, hg1⟩
      · have t1 : ¬ (rs.length : Int) > 12 := by omega
        by_cases c2 : x > 5000
        · go_wp2_with fail
          refine (A.out _ (Later.refl w)).mono ?_
          rintro e w1 ⟨rfl, hg1⟩
          go_wp2_with fail
          go_ret
          exact ⟨rfl, hg1⟩
        · go_wp2_with fail
          go_loopw [9] (fun i wr => GRel rs w i wr) (fun i _ => rs.length - (intOf i).toNat)
          case atStart =>
            refine ⟨0, [], [], r0, none, none, none, 0, 0, 0, by omega, rfl, ((Later.refl w).put _).put _, (RA.new w _ _).later ((Later.refl _).put _), sk_nil _ _, sk_nil _ _, ?_, sk_nil _ _, iv_zero⟩
            have := RA.new (w.alloc (.cells #[.slice none 0 0, .slice none 0 0] 24)) #[.int .i64 0, .int .i64 0, .int .i64 0, .slice none 0 0] 26
            rwa [World.size_alloc] at this
          case round =>
            obtain ⟨j, xa, xb, lr, p1, p2, p3, q1, q2, q3, hj, rfl, hg, hF, hA, hB, hR, hS, hI⟩ := hrel
            have HG := Lib.hid hg
            have HF := Lib.hid hF
            have HA := Lib.hid hA
            have HB := Lib.hid hB
            have HR := Lib.hid hR
            have HS := Lib.hid hS
            have HI := Lib.hid hI
            clear hg hF hA hB hR hS hI
            by_cases hlt : j < rs.length ∧ j < cs.length
            · obtain ⟨hl1, hl2⟩ := hlt
              obtain ⟨r, hx⟩ : ∃ r, rs[j]? = some r := ⟨_, List.getElem?_eq_getElem hl1⟩
              obtain ⟨b, off, z, rfl, k0, k1, k2, k3, hz⟩ := HC.out j r hx
              obtain ⟨az, kz, rfl, _⟩ := hz.len
              have HZ := Lib.hid hz
              have HMem : Hid (r ∈ rs) := Lib.hid (List.mem_of_getElem? hx)
              have e0 := gsome HG.out k0
              have e1 := gsome HG.out k1
              have e2 := gsome HG.out k2
              have e3 := gsome HG.out k3
              clear hz hx k0 k1 k2 k3
              have hcp : 0 < cs.length := by omega
              obtain ⟨bc, oc, kc', ev, _, _, _, hcc⟩ := HCS.out.has hcp
              simp only [Value.slice.injEq] at ev
              obtain ⟨rfl, _, rfl⟩ := ev
              obtain ⟨cut, hcut⟩ : ∃ cut, cs.getD j 0 = cut := ⟨_, rfl⟩
              have hcj := hcc j hl2
              rw [hcut] at hcj
              have HCC := Lib.hid hcj
              have HJC := Lib.hid hl2
              obtain ⟨rj, hrj⟩ : ∃ rj : Rc, rj = ⟨(j : Int) + 1, r.c, r.m, r.b⟩ := ⟨_, rfl⟩
              have HRJ := Lib.hid hrj
              have HFR := Lib.hid (HFT.out r HMem.out)
              have HFJ : Hid (Fit rj) := Lib.hid (by rw [hrj]; exact HFR.out)
              have HGJ : Hid (rj.g = (j : Int) + 1) := Lib.hid (by rw [hrj])
              clear hcp hcc hcut hcj hl2 hrj
              go_wp2_with fail
              clear e0 e1 e2 e3
              have HP : Hid (Later wr (wr.alloc (Obj.cells #[Value.int IntKind.i64 ((j : Int) + 1), Value.int IntKind.i64 r.c, Value.int IntKind.i64 r.m, Value.slice az r.b.length kz] 26))) := Lib.hid ((Later.refl _).put _)
              have HT0 : Hid (RA (wr.alloc (Obj.cells #[Value.int IntKind.i64 ((j : Int) + 1), Value.int IntKind.i64 r.c, Value.int IntKind.i64 r.m, Value.slice az r.b.length kz] 26)) wr.heap.size #[.int .i64 ((j : Int) + 1), .int .i64 r.c, .int .i64 r.m, .slice az r.b.length kz] 26) := Lib.hid (RA.new wr _ _)
              obtain ⟨W0, hW0⟩ : ∃ W0, wr.alloc (Obj.cells #[Value.int IntKind.i64 ((j : Int) + 1), Value.int IntKind.i64 r.c, Value.int IntKind.i64 r.m, Value.slice az r.b.length kz] 26) = W0 := ⟨_, rfl⟩
              rw [hW0] at HP HT0 ⊢
              have HT3 := Lib.hid HT0.out
              have HL3 := Lib.hid (gtrans HG.out HP.out)
              have HF3 := Lib.hid (HF.out.later HP.out)
              have HA3 := Lib.hid (HA.out.later HP.out)
              have HB3 := Lib.hid (HB.out.later HP.out)
              have HR3 := Lib.hid (HR.out.later HP.out)
              have HS3 := Lib.hid (HS.out.later HP.out)
              have HSZ : Hid (w.heap.size + 2 ≤ wr.heap.size) := Lib.hid (by have := HR.out.lt; omega)
              have HSW0 : Hid (W0.heap.size = wr.heap.size + 1) := Lib.hid (by rw [← hW0, World.size_alloc])
              clear hW0
              obtain ⟨E, hE⟩ : ∃ E, wE xa xb rj = E := ⟨_, rfl⟩
              obtain ⟨X, hX⟩ : ∃ X, (if wE xa xb rj = 0 then wa xa xb rj cut else []) = X := ⟨_, rfl⟩
              obtain ⟨Y, hY⟩ : ∃ Y, (if wE xa xb rj = 0 then wb xa xb rj cut else []) = Y := ⟨_, rfl⟩
              obtain ⟨D, hD⟩ : ∃ D, (decide (wE xa xb rj = 0) && al rj cut) = D := ⟨_, rfl⟩
              have KW0 := fun W (g : Later W0 W) => pwrite_any xa xb rj cut (.agg #[.slice p1 xa.length q1, .slice p2 xb.length q2]) (.agg #[.int .i64 ((j : Int) + 1), .int .i64 r.c, .int .i64 r.m, .slice az r.b.length kz]) W ⟨_, _, rfl, HA3.out.later g, HB3.out.later g⟩ (by rw [HRJ.out]; exact ⟨_, rfl, HZ.out.later (gtrans HL3.out g)⟩) HFJ.out HI.out.1 HI.out.2.1 (by have := HI.out.2.2.1; omega) (by have := HI.out.2.2.2.1; omega) (HL.out.grown (gtrans HL3.out g))
              simp only [hX, hY, hD] at KW0
              simp only [hE] at KW0
              have KW := Lib.hid KW0
              have HE := Lib.hid hE
              have HXX := Lib.hid hX
              have HYY := Lib.hid hY
              have HDD := Lib.hid hD
              clear KW0 hE hX hY hD
              refine region_box 11 12 11 #[.slice none 0 0, .slice none 0 0] 24 (fun cs W => ∃ p1 p2 l1 l2 q1 q2, cs = #[.slice p1 l1 q1, .slice p2 l2 q2] ∧ Sk .u8 W (.slice p1 l1 q1) X ∧ Sk .u8 W (.slice p2 l2 q2) Y) (GV p1 p2 az xa.length xb.length r.b.length q1 q2 kz r bc oc cs.length kc j cut X Y D E) (by kernel_rfl) (by kernel_rfl) (by decide) (by kernel_rfl) (GV.later p1 p2 az xa.length xb.length r.b.length q1 q2 kz r bc oc cs.length kc j cut X Y D E) (GV.out p1 p2 az xa.length xb.length r.b.length q1 q2 kz r bc oc cs.length kc j cut X Y D E) (fun cs W W' ⟨p1, p2, l1, l2, q1, q2, e, s, t⟩ g => ⟨p1, p2, l1, l2, q1, q2, e, s.later g, t.later g⟩) (nb2 _ _ _ _ _ _) ?_ ?_ ?_ ?_ ⟨by decide, by decide⟩
              · intro i hi him his
                match i with
                | 0 =>
                  intro o ho
                  simp only [List.getElem?_toArray, List.getElem?_cons_zero, Option.some.injEq] at ho
                  subst ho
                  intro a W hl hold hdep
                  refine ite_yes rfl ?_
                  have h7 : a.tmps[7]? = some (.pointer (some ⟨w.heap.size, 0, none⟩)) := hold 7 (free_of (by kernel_rfl))
                  have e0 := (HF3.out.later hl).cell 0 _ rfl
                  have e1 := (HF3.out.later hl).cell 1 _ rfl
                  clear hold hdep
                  unfold Oper.wp
                  go_simp
                  exact ⟨_, rfl, rfl, Later.refl _⟩
                | 1 =>
                  intro o ho
                  simp only [List.getElem?_toArray, List.getElem?_cons_zero, List.getElem?_cons_succ, Option.some.injEq] at ho
                  subst ho
                  intro a W hl hold hdep
                  refine ite_yes rfl ?_
                  have h10 : a.tmps[10]? = some (.pointer (some ⟨wr.heap.size, 0, none⟩)) := hold 10 (free_of (by kernel_rfl))
                  have e0 := (HT3.out.later hl).cell 0 _ rfl
                  have e1 := (HT3.out.later hl).cell 1 _ rfl
                  have e2 := (HT3.out.later hl).cell 2 _ rfl
                  have e3 := (HT3.out.later hl).cell 3 _ rfl
                  clear hold hdep
                  unfold Oper.wp
                  go_simp
                  exact ⟨_, rfl, rfl, Later.refl _⟩
                | 2 =>
                  intro o ho
                  simp only [List.getElem?_toArray, List.getElem?_cons_zero, List.getElem?_cons_succ, Option.some.injEq] at ho
                  subst ho
                  intro a W hl hold hdep
                  refine ite_yes rfl ?_
                  have h1 : a.tmps[1]? = some (.slice (some ⟨bc, oc, none⟩) cs.length kc) := hold 1 (free_of (by kernel_rfl))
                  clear hold hdep
                  unfold Oper.wp
                  go_simp
                  exact ⟨_, rfl, rfl, Later.refl _⟩
                | 3 =>
                  intro o ho
                  simp only [List.getElem?_toArray, List.getElem?_cons_zero, List.getElem?_cons_succ, Option.some.injEq] at ho
                  subst ho
                  intro a W hl hold hdep
                  refine ite_yes rfl ?_
                  have h9 : a.tmps[9]? = some (.int .i64 (j : Int)) := hold 9 (free_of (by kernel_rfl))
                  clear hold hdep
                  unfold Oper.wp
                  go_simp
                  exact ⟨_, rfl, rfl, Later.refl _⟩
                | 4 =>
                  intro o ho
                  simp only [List.getElem?_toArray, List.getElem?_cons_zero, List.getElem?_cons_succ, Option.some.injEq] at ho
                  subst ho
                  intro a W hl hold hdep
                  refine ite_yes rfl ?_
                  obtain ⟨_, h63, rfl⟩ := hdep 2 (by decide) (by decide) (by decide) _ _ rfl rfl
                  obtain ⟨_, h64, rfl⟩ := hdep 3 (by decide) (by decide) (by decide) _ _ rfl rfl
                  have hjc := HJC.out
                  clear hold hdep
                  unfold Oper.wp
                  go_simp
                  exact ⟨_, rfl, rfl, Later.refl _⟩
                | 5 =>
                  intro o ho
                  simp only [List.getElem?_toArray, List.getElem?_cons_zero, List.getElem?_cons_succ, Option.some.injEq] at ho
                  subst ho
                  intro a W hl hold hdep
                  refine ite_yes rfl ?_
                  obtain ⟨_, h65, rfl⟩ := hdep 4 (by decide) (by decide) (by decide) _ _ rfl rfl
                  have ec := gsome (gtrans HL3.out hl) HCC.out
                  clear hold hdep
                  unfold Oper.wp
                  go_simp
                  exact ⟨_, rfl, rfl, Later.refl _⟩
                | 6 =>
                  intro o ho
                  simp only [List.getElem?_toArray, List.getElem?_cons_zero, List.getElem?_cons_succ, Option.some.injEq] at ho
                  subst ho
                  intro a W hl hold hdep
                  refine ite_yes rfl ?_
                  obtain ⟨_, h61, rfl⟩ := hdep 0 (by decide) (by decide) (by decide) _ _ rfl rfl
                  obtain ⟨_, h62, rfl⟩ := hdep 1 (by decide) (by decide) (by decide) _ _ rfl rfl
                  obtain ⟨_, h66, rfl⟩ := hdep 5 (by decide) (by decide) (by decide) _ _ rfl rfl
                  clear hold hdep
                  unfold Oper.wp
                  go_simp
                  refine (KW.out _ hl).mono ?_
                  rintro e w1 ⟨p, rfl, hp, hg1⟩
                  exact ⟨_, rfl, ⟨_, rfl, hp⟩, hg1⟩
                | 7 =>
                  intro o ho
                  simp only [List.getElem?_toArray, List.getElem?_cons_zero, List.getElem?_cons_succ, Option.some.injEq] at ho
                  subst ho
                  intro a W hl hold hdep
                  refine ite_yes rfl ?_
                  obtain ⟨_, h67, ⟨qW, rfl, sW⟩⟩ := hdep 6 (by decide) (by decide) (by decide) _ _ rfl rfl
                  clear hold hdep
                  unfold Oper.wp
                  go_simp
                  exact ⟨_, rfl, ⟨_, rfl, sW⟩, Later.refl _⟩
                | 8 =>
                  intro o ho
                  simp only [List.getElem?_toArray, List.getElem?_cons_zero, List.getElem?_cons_succ, Option.some.injEq] at ho
                  subst ho
                  intro a W hl hold hdep
                  refine ite_yes rfl ?_
                  obtain ⟨_, h60, ⟨qV, rfl, sV⟩⟩ := hdep 7 (by decide) (by decide) (by decide) _ _ rfl rfl
                  clear hold hdep
                  unfold Oper.wp
                  go_simp
                  exact ⟨_, rfl, sV, Later.refl _⟩
                | 9 =>
                  intro o ho
                  simp only [List.getElem?_toArray, List.getElem?_cons_zero, List.getElem?_cons_succ, Option.some.injEq] at ho
                  subst ho
                  intro a W hl hold hdep
                  refine ite_yes rfl ?_
                  obtain ⟨_, h60, ⟨qV, rfl, sV⟩⟩ := hdep 7 (by decide) (by decide) (by decide) _ _ rfl rfl
                  clear hold hdep
                  unfold Oper.wp
                  go_simp
                  exact ⟨_, rfl, rfl, Later.refl _⟩
                | 10 =>
                  intro o ho
                  simp only [List.getElem?_toArray, List.getElem?_cons_zero, List.getElem?_cons_succ, Option.some.injEq] at ho
                  subst ho
                  intro a W hl hold hdep
                  refine ite_yes rfl ?_
                  obtain ⟨_, h60, ⟨qV, rfl, sV⟩⟩ := hdep 7 (by decide) (by decide) (by decide) _ _ rfl rfl
                  clear hold hdep
                  unfold Oper.wp
                  go_simp
                  exact ⟨_, rfl, rfl, Later.refl _⟩
                | 11 => exact absurd rfl him
                | 12 => exact absurd rfl his
                | 13 =>
                  intro o ho
                  simp only [List.getElem?_toArray, List.getElem?_cons_zero, List.getElem?_cons_succ, Option.some.injEq] at ho
                  subst ho
                  intro a W hl hold hdep
                  refine ite_yes rfl ?_
                  obtain ⟨_, h69, rfl⟩ := hdep 9 (by decide) (by decide) (by decide) _ _ rfl rfl
                  clear hold hdep
                  unfold Oper.wp
                  go_simp
                  exact ⟨_, rfl, rfl, Later.refl _⟩
                | 14 =>
                  intro o ho
                  simp only [List.getElem?_toArray, List.getElem?_cons_zero, List.getElem?_cons_succ, Option.some.injEq] at ho
                  subst ho
                  intro a W hl hold hdep
                  refine ite_yes rfl ?_
                  obtain ⟨_, h70, rfl⟩ := hdep 10 (by decide) (by decide) (by decide) _ _ rfl rfl
                  clear hold hdep
                  unfold Oper.wp
                  go_simp
                  exact ⟨_, rfl, rfl, Later.refl _⟩
                | k + 15 => exact absurd hi (by simp)
              · intro o ho
                simp only [List.getElem?_toArray, List.getElem?_cons_zero, List.getElem?_cons_succ, Option.some.injEq] at ho
                subst ho
                refine ⟨rfl, rfl, fun a W hl => ?_⟩
                unfold Oper.wp
                go_simp
                exact ⟨_, rfl, hl.size, RA.new _ _ _, (Later.refl _).put _⟩
              · intro o ho
                simp only [List.getElem?_toArray, List.getElem?_cons_zero, List.getElem?_cons_succ, Option.some.injEq] at ho
                subst ho
                refine ⟨rfl, rfl, fun a W g hl hd hg hr hdep => ?_⟩
                obtain ⟨_, h68, ⟨x, y, rfl, sx, sy⟩⟩ := hdep 8 (by decide) (by decide) (by decide) _ _ rfl rfl
                obtain ⟨p1, q1, rfl, _⟩ := sx.len
                obtain ⟨p2, q2, rfl, _⟩ := sy.len
                have c0 := hr.cell 0 _ rfl
                have c1 := hr.cell 1 _ rfl
                have f0 := hr.froz 0
                have f1 := hr.froz 1
                clear hdep
                unfold Oper.wp
                go_simp
                exact ⟨later_set2 hl hg _ _, Out.set2 _ _ _ _, _, hr.set2 _ _, nb2 _ _ _ _ _ _, ⟨_, _, _, _, _, _, rfl, sk_out sx hr (nb2 _ _ _ _ _ _) (Out.set2 _ _ _ _), sk_out sy hr (nb2 _ _ _ _ _ _) (Out.set2 _ _ _ _)⟩⟩
              · intro a W hl hd hz hold hall hbox
                obtain ⟨g11, cs11, k11, i11, r11, n11, b11⟩ := hbox
                obtain ⟨_, k12, rfl⟩ := hall 13 _ _ (by decide) (by decide) rfl rfl
                obtain ⟨_, k13, rfl⟩ := hall 14 _ _ (by decide) (by decide) rfl rfl
                have ha := act_fold [61, 62, 63, 64, 65, 66, 67, 60, 68, 69, 70, 11, 12, 13] (by kernel_rfl) hd hz hold
                rw [ha]
                simp only [puts, List.foldl_cons, List.foldl_nil]
                rw [getD_of k11, getD_of k12, getD_of k13]
                clear hall hold hz hd ha k11 k12 k13
                generalize a.tmps.getD 61 undef = x61
                generalize a.tmps.getD 62 undef = x62
                generalize a.tmps.getD 63 undef = x63
                generalize a.tmps.getD 64 undef = x64
                generalize a.tmps.getD 65 undef = x65
                generalize a.tmps.getD 66 undef = x66
                generalize a.tmps.getD 67 undef = x67
                generalize a.tmps.getD 60 undef = x60
                generalize a.tmps.getD 68 undef = x68
                generalize a.tmps.getD 69 undef = x69
                generalize a.tmps.getD 70 undef = x70
                simp only [Act.put]
                obtain ⟨d1, d2, l1, l2, y1, y2, rfl, sx, sy⟩ := b11
                have HLW := Lib.hid (gtrans HL3.out hl)
                have HFW := Lib.hid (HF3.out.later hl)
                have HRW := Lib.hid (HR3.out.later hl)
                have HTW := Lib.hid (HT3.out.later hl)
                have HAW := Lib.hid (HA3.out.later hl)
                have HBW := Lib.hid (HB3.out.later hl)
                have HSW := Lib.hid (HS3.out.later hl)
                have HSX := Lib.hid sx
                have HSY := Lib.hid sy
                have HGW := Lib.hid r11
                have hsz := HSZ.out
                have hsw := HSW0.out
                have hne1 : w.heap.size ≠ w.heap.size + 1 := by omega
                have hne2 : w.heap.size ≠ wr.heap.size := by omega
                have hne3 : w.heap.size + 1 ≠ wr.heap.size := by omega
                clear hl sx sy r11 n11
                by_cases hE0 : E = 0
                · have hw0 : wE xa xb rj = 0 := HE.out.trans hE0
                  obtain ⟨hm, _⟩ := wE_ok hw0
                  have eX : wa xa xb rj cut = X := by have := HXX.out; rwa [if_pos hw0] at this
                  have eY : wb xa xb rj cut = Y := by have := HYY.out; rwa [if_pos hw0] at this
                  have hD0 : al rj cut = D := by rw [← HDD.out, hw0]; rfl
                  have hIv := iv_next (cut := cut) HI.out HGJ.out HFJ.out hw0
                  rw [eX, eY, hD0] at hIv
                  obtain ⟨i1, i2, i3, i4, i5, i6⟩ := hIv
                  have KV0 := fun W (g : Later w W) (h : Fv W (.agg #[.slice d1 l1 y1, .slice d2 l2 y2]) X Y) => precover_any X Y i1 i2 (by omega) (by omega) _ W h (HL.out.grown g)
                  obtain ⟨L2, hL2⟩ : ∃ L, lt X Y = L := ⟨_, rfl⟩
                  simp only [hL2] at KV0
                  rw [hL2] at i6
                  obtain ⟨nr, S2, H2⟩ := L2
                  simp only at KV0 i6
                  obtain ⟨EN, hEN⟩ : ∃ EN : Int, (if H2 = true then 0 else 123) = EN := ⟨_, rfl⟩
                  simp only [hEN] at KV0
                  have KV := Lib.hid KV0
                  have HEN := Lib.hid hEN
                  have hIv := iv_next (cut := cut) HI.out HGJ.out HFJ.out hw0
                  rw [eX, eY, hD0] at hIv
                  subst hE0
                  clear hw0 hm eX eY KV0 hL2 hEN i1 i2 i3 i4 i5
                  cases D with
                  | true =>
                    have HCASE := Lib.hid i6
                    have HIV := Lib.hid hIv
                    simp only [if_true] at HCASE HIV
                    clear i6 hIv
                    have HLS : Hid (Later w ((((((W.setCell ⟨w.heap.size, 0, none⟩ (.slice d1 l1 y1)).setCell ⟨w.heap.size, 1, none⟩ (.slice d2 l2 y2)).setCell ⟨w.heap.size + 1, 0, none⟩ (.int .i64 ((j : Int) + 1))).setCell ⟨w.heap.size + 1, 1, none⟩ (.int .i64 r.c)).setCell ⟨w.heap.size + 1, 2, none⟩ (.int .i64 r.m)).setCell ⟨w.heap.size + 1, 3, none⟩ (.slice az r.b.length kz))) := Lib.hid (later_set4 (later_set2 HLW.out (Nat.le_refl _) _ _) (by omega) _ _ _ _)
                    have HFS : Hid (RA ((((((W.setCell ⟨w.heap.size, 0, none⟩ (.slice d1 l1 y1)).setCell ⟨w.heap.size, 1, none⟩ (.slice d2 l2 y2)).setCell ⟨w.heap.size + 1, 0, none⟩ (.int .i64 ((j : Int) + 1))).setCell ⟨w.heap.size + 1, 1, none⟩ (.int .i64 r.c)).setCell ⟨w.heap.size + 1, 2, none⟩ (.int .i64 r.m)).setCell ⟨w.heap.size + 1, 3, none⟩ (.slice az r.b.length kz)) w.heap.size #[.slice d1 l1 y1, .slice d2 l2 y2] 24) := Lib.hid ((HFW.out.set2 _ _).other4 (by omega) _ _ _ _)
                    have HRS : Hid (RA ((((((W.setCell ⟨w.heap.size, 0, none⟩ (.slice d1 l1 y1)).setCell ⟨w.heap.size, 1, none⟩ (.slice d2 l2 y2)).setCell ⟨w.heap.size + 1, 0, none⟩ (.int .i64 ((j : Int) + 1))).setCell ⟨w.heap.size + 1, 1, none⟩ (.int .i64 r.c)).setCell ⟨w.heap.size + 1, 2, none⟩ (.int .i64 r.m)).setCell ⟨w.heap.size + 1, 3, none⟩ (.slice az r.b.length kz)) (w.heap.size + 1) #[.int .i64 ((j : Int) + 1), .int .i64 r.c, .int .i64 r.m, .slice az r.b.length kz] 26) := Lib.hid ((HRW.out.other2 (by omega) _ _).set4 _ _ _ _)
                    have HA1 : Hid (Sk .u8 ((W.setCell ⟨w.heap.size, 0, none⟩ (.slice d1 l1 y1)).setCell ⟨w.heap.size, 1, none⟩ (.slice d2 l2 y2)) (.slice d1 l1 y1) X) := Lib.hid (sk_out HSX.out HFW.out (nb2 _ _ _ _ _ _) (Out.set2 _ _ _ _))
                    have HB1 : Hid (Sk .u8 ((W.setCell ⟨w.heap.size, 0, none⟩ (.slice d1 l1 y1)).setCell ⟨w.heap.size, 1, none⟩ (.slice d2 l2 y2)) (.slice d2 l2 y2) Y) := Lib.hid (sk_out HSY.out HFW.out (nb2 _ _ _ _ _ _) (Out.set2 _ _ _ _))
                    have HR1 : Hid (RA ((W.setCell ⟨w.heap.size, 0, none⟩ (.slice d1 l1 y1)).setCell ⟨w.heap.size, 1, none⟩ (.slice d2 l2 y2)) (w.heap.size + 1) #[.int .i64 lr.g, .int .i64 lr.c, .int .i64 lr.m, .slice p3 lr.b.length q3] 26) := Lib.hid (HRW.out.other2 (by omega) _ _)
                    have HAS : Hid (Sk .u8 ((((((W.setCell ⟨w.heap.size, 0, none⟩ (.slice d1 l1 y1)).setCell ⟨w.heap.size, 1, none⟩ (.slice d2 l2 y2)).setCell ⟨w.heap.size + 1, 0, none⟩ (.int .i64 ((j : Int) + 1))).setCell ⟨w.heap.size + 1, 1, none⟩ (.int .i64 r.c)).setCell ⟨w.heap.size + 1, 2, none⟩ (.int .i64 r.m)).setCell ⟨w.heap.size + 1, 3, none⟩ (.slice az r.b.length kz)) (.slice d1 l1 y1) X) := Lib.hid (sk_out HA1.out HR1.out (nb4 _ _ _ _ _ _) (Out.set4 _ _ _ _ _ _))
                    have HBS : Hid (Sk .u8 ((((((W.setCell ⟨w.heap.size, 0, none⟩ (.slice d1 l1 y1)).setCell ⟨w.heap.size, 1, none⟩ (.slice d2 l2 y2)).setCell ⟨w.heap.size + 1, 0, none⟩ (.int .i64 ((j : Int) + 1))).setCell ⟨w.heap.size + 1, 1, none⟩ (.int .i64 r.c)).setCell ⟨w.heap.size + 1, 2, none⟩ (.int .i64 r.m)).setCell ⟨w.heap.size + 1, 3, none⟩ (.slice az r.b.length kz)) (.slice d2 l2 y2) Y) := Lib.hid (sk_out HB1.out HR1.out (nb4 _ _ _ _ _ _) (Out.set4 _ _ _ _ _ _))
                    have HSS : Hid (Sk .u8 ((((((W.setCell ⟨w.heap.size, 0, none⟩ (.slice d1 l1 y1)).setCell ⟨w.heap.size, 1, none⟩ (.slice d2 l2 y2)).setCell ⟨w.heap.size + 1, 0, none⟩ (.int .i64 ((j : Int) + 1))).setCell ⟨w.heap.size + 1, 1, none⟩ (.int .i64 r.c)).setCell ⟨w.heap.size + 1, 2, none⟩ (.int .i64 r.m)).setCell ⟨w.heap.size + 1, 3, none⟩ (.slice az r.b.length kz)) (.slice az r.b.length kz) r.b) := Lib.hid (HZ.out.later HLS.out)
                    have rr0 := HR1.out.cell 0 _ rfl; have rr1 := HR1.out.cell 1 _ rfl; have rr2 := HR1.out.cell 2 _ rfl; have rr3 := HR1.out.cell 3 _ rfl; have rrf0 := HR1.out.froz 0; have rrf1 := HR1.out.froz 1; have rrf2 := HR1.out.froz 2; have rrf3 := HR1.out.froz 3
                    have tt0 := (HTW.out.other2 (by omega) _ _ : RA ((W.setCell ⟨w.heap.size, 0, none⟩ (.slice d1 l1 y1)).setCell ⟨w.heap.size, 1, none⟩ (.slice d2 l2 y2)) wr.heap.size _ _).cell 0 _ rfl; have tt1 := (HTW.out.other2 (by omega) _ _ : RA ((W.setCell ⟨w.heap.size, 0, none⟩ (.slice d1 l1 y1)).setCell ⟨w.heap.size, 1, none⟩ (.slice d2 l2 y2)) wr.heap.size _ _).cell 1 _ rfl; have tt2 := (HTW.out.other2 (by omega) _ _ : RA ((W.setCell ⟨w.heap.size, 0, none⟩ (.slice d1 l1 y1)).setCell ⟨w.heap.size, 1, none⟩ (.slice d2 l2 y2)) wr.heap.size _ _).cell 2 _ rfl; have tt3 := (HTW.out.other2 (by omega) _ _ : RA ((W.setCell ⟨w.heap.size, 0, none⟩ (.slice d1 l1 y1)).setCell ⟨w.heap.size, 1, none⟩ (.slice d2 l2 y2)) wr.heap.size _ _).cell 3 _ rfl
                    have gg0 := HGW.out.cell 0 _ rfl; have gg1 := HGW.out.cell 1 _ rfl
                    have ff0 := HFW.out.cell 0 _ rfl; have ff1 := HFW.out.cell 1 _ rfl; have fff0 := HFW.out.froz 0; have fff1 := HFW.out.froz 1
                    have fs0 := HFS.out.cell 0 _ rfl; have fs1 := HFS.out.cell 1 _ rfl
                    clear hD0
                    go_wp2_with fail
                    clear gg0 gg1 ff0 ff1 fff0 fff1 fs0 fs1 rr0 rr1 rr2 rr3 rrf0 rrf1 rrf2 rrf3 tt0 tt1 tt2 tt3
                    refine (KV.out _ HLS.out ⟨_, _, rfl, HAS.out, HBS.out⟩).mono ?_
                    rintro e w5 ⟨u5, rfl, ⟨y5, rfl, hy5⟩, hg5⟩
                    obtain ⟨e1, f1, rfl, _⟩ := hy5.len
                    obtain ⟨n2, hn2⟩ : ∃ n, nr.b.length = n := ⟨_, rfl⟩
                    rw [hn2] at hy5 ⊢
                    have HP5 : Hid (Later w5 (w5.alloc (.cells #[.int .i64 nr.g, .int .i64 nr.c, .int .i64 nr.m, .slice e1 n2 f1] 26))) := Lib.hid ((Later.refl _).put _)
                    have HG5 := Lib.hid (gtrans hg5 HP5.out)
                    have HL5 := Lib.hid (gtrans HLS.out HG5.out)
                    have HF5 := Lib.hid (HFS.out.later HG5.out)
                    have HR5 := Lib.hid (HRS.out.later HG5.out)
                    have HA5 := Lib.hid (HAS.out.later HG5.out)
                    have HB5 := Lib.hid (HBS.out.later HG5.out)
                    have HS5 := Lib.hid (HSS.out.later HG5.out)
                    have HN5 : Hid (RA (w5.alloc (.cells #[.int .i64 nr.g, .int .i64 nr.c, .int .i64 nr.m, .slice e1 n2 f1] 26)) w5.heap.size #[.int .i64 nr.g, .int .i64 nr.c, .int .i64 nr.m, .slice e1 n2 f1] 26) := Lib.hid (RA.new w5 _ _)
                    have HM5 := Lib.hid (hy5.later HP5.out)
                    have HX1 := Lib.hid (sk_len HAS.out)
                    have HX2 := Lib.hid (sk_len HBS.out)
                    have HNX := Lib.hid hn2
                    clear hy5 hg5 hn2
                    rcases HCASE.out with ⟨eh, en, e1g, e2g⟩ | ⟨eh, en⟩
                    · have eEN : EN = 0 := by rw [← HEN.out, eh]; rfl
                      subst eEN
                      have tg : decide (((j : Int) + 1) > 0) = true := decide_eq_true (by omega)
                      have KS := Lib.hid (fun W u v (h1 : Rk W u nr) (h2 : Rk W v nr) => psame_any nr nr u v W h1 h2 (by rw [en]; exact HFJ.out.2) (by rw [en]; exact HFJ.out.2))
                      rw [sm_self] at KS
                      have HEQ := Lib.hid en
                      have HQ5 : Hid (Sk .u8 (w5.alloc (.cells #[.int .i64 nr.g, .int .i64 nr.c, .int .i64 nr.m, .slice e1 n2 f1] 26)) (.slice az r.b.length kz) nr.b) := Lib.hid (by
                        have e : nr.b = r.b := by rw [en, HRJ.out]
                        rw [e]
                        exact HS5.out)
                      have rr0 := HR5.out.cell 0 _ rfl; have rr1 := HR5.out.cell 1 _ rfl; have rr2 := HR5.out.cell 2 _ rfl; have rr3 := HR5.out.cell 3 _ rfl
                      have nn0 := HN5.out.cell 0 _ rfl; have nn1 := HN5.out.cell 1 _ rfl; have nn2 := HN5.out.cell 2 _ rfl; have nn3 := HN5.out.cell 3 _ rfl
                      clear eh en e1g e2g
                      go_wp2_with fail
                      clear rr0 rr1 rr2 rr3
                      clear nn0 nn1 nn2 nn3
                      refine (KS.out _ _ _ ⟨_, rfl, HM5.out⟩ ⟨_, by rw [HEQ.out, HRJ.out], HQ5.out⟩).mono ?_
                      rintro e w6 ⟨rfl, hg6⟩
                      have HG6 := Lib.hid hg6
                      clear hg6 tg
                      go_wp2_with fail
                      go_roundw
                      case rel => exact ⟨j + 1, X, Y, rj, d1, d2, az, y1, y2, kz, by omega, by go_num, gtrans HL5.out HG6.out, by rw [← HX1.out, ← HX2.out]; exact HF5.out.later HG6.out, by rw [← HX1.out]; exact HA5.out.later HG6.out, by rw [← HX2.out]; exact HB5.out.later HG6.out, by rw [HRJ.out]; exact HR5.out.later HG6.out, by rw [HRJ.out]; exact HS5.out.later HG6.out, HIV.out⟩
                      case measure => simp [intOf]; omega
                    · have eEN : EN = 123 := by rw [← HEN.out, eh]; rfl
                      subst eEN
                      exfalso
                      have := congrArg Rc.g en
                      rw [HGJ.out] at this
                      simp only [r0] at this
                      omega
                  | false =>
                    have HCASE := Lib.hid i6
                    have HIV := Lib.hid hIv
                    simp only [Bool.false_eq_true, if_false] at HCASE HIV
                    clear i6 hIv
                    have HLS : Hid (Later w ((W.setCell ⟨w.heap.size, 0, none⟩ (.slice d1 l1 y1)).setCell ⟨w.heap.size, 1, none⟩ (.slice d2 l2 y2))) := Lib.hid (later_set2 HLW.out (Nat.le_refl _) _ _)
                    have HFS : Hid (RA ((W.setCell ⟨w.heap.size, 0, none⟩ (.slice d1 l1 y1)).setCell ⟨w.heap.size, 1, none⟩ (.slice d2 l2 y2)) w.heap.size #[.slice d1 l1 y1, .slice d2 l2 y2] 24) := Lib.hid (HFW.out.set2 _ _)
                    have HRS : Hid (RA ((W.setCell ⟨w.heap.size, 0, none⟩ (.slice d1 l1 y1)).setCell ⟨w.heap.size, 1, none⟩ (.slice d2 l2 y2)) (w.heap.size + 1) #[.int .i64 lr.g, .int .i64 lr.c, .int .i64 lr.m, .slice p3 lr.b.length q3] 26) := Lib.hid (HRW.out.other2 (by omega) _ _)
                    have HA1 : Hid (Sk .u8 ((W.setCell ⟨w.heap.size, 0, none⟩ (.slice d1 l1 y1)).setCell ⟨w.heap.size, 1, none⟩ (.slice d2 l2 y2)) (.slice d1 l1 y1) X) := Lib.hid (sk_out HSX.out HFW.out (nb2 _ _ _ _ _ _) (Out.set2 _ _ _ _))
                    have HB1 : Hid (Sk .u8 ((W.setCell ⟨w.heap.size, 0, none⟩ (.slice d1 l1 y1)).setCell ⟨w.heap.size, 1, none⟩ (.slice d2 l2 y2)) (.slice d2 l2 y2) Y) := Lib.hid (sk_out HSY.out HFW.out (nb2 _ _ _ _ _ _) (Out.set2 _ _ _ _))
                    have HAS := Lib.hid HA1.out
                    have HBS := Lib.hid HB1.out
                    have HSS : Hid (Sk .u8 ((W.setCell ⟨w.heap.size, 0, none⟩ (.slice d1 l1 y1)).setCell ⟨w.heap.size, 1, none⟩ (.slice d2 l2 y2)) (.slice p3 lr.b.length q3) lr.b) := Lib.hid (sk_out HSW.out HFW.out (nb2 _ _ _ _ _ _) (Out.set2 _ _ _ _))
                    have gg0 := HGW.out.cell 0 _ rfl; have gg1 := HGW.out.cell 1 _ rfl
                    have ff0 := HFW.out.cell 0 _ rfl; have ff1 := HFW.out.cell 1 _ rfl; have fff0 := HFW.out.froz 0; have fff1 := HFW.out.froz 1
                    have fs0 := HFS.out.cell 0 _ rfl; have fs1 := HFS.out.cell 1 _ rfl
                    clear hD0
                    go_wp2_with fail
                    clear gg0 gg1 ff0 ff1 fff0 fff1 fs0 fs1
                    refine (KV.out _ HLS.out ⟨_, _, rfl, HAS.out, HBS.out⟩).mono ?_
                    rintro e w5 ⟨u5, rfl, ⟨y5, rfl, hy5⟩, hg5⟩
                    obtain ⟨e1, f1, rfl, _⟩ := hy5.len
                    obtain ⟨n2, hn2⟩ : ∃ n, nr.b.length = n := ⟨_, rfl⟩
                    rw [hn2] at hy5 ⊢
                    have HP5 : Hid (Later w5 (w5.alloc (.cells #[.int .i64 nr.g, .int .i64 nr.c, .int .i64 nr.m, .slice e1 n2 f1] 26))) := Lib.hid ((Later.refl _).put _)
                    have HG5 := Lib.hid (gtrans hg5 HP5.out)
                    have HL5 := Lib.hid (gtrans HLS.out HG5.out)
                    have HF5 := Lib.hid (HFS.out.later HG5.out)
                    have HR5 := Lib.hid (HRS.out.later HG5.out)
                    have HA5 := Lib.hid (HAS.out.later HG5.out)
                    have HB5 := Lib.hid (HBS.out.later HG5.out)
                    have HS5 := Lib.hid (HSS.out.later HG5.out)
                    have HN5 : Hid (RA (w5.alloc (.cells #[.int .i64 nr.g, .int .i64 nr.c, .int .i64 nr.m, .slice e1 n2 f1] 26)) w5.heap.size #[.int .i64 nr.g, .int .i64 nr.c, .int .i64 nr.m, .slice e1 n2 f1] 26) := Lib.hid (RA.new w5 _ _)
                    have HM5 := Lib.hid (hy5.later HP5.out)
                    have HX1 := Lib.hid (sk_len HAS.out)
                    have HX2 := Lib.hid (sk_len HBS.out)
                    have HNX := Lib.hid hn2
                    clear hy5 hg5 hn2
                    rcases HCASE.out with ⟨eh, en, e1g, e2g⟩ | ⟨eh, en⟩
                    · have eEN : EN = 0 := by rw [← HEN.out, eh]; rfl
                      subst eEN
                      have tg : decide (lr.g > 0) = true := decide_eq_true (by exact e1g)
                      have KS := Lib.hid (fun W u v (h1 : Rk W u nr) (h2 : Rk W v nr) => psame_any nr nr u v W h1 h2 (by rw [en]; exact HI.out.2.2.2.2.1) (by rw [en]; exact HI.out.2.2.2.2.1))
                      rw [sm_self] at KS
                      have HEQ := Lib.hid en
                      have HQ5 : Hid (Sk .u8 (w5.alloc (.cells #[.int .i64 nr.g, .int .i64 nr.c, .int .i64 nr.m, .slice e1 n2 f1] 26)) (.slice p3 lr.b.length q3) nr.b) := Lib.hid (by
                        have e : nr.b = lr.b := by rw [en]
                        rw [e]
                        exact HS5.out)
                      have rr0 := HR5.out.cell 0 _ rfl; have rr1 := HR5.out.cell 1 _ rfl; have rr2 := HR5.out.cell 2 _ rfl; have rr3 := HR5.out.cell 3 _ rfl
                      have nn0 := HN5.out.cell 0 _ rfl; have nn1 := HN5.out.cell 1 _ rfl; have nn2 := HN5.out.cell 2 _ rfl; have nn3 := HN5.out.cell 3 _ rfl
                      clear eh en e1g e2g
                      go_wp2_with fail
                      clear rr0 rr1 rr2 rr3
                      clear nn0 nn1 nn2 nn3
                      refine (KS.out _ _ _ ⟨_, rfl, HM5.out⟩ ⟨_, by rw [HEQ.out], HQ5.out⟩).mono ?_
                      rintro e w6 ⟨rfl, hg6⟩
                      have HG6 := Lib.hid hg6
                      clear hg6 tg
                      go_wp2_with fail
                      go_roundw
                      case rel => exact ⟨j + 1, X, Y, lr, d1, d2, p3, y1, y2, q3, by omega, by go_num, gtrans HL5.out HG6.out, by rw [← HX1.out, ← HX2.out]; exact HF5.out.later HG6.out, by rw [← HX1.out]; exact HA5.out.later HG6.out, by rw [← HX2.out]; exact HB5.out.later HG6.out, by exact HR5.out.later HG6.out, by exact HS5.out.later HG6.out, HIV.out⟩
                      case measure => simp [intOf]; omega
                    · have eEN : EN = 123 := by rw [← HEN.out, eh]; rfl
                      subst eEN
                      have tz : decide (lr.g > 0) = false := by rw [en]; rfl
                      have rr0 := HR5.out.cell 0 _ rfl
                      clear eh en
                      go_wp2_with fail
                      clear rr0 tz
                      go_roundw
                      case rel => exact ⟨j + 1, X, Y, lr, d1, d2, p3, y1, y2, q3, by omega, by go_num, HL5.out, by rw [← HX1.out, ← HX2.out]; exact HF5.out, by rw [← HX1.out]; exact HA5.out, by rw [← HX2.out]; exact HB5.out, HR5.out, HS5.out, HIV.out⟩
                      case measure => simp [intOf]; omega
                · have t5 : (E != 0) = true := by simpa using hE0
                  have hmf : may rj = false := by
                    cases hm : may rj with
                    | false => rfl
                    | true => exact absurd (HE.out.symm.trans (iv_we HI.out HGJ.out hm)) hE0
                  have KM := Lib.hid (fun W (g : Later w W) => rmay_any rj (.agg #[.int .i64 ((j : Int) + 1), .int .i64 r.c, .int .i64 r.m, .slice az r.b.length kz]) W (by rw [HRJ.out]; exact ⟨_, rfl, HZ.out.later g⟩))
                  rw [hmf] at KM
                  have tt0 := HTW.out.cell 0 _ rfl; have tt1 := HTW.out.cell 1 _ rfl; have tt2 := HTW.out.cell 2 _ rfl; have tt3 := HTW.out.cell 3 _ rfl
                  clear hE0 hmf
                  go_wp2_with fail
                  clear tt0 tt1 tt2 tt3
                  refine (KM.out _ HLW.out).mono ?_
                  rintro e w5 ⟨rfl, hg5⟩
                  have HG5 := Lib.hid hg5
                  clear hg5
                  go_wp2_with fail
                  go_roundw
                  case rel => exact ⟨j + 1, xa, xb, lr, p1, p2, p3, q1, q2, q3, by omega, by go_num, gtrans HLW.out HG5.out, HFW.out.later HG5.out, HAW.out.later HG5.out, HBW.out.later HG5.out, HRW.out.later HG5.out, HSW.out.later HG5.out, iv_skip HI.out⟩
                  case measure => simp [intOf]; omega
            · have hx : ¬ (j < rs.length ∧ j < cs.length) := hlt
              by_cases hl1 : j < rs.length
              · have hl2 : ¬ j < cs.length := fun h => hx ⟨hl1, h⟩
                clear hx hlt
                go_wp2_with fail
                refine (A.out _ HG.out).mono ?_
                rintro e w1 ⟨rfl, hg1⟩
                go_wp2_with fail
                go_ret
                exact ⟨rfl, gtrans HG.out hg1⟩
              · clear hx hlt
                go_wp2_with fail
                refine (A.out _ HG.out).mono ?_
                rintro e w1 ⟨rfl, hg1⟩
                go_wp2_with fail
                go_ret
                exact ⟨rfl, gtrans HG.out hg1⟩

end Go.Proofs.YtdljmpaabpkmkaaDoor.Fls
