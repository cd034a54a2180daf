/-
  A record's bytes, by the program and by the document's reckoning. Conditions: the table lies where the program lays it; the record's bytes are bytes, and at most 20000.
-/
import Derived.Test.YtdljmpaabpkmkaaDoorFc
import Derived.Test.YtdljmpaabpkmkaaDoorEa
namespace Go.Proofs.YtdljmpaabpkmkaaDoor.Fls
set_option maxRecDepth 100000
open Go.ChangeShapes Go.WideShapes Go.ChangeAt Go.RowKit
open Go.Proofs.YtdljmpaabpkmkaaDoor.Divs Go.Proofs.YtdljmpaabpkmkaaDoor.Grow Go.Proofs.YtdljmpaabpkmkaaDoor.By Go.Proofs.YtdljmpaabpkmkaaDoor.Wi Go.Proofs.YtdljmpaabpkmkaaDoor.Fa Go.Proofs.YtdljmpaabpkmkaaDoor.Each
open Go.Proofs.YtdljmpaabpkmkaaDoor.Crc (Laid seal_any rseal_any)
open Go.Proofs.YtdljmpaabpkmkaaDoor.Wire (row_any rrow_any put_any rput_any)

theorem new_cell {w w1 : World} {cs : Array Value} {t : TypeId} (g : Later (w.alloc (.cells cs t)) w1) (i : Nat) (v : Value) (h : cs[i]? = some v) : w1.cell? ⟨w.heap.size, i, none⟩ = some v :=
  gsome g (by rw [World.cell?_alloc_new]; exact h)

theorem pcode_no (r : Rc) (v : Value) (w : World) (h : Rk w v r) (hm : may r = false) : Calls Tryd.prog 18 #[v] w fun e w' => e = .returned (.tuple #[.slice none 0 0, .int .i64 120]) ∧ Later w w' := by
  have M := Lib.hid (fun W (g : Later w W) => pmay_any r v W (h.later g))
  rw [hm] at M
  obtain ⟨u, rfl, hu⟩ := h
  obtain ⟨ad, cap, rfl, _⟩ := hu.len
  clear hu hm
  generalize r.b.length = n at *
  generalize r.g = a1 at *
  generalize r.c = a2 at *
  generalize r.m = a3 at *
  go_enter Tryd.func18, Tryd.ntmps18
  go_wp2_with fail
  refine (M.out _ ((Later.refl w).put _)).mono ?_
  rintro e w1 ⟨rfl, hg1⟩
  go_wp2_with fail
  go_ret2
  exact ⟨rfl, gtrans ((Later.refl w).put _) hg1⟩

def CV (G : Nat) (ah : Option Addr) (nh ch : Nat) (ad : Option Addr) (n cap : Nat) (r : Rc) : Nat → Value → World → Prop
  | 0, v, _ => v = .slice ah nh ch
  | 1, v, _ => v = .pointer (some ⟨G, 3, none⟩)
  | 2, v, _ => v = .slice ad n cap
  | 3, v, _ => v = .int .i64 (n : Int)
  | 4, v, W => ∃ a k c, v = .slice a k c ∧ Sk .u8 W v (pu (n : Int))
  | 5, v, _ => v = .pointer (some ⟨G, 3, none⟩)
  | 6, v, _ => v = .slice ad n cap
  | 7, v, W => ∃ k p, v = .slice (some ⟨k, 0, none⟩) 3 3 ∧ W.cell? ⟨k, 0, none⟩ = some (.slice ah nh ch) ∧ W.cell? ⟨k, 1, none⟩ = some p ∧ W.cell? ⟨k, 2, none⟩ = some (.slice ad n cap) ∧ Sk .u8 W p (pu (n : Int))
  | 8, v, W => Sk .u8 W v (bo r)
  | 9, v, W => Sk .u8 W v (co r)
  | 10, v, W => Sk .u8 W v (co r)
  | 11, v, _ => v = .int .i64 0
  | _, _, _ => True

theorem CV.later (G : Nat) (ah : Option Addr) (nh ch : Nat) (ad : Option Addr) (n cap : Nat) (r : Rc) (i : Nat) (v : Value) (W W' : World) (h0 : CV G ah nh ch ad n cap r i v W) (g : Later W W') : CV G ah nh ch ad n cap r i v W' := by
  unfold CV at *
  split at h0 <;> try exact h0
  · exact (let ⟨a, k, c, e, s⟩ := h0; ⟨a, k, c, e, s.later g⟩)
  · exact (let ⟨k, p, e, a, b, c, s⟩ := h0; ⟨k, p, e, gsome g a, gsome g b, gsome g c, s.later g⟩)
  · exact h0.later g
  · exact h0.later g
  · exact h0.later g

set_option maxHeartbeats 2000000 in
theorem pcode_yes (r : Rc) (v : Value) (w : World) (hr : Rk w v r) (hm : may r = true) (hf : Fit r) (hL : Laid w) : Calls Tryd.prog 18 #[v] w fun e w' => ∃ u, e = .returned (.tuple #[u, .int .i64 0]) ∧ Sk .u8 w' u (co r) ∧ Later w w' := by
  have M := Lib.hid (fun W (g : Later w W) => pmay_any r v W (hr.later g))
  rw [hm] at M
  have KR := Lib.hid (fun u W (h : Sk .i64 W u [r.g, r.c, r.m]) => row_any [r.g, r.c, r.m] u W h (by simp) (nums_in hm hf))
  obtain ⟨m1, m2, m3, m4, m5⟩ := (may_iff r).1 hm
  have hbn : (bo r).length ≤ 20000 := by have := bo_len hm; omega
  have KS := Lib.hid (fun u W (g : Later w W) (h : Sk .u8 W u (bo r)) => (seal_any (bo r) u W h (bo_byte hm hf) hbn (hL.grown g)).mono fun e w' ⟨q, h1, h2, h3⟩ => (⟨q, h1, h2.sk, h3⟩ : ∃ q, e = Ending.returned q ∧ Sk .u8 w' q (co r) ∧ Later W w'))
  have hrl := ro_len [r.g, r.c, r.m]
  have hpl := pu_len (r.b.length : Int)
  have hrp : 0 < (ro [r.g, r.c, r.m]).length := by
    unfold ro
    rw [List.length_append]
    have := pu_pos (([r.g, r.c, r.m].length : Nat) : Int)
    omega
  have hin : In (r.b.length : Int) := ⟨by omega, by omega⟩
  have KP := Lib.hid (fun W => put_any (r.b.length : Int) W hin)
  obtain ⟨u, rfl, hu⟩ := hr
  obtain ⟨ad, cap, rfl, _⟩ := hu.len
  have HU := Lib.hid hu
  have hsum : (ro [r.g, r.c, r.m]).length + (pu (r.b.length : Int)).length + r.b.length ≤ 100000 := by
    simp only [List.length_cons, List.length_nil] at hrl
    omega
  have KC := Lib.hid (fun k h p W (h1 : Sk .u8 W h (ro [r.g, r.c, r.m])) (g : Later w W) (c0 : W.cell? ⟨k, 0, none⟩ = some h) (c1 : W.cell? ⟨k, 1, none⟩ = some p) (c2 : W.cell? ⟨k, 2, none⟩ = some (.slice ad r.b.length cap)) (h2 : Sk .u8 W p (pu (r.b.length : Int))) =>
    (concat_any (ro [r.g, r.c, r.m]) (pu (r.b.length : Int)) r.b h p _ k W c0 c1 c2 h1 h2 (hu.later g) hrp hsum).mono fun e w' ⟨q, h1, h2, h3⟩ => (⟨q, h1, h2.sk, h3⟩ : ∃ q, e = Ending.returned q ∧ Sk .u8 w' q (bo r) ∧ Later W w'))
  clear hu hm hf hL hbn hrl hpl hrp hin hsum m1 m2 m3 m4 m5
  generalize r.b.length = n at *
  go_enter Tryd.func18, Tryd.ntmps18
  go_wp2_with fail
  refine (M.out _ ((Later.refl w).put _)).mono ?_
  rintro e w1 ⟨rfl, hg1⟩
  have HG1 := Lib.hid (gtrans ((Later.refl w).put _) hg1)
  have HC1 := Lib.hid (new_cell hg1 3 (.slice ad n cap) rfl)
  have c0 := new_cell hg1 0 (.int .i64 r.g) rfl
  have c1 := new_cell hg1 1 (.int .i64 r.c) rfl
  have c2 := new_cell hg1 2 (.int .i64 r.m) rfl
  clear hg1
  go_wp2_with fail
  clear c0 c1 c2
  refine (KR.out _ _ (sk_new .i64 3 [r.g, r.c, r.m] w1 (by simp))).mono ?_
  rintro e w2 ⟨h, rfl, hh, hg2⟩
  have HG2 := Lib.hid (gtrans ((Later.refl w1).put _) hg2)
  have HG := Lib.hid (gtrans HG1.out HG2.out)
  have HC3 := Lib.hid (gsome HG2.out HC1.out)
  obtain ⟨ah, ch, rfl, _⟩ := hh.len
  have HH := Lib.hid hh
  clear hg2 hh
  generalize (ro [r.g, r.c, r.m]).length = nh at *
  go_wp2_with fail
  refine region_each (CV w.heap.size ah nh ch ad n cap r) (by kernel_rfl) (by kernel_rfl) (CV.later w.heap.size ah nh ch ad n cap r) ?_ ?_
  · intro i hi
    match i with
    | 0 =>
      intro o ho
      simp only [List.getElem?_toArray, List.getElem?_cons_zero, Option.some.injEq] at ho
      subst ho
      intro a W hl hold hdep
      refine ite_yes rfl ?_
      have h4 : a.tmps[4]? = some (.slice ah nh ch) := hold 4 (free_of (by kernel_rfl))
      clear hold hdep
      unfold Oper.wp
      go_simp
      exact ⟨_, rfl, rfl, Later.refl _⟩
    | 1 =>
      intro o ho
      simp only [List.getElem?_toArray, List.getElem?_cons_zero, List.getElem?_cons_succ, Option.some.injEq] at ho
      subst ho
      intro a W hl hold hdep
      refine ite_yes rfl ?_
      have h1 : a.tmps[1]? = some (.pointer (some ⟨w.heap.size, 0, none⟩)) := hold 1 (free_of (by kernel_rfl))
      clear hold hdep
      unfold Oper.wp
      go_simp
      exact ⟨_, rfl, rfl, Later.refl _⟩
    | 2 =>
      intro o ho
      simp only [List.getElem?_toArray, List.getElem?_cons_zero, List.getElem?_cons_succ, Option.some.injEq] at ho
      subst ho
      intro a W hl hold hdep
      refine ite_yes rfl ?_
      obtain ⟨_, h17, rfl⟩ := hdep 1 (by decide) _ _ rfl rfl
      have e3 := gsome hl HC3.out
      clear hold hdep
      unfold Oper.wp
      go_simp
      exact ⟨_, rfl, rfl, Later.refl _⟩
    | 3 =>
      intro o ho
      simp only [List.getElem?_toArray, List.getElem?_cons_zero, List.getElem?_cons_succ, Option.some.injEq] at ho
      subst ho
      intro a W hl hold hdep
      refine ite_yes rfl ?_
      obtain ⟨_, h18, rfl⟩ := hdep 2 (by decide) _ _ rfl rfl
      clear hold hdep
      unfold Oper.wp
      go_simp
      exact ⟨_, rfl, rfl, Later.refl _⟩
    | 4 =>
      intro o ho
      simp only [List.getElem?_toArray, List.getElem?_cons_zero, List.getElem?_cons_succ, Option.some.injEq] at ho
      subst ho
      intro a W hl hold hdep
      refine ite_yes rfl ?_
      obtain ⟨_, h19, rfl⟩ := hdep 3 (by decide) _ _ rfl rfl
      clear hold hdep
      unfold Oper.wp
      go_simp
      refine (KP.out _).mono ?_
      rintro e w1 ⟨p, rfl, hp, hg1⟩
      obtain ⟨a, c, e1, _⟩ := hp.len
      exact ⟨_, rfl, ⟨_, _, _, e1, hp⟩, hg1⟩
    | 5 =>
      intro o ho
      simp only [List.getElem?_toArray, List.getElem?_cons_zero, List.getElem?_cons_succ, Option.some.injEq] at ho
      subst ho
      intro a W hl hold hdep
      refine ite_yes rfl ?_
      have h1 : a.tmps[1]? = some (.pointer (some ⟨w.heap.size, 0, none⟩)) := hold 1 (free_of (by kernel_rfl))
      clear hold hdep
      unfold Oper.wp
      go_simp
      exact ⟨_, rfl, rfl, Later.refl _⟩
    | 6 =>
      intro o ho
      simp only [List.getElem?_toArray, List.getElem?_cons_zero, List.getElem?_cons_succ, Option.some.injEq] at ho
      subst ho
      intro a W hl hold hdep
      refine ite_yes rfl ?_
      obtain ⟨_, h21, rfl⟩ := hdep 5 (by decide) _ _ rfl rfl
      have e3 := gsome hl HC3.out
      clear hold hdep
      unfold Oper.wp
      go_simp
      exact ⟨_, rfl, rfl, Later.refl _⟩
    | 7 =>
      intro o ho
      simp only [List.getElem?_toArray, List.getElem?_cons_zero, List.getElem?_cons_succ, Option.some.injEq] at ho
      subst ho
      intro a W hl hold hdep
      refine ite_yes rfl ?_
      obtain ⟨_, h16, rfl⟩ := hdep 0 (by decide) _ _ rfl rfl
      obtain ⟨_, h20, ⟨a20, k20, c20, rfl, s20⟩⟩ := hdep 4 (by decide) _ _ rfl rfl
      obtain ⟨_, h22, rfl⟩ := hdep 6 (by decide) _ _ rfl rfl
      clear hold hdep
      unfold Oper.wp
      go_simp
      refine ⟨_, rfl, ⟨_, _, rfl, ?_, ?_, ?_, s20.later ((Later.refl _).put _)⟩, (Later.refl _).put _⟩ <;> rw [World.cell?_alloc_new] <;> rfl
    | 8 =>
      intro o ho
      simp only [List.getElem?_toArray, List.getElem?_cons_zero, List.getElem?_cons_succ, Option.some.injEq] at ho
      subst ho
      intro a W hl hold hdep
      refine ite_yes rfl ?_
      obtain ⟨_, h23, ⟨k23, p23, rfl, a23, b23, c23, s23⟩⟩ := hdep 7 (by decide) _ _ rfl rfl
      clear hold hdep
      unfold Oper.wp
      go_simp
      refine (KC.out _ _ _ _ (HH.out.later hl) (gtrans HG.out hl) a23 b23 c23 s23).mono ?_
      rintro e w1 ⟨q, rfl, hq, hg1⟩
      exact ⟨_, rfl, hq, hg1⟩
    | 9 =>
      intro o ho
      simp only [List.getElem?_toArray, List.getElem?_cons_zero, List.getElem?_cons_succ, Option.some.injEq] at ho
      subst ho
      intro a W hl hold hdep
      refine ite_yes rfl ?_
      obtain ⟨_, h24, s24⟩ := hdep 8 (by decide) _ _ rfl rfl
      clear hold hdep
      unfold Oper.wp
      go_simp
      refine (KS.out _ _ (gtrans HG.out hl) s24).mono ?_
      rintro e w1 ⟨q, rfl, hq, hg1⟩
      exact ⟨_, rfl, hq, hg1⟩
    | 10 =>
      intro o ho
      simp only [List.getElem?_toArray, List.getElem?_cons_zero, List.getElem?_cons_succ, Option.some.injEq] at ho
      subst ho
      intro a W hl hold hdep
      refine ite_yes rfl ?_
      obtain ⟨_, h25, s25⟩ := hdep 9 (by decide) _ _ rfl rfl
      clear hold hdep
      unfold Oper.wp
      go_simp
      exact ⟨_, rfl, s25, Later.refl _⟩
    | 11 =>
      intro o ho
      simp only [List.getElem?_toArray, List.getElem?_cons_zero, List.getElem?_cons_succ, Option.some.injEq] at ho
      subst ho
      intro a W hl hold hdep
      refine ite_yes rfl ?_
      clear hold hdep
      unfold Oper.wp
      go_simp
      exact ⟨_, rfl, rfl, Later.refl _⟩
    | k + 12 => exact absurd hi (by simp)
  · intro a W hl hd hz hold hall
    obtain ⟨_, k2, s2⟩ := hall 10 _ _ rfl rfl
    obtain ⟨_, k3, rfl⟩ := hall 11 _ _ rfl rfl
    have ha := act_eta a 26 [] hz hd
    rw [show (List.range 26).map (fun s => a.tmps.getD s undef) = [a.tmps.getD 0 undef, a.tmps.getD 1 undef, a.tmps.getD 2 undef, a.tmps.getD 3 undef, a.tmps.getD 4 undef, a.tmps.getD 5 undef, a.tmps.getD 6 undef, a.tmps.getD 7 undef, a.tmps.getD 8 undef, a.tmps.getD 9 undef, a.tmps.getD 10 undef, a.tmps.getD 11 undef, a.tmps.getD 12 undef, a.tmps.getD 13 undef, a.tmps.getD 14 undef, a.tmps.getD 15 undef, a.tmps.getD 16 undef, a.tmps.getD 17 undef, a.tmps.getD 18 undef, a.tmps.getD 19 undef, a.tmps.getD 20 undef, a.tmps.getD 21 undef, a.tmps.getD 22 undef, a.tmps.getD 23 undef, a.tmps.getD 24 undef, a.tmps.getD 25 undef] from rfl, getD_of k2, getD_of k3] at ha
    rw [ha]
    clear hall hold hz hd ha k2 k3
    generalize a.tmps.getD 0 undef = x0
    generalize a.tmps.getD 1 undef = x1
    generalize a.tmps.getD 4 undef = x4
    generalize a.tmps.getD 5 undef = x5
    generalize a.tmps.getD 6 undef = x6
    generalize a.tmps.getD 7 undef = x7
    generalize a.tmps.getD 8 undef = x8
    generalize a.tmps.getD 9 undef = x9
    generalize a.tmps.getD 10 undef = x10
    generalize a.tmps.getD 11 undef = x11
    generalize a.tmps.getD 12 undef = x12
    generalize a.tmps.getD 13 undef = x13
    generalize a.tmps.getD 14 undef = x14
    generalize a.tmps.getD 15 undef = x15
    generalize a.tmps.getD 16 undef = x16
    generalize a.tmps.getD 17 undef = x17
    generalize a.tmps.getD 18 undef = x18
    generalize a.tmps.getD 19 undef = x19
    generalize a.tmps.getD 20 undef = x20
    generalize a.tmps.getD 21 undef = x21
    generalize a.tmps.getD 22 undef = x22
    generalize a.tmps.getD 23 undef = x23
    generalize a.tmps.getD 24 undef = x24
    generalize a.tmps.getD 25 undef = x25
    go_wp2_with fail
    go_ret2
    exact ⟨_, rfl, s2, gtrans HG.out hl⟩

end Go.Proofs.YtdljmpaabpkmkaaDoor.Fls
