/-
  Texts of mine, merged: each part says what it holds. Conditions: as each theorem states.
-/
import Derived.BigFrame
import Derived.Test.YtihdijkplmfhfaaGreatDoorM25

/- What the reckoning answers of timetables: the spans of some days, a day's row, which instants are served, the mode at an instant. Conditions: the configuration may be, where a theorem says so, and the days may be asked. -/
namespace Go.Proofs.YtihdijkplmfhfaaGreatDoor.Table
set_option maxRecDepth 100000
set_option maxRecDepth 100000
open Go.ChangeShapes Go.WideShapes Go.ChangeAt Go.RowKit
open Go.Proofs.YtihdijkplmfhfaaGreatDoor.Divs Go.Proofs.YtihdijkplmfhfaaGreatDoor.Grow
open Go.Proofs.YtihdijkplmfhfaaGreatDoor.Greg (Laid)
open Go.Proofs.YtihdijkplmfhfaaGreatDoor.Zo Go.Proofs.YtihdijkplmfhfaaGreatDoor.Win Go.Proofs.YtihdijkplmfhfaaGreatDoor.Tab
open Go.Proofs.YtihdijkplmfhfaaGreatDoor.Cal (yr om od)
open Go.Proofs.YtihdijkplmfhfaaGreatDoor.Cf (Cg Wn ce wo)
open Go.Proofs.YtihdijkplmfhfaaGreatDoor.Conf (wc cc Is)
open Go.Proofs.YtihdijkplmfhfaaGreatDoor.Zone (Zat zc lD lM sE sE_ok)
open Go.Proofs.YtihdijkplmfhfaaGreatDoor.Span (Ws WL sc append_spans ws_one')
open Go.Proofs.YtihdijkplmfhfaaGreatDoor.Window (RA RA.set5 oc5 later_set)
open Go.Proofs.YtihdijkplmfhfaaGreatDoor.Sp (cu)
open Go.Proofs.YtihdijkplmfhfaaGreatDoor.Eachn
set_option linter.unusedVariables false

theorem later_set5 {w W : World} (h : Later w W) {g : Nat} (hg : w.heap.size ≤ g) (v0 v1 v2 v3 v4 : Value) : Later w (((((W.setCell ⟨g, 0, none⟩ v0).setCell ⟨g, 1, none⟩ v1).setCell ⟨g, 2, none⟩ v2).setCell ⟨g, 3, none⟩ v3).setCell ⟨g, 4, none⟩ v4) :=
  Span.later_set (Span.later_set4 h hg v0 v1 v2 v3) hg _ _

theorem out5 (g : Nat) (W : World) (v0 v1 v2 v3 v4 : Value) : Out g W (((((W.setCell ⟨g, 0, none⟩ v0).setCell ⟨g, 1, none⟩ v1).setCell ⟨g, 2, none⟩ v2).setCell ⟨g, 3, none⟩ v3).setCell ⟨g, 4, none⟩ v4) := ⟨0, [v0, v1, v2, v3, v4], rfl⟩

theorem wp_load_zn {o : Oper} {a : Act} {K : Act → World → Prop} {Q : Exit → Act → World → Prop} (z : Zn) {W : World} {B off : Nat} (h : W.rangeAt B off (zc z).toList) (x : Operand) (ho : o.op = .load 28 x) (hx : a.eval x = .pointer (some ⟨B, off, none⟩)) (hK : K (a.put o.dst (.agg (zc z))) W) : o.wp Tryz.prog a W K Q := by
  refine wp_load_mid (P := Tryz.prog) 28 x ho B off hx (zc z).toList _ h Tryz.underlying28 rfl (by kernel_rfl) ?_
  simpa using hK

theorem rdays_any (a b : Int) (w : World) (a0 : -9223372036854775808 ≤ a) (a1 : a ≤ 9223372036854775807) (b0 : -9223372036854775808 ≤ b) (b1 : b ≤ 9223372036854775807) : Calls Tryz.prog 15 #[.int .i64 a, .int .i64 b] w fun e w' => e = .returned (.bool (dy a b)) ∧ Later w w' := by
  obtain ⟨O, hO⟩ : ∃ O, O = dy a b := ⟨_, rfl⟩
  rw [← hO]
  by_cases h : 402 ≤ a ∧ b ≤ 3651990 ∧ a ≤ b ∧ b - a ≤ 30
  · have HV : Hid (O = true) := Lib.hid (by rw [hO, dy_iff]; exact h)
    obtain ⟨h1, h2, h3, h4⟩ := h
    clear hO
    go_enter Tryz.func15, Tryz.ntmps15
    go_wp2
    go_ret
    exact ⟨rb HV.out, Later.refl _⟩
  · have HV : Hid (O = false) := Lib.hid (by
      rw [hO]
      cases hd : dy a b with
      | false => rfl
      | true => exact absurd ((dy_iff a b).1 hd) h)
    have main : (¬ 402 ≤ a) ∨ (402 ≤ a ∧ ¬ b ≤ 3651990) ∨ (402 ≤ a ∧ b ≤ 3651990 ∧ ¬ a ≤ b) ∨ (402 ≤ a ∧ b ≤ 3651990 ∧ a ≤ b ∧ ¬ b - a ≤ 30) := by omega
    clear h hO
    rcases main with h | ⟨h, h2⟩ | ⟨h, h2, h3⟩ | ⟨h, h2, h3, h4⟩
    all_goals
      go_enter Tryz.func15, Tryz.ntmps15
      go_wp2
      go_ret
      exact ⟨rb HV.out, Later.refl _⟩

theorem of_of (D : Array Value) (c : Cg) (x : Wn) (d : Int) (w : World) (hc : Is w D c) (h : ce c = 0) (hx : wo x = true) (d0 : 402 ≤ d) (d1 : d ≤ 3651990) :
    Calls Tryz.prog 37 #[.agg D, .agg (wc x).toArray, .int .i64 d] w fun e w' => e = .returned (.agg #[.int .i64 (ws c x d).f, .int .i64 (ws c x d).t, .int .i64 (ws c x d).m, .int .i64 (ws c x d).p, .bool (beg c x d)]) ∧ Later w w' := by
  have e0 : pE c x d = 0 := (pE_ok c x d).2 ⟨h, hx, d0, d1⟩
  have e1 : pB c x d = beg c x d := by unfold pB; rw [e0]; rfl
  refine (Window.rof_any D c x d w hc e0).mono ?_
  rintro e w' ⟨he, hg⟩
  refine ⟨?_, hg⟩
  rw [he, e1]
  unfold pF pT pM pP ws oc5
  rw [e1]
  cases beg c x d <;> rfl

def SpV (D : Array Value) (x : Wn) (d : Int) (S : Sp.Sp) (b : Bool) (n0 B off q cap j : Nat) : Nat → Value → World → Prop
  | 0, v, _ => v = .agg D
  | 1, v, _ => v = .pointer (some ⟨n0, 36, none⟩)
  | 2, v, _ => v = .slice (some ⟨B, off, none⟩) q cap
  | 3, v, _ => v = .int .i64 (j : Int)
  | 4, v, _ => v = .pointer (some ⟨B, off + j * 7, none⟩)
  | 5, v, _ => v = .agg (wc x).toArray
  | 6, v, _ => v = .int .i64 d
  | 7, v, _ => v = .agg #[.int .i64 S.f, .int .i64 S.t, .int .i64 S.m, .int .i64 S.p, .bool b]
  | _, _, _ => True

theorem SpV.later (D : Array Value) (x : Wn) (d : Int) (S : Sp.Sp) (b : Bool) (n0 B off q cap j : Nat) (i : Nat) (v : Value) (W W' : World) (h : SpV D x d S b n0 B off q cap j i v W) (_g : Later W W') : SpV D x d S b n0 B off q cap j i v W' := by
  unfold SpV at *
  split at h <;> try exact h
theorem SpV.out (D : Array Value) (x : Wn) (d : Int) (S : Sp.Sp) (b : Bool) (n0 B off q cap j : Nat) (i : Nat) (v : Value) (W W' : World) (g : Nat) (cs : Array Value) (h : SpV D x d S b n0 B off q cap j i v W) (r : RA W g cs 73) (n : Nb cs) (o : Out g W W') : SpV D x d S b n0 B off q cap j i v W' := by
  unfold SpV at *
  split at h <;> try exact h

set_option maxHeartbeats 4000000 in
theorem rspans_any (D : Array Value) (c : Cg) (a e : Int) (m : Nat) (w : World) (hc : Is w D c) (hce : ce c = 0) (a0 : 402 ≤ a) (a1 : a + m ≤ 3651991) (hm : m ≤ 31) (he : e = a + m - 1) :
    Calls Tryz.prog 17 #[.agg D, .int .i64 a, .int .i64 e] w fun r w' => ∃ v', r = .returned v' ∧ WL w' w.heap.size v' (sps c a m) ∧ Later w w' := by
  have HZ := Lib.hid hc.size
  obtain ⟨ad, cap, h36, hq0, _⟩ := is_slice hc
  have hq16 := ws_len hce
  obtain ⟨q, hq⟩ : ∃ q, c.ws.length = q := ⟨_, rfl⟩
  rw [hq] at h36 hq0 hq16
  have HQ := Lib.hid hq
  have H36 := Lib.hid h36
  have HM := Lib.hid hm
  have HE := Lib.hid he
  have HLE : Hid (∀ k j : Nat, k < m → (sps c a k ++ dw c (a + k) (c.ws.take j)).length ≤ 1000) := Lib.hid (fun k j hk => by
    have k1 := sps_few hce a (n := k) (by omega)
    have k2 := dw_len c (a + k) (c.ws.take j)
    rw [List.length_append]
    rw [List.length_take] at k2
    omega)
  have KX := Lib.hid (fun x (hx : x ∈ c.ws) d (d0 : 402 ≤ d) (d1 : d ≤ 3651990) W (hI : Is W D c) => of_of D c x d W hI hce (ws_may hce hx) d0 d1)
  obtain ⟨wA, hwA⟩ : ∃ wA, w.alloc (.cells D 33) = wA := ⟨_, rfl⟩
  have HLA := Lib.hid (show Later w wA from hwA ▸ (Later.refl w).put _)
  have HAT : Hid (Conf.At wA w.heap.size D) := Lib.hid (by rw [← hwA]; exact Conf.At.new _ _ _)
  have HI := Lib.hid (hc.later HLA.out)
  have HW0 := Lib.hid (Span.WL.nil wA wA.heap.size)
  clear hc hce h36 hq hm he hq0
  go_enter Tryz.func17, Tryz.ntmps17
  go_wp2_with fail

  clear hwA
  go_loopw [7, 8] (fun r i wr => ∃ (k : Nat) (d : Int), d = a + k ∧ k ≤ m ∧ i = .int .i64 d ∧ WL wr wA.heap.size r (sps c a k) ∧ Later wA wr) (fun _ i _ => (a + m - intOf i).toNat)
  case atStart => exact ⟨0, a, by omega, by omega, rfl, HW0.out, Later.refl _⟩
  case round =>
    obtain ⟨k, d, hd, hk, rfl, hrow, hg⟩ := hrel
    have HRW := Lib.hid hrow
    have HG := Lib.hid hg
    clear hrow hg
    have d0 : 402 ≤ d := by omega
    by_cases hle : d ≤ e
    · have hkm : k < m := by have := HE.out; omega
      have d1 : d ≤ 3651990 := by omega
      have HD := Lib.hid hd
      clear hd hk
      go_wp2_with fail
      go_loopw [7, 9] (fun r i W2 => ∃ j : Nat, j ≤ q ∧ i = .int .i64 (j : Int) ∧ WL W2 wA.heap.size r (sps c a k ++ dw c d (c.ws.take j)) ∧ Later wA W2) (fun _ i _ => q - (intOf i).toNat)
      case atStart => exact ⟨0, by omega, rfl, by rw [List.take_zero]; simpa [dw] using HRW.out, HG.out⟩
      case round =>
        obtain ⟨j, hjq, rfl, hrow2, hg2⟩ := hrel
        have c36 := (HAT.out.later hg2) 36 _ H36.out
        by_cases hlt : j < q
        · obtain ⟨x, hx⟩ : ∃ x, c.ws[j]? = some x := ⟨_, List.getElem?_eq_getElem (by rw [HQ.out]; exact hlt)⟩
          have hI2 := HI.out.later hg2
          obtain ⟨B, off, rfl, hr⟩ := is_wins hI2 H36.out hx
          have HR := Lib.hid hr
          have HA := Lib.hid (HAT.out.later hg2)
          have KO := Lib.hid (fun W (g : Later wr W) => KX.out x (List.mem_of_getElem? hx) d d0 d1 W (hI2.later g))
          have HMo := Lib.hid (dw_more c d hx)
          have HLN := Lib.hid (HLE.out k j hkm)
          rw [← HD.out] at HLN
          have HR2 := Lib.hid hrow2
          have HG2 := Lib.hid hg2
          clear hI2 hr hx hrow2 hg2 HRW HG
          generalize ws c x d = S at *
          generalize beg c x d = b at *
          have adB : ∀ j, (⟨B, off, none⟩ : Addr).add j = ⟨B, off + j, none⟩ := Addr.add_mid B off
          have hjz : (j : Int) < (q : Int) := by omega
          go_wp2_with fail
          clear c36
          refine region_box 8 9 10 #[.int .i64 0, .int .i64 0, .int .i64 0, .int .i64 0, .bool false] 73 (fun cs _ => .agg #[.int .i64 S.f, .int .i64 S.t, .int .i64 S.m, .int .i64 S.p, .bool b] = Value.agg cs) (SpV D x d S b w.heap.size B off q cap j) (by kernel_rfl) (by kernel_rfl) (by decide) (by kernel_rfl) (SpV.later D x d S b w.heap.size B off q cap j) (SpV.out D x d S b w.heap.size B off q cap j) (fun cs W W' h _ => h) trivial ?_ ?_ ?_ ?_ ⟨by decide, by decide⟩
          · intro i hi him his
            match i with
            | 0 =>
              intro o ho
              simp only [List.getElem?_toArray, List.getElem?_cons_zero, Option.some.injEq] at ho
              subst ho
              intro a W hl hold hdep
              refine ite_yes rfl ?_
              have h3 : a.tmps[3]? = some (.pointer (some ⟨w.heap.size, 0, none⟩)) := hold 3 (free_of (by kernel_rfl))
              clear hold hdep
              exact Conf.wp_load_cfg D HZ.out W w.heap.size (HA.out.later hl) (.tmp 3) rfl (ev h3) ⟨_, rfl, rfl, Later.refl _⟩
            | 1 =>
              intro o ho
              simp only [List.getElem?_toArray, List.getElem?_cons_zero, List.getElem?_cons_succ, Option.some.injEq] at ho
              subst ho
              intro a W hl hold hdep
              refine ite_yes rfl ?_
              have h3 : a.tmps[3]? = some (.pointer (some ⟨w.heap.size, 0, none⟩)) := hold 3 (free_of (by kernel_rfl))
              clear hold hdep
              unfold Oper.wp
              go_simp
              exact ⟨_, rfl, rfl, Later.refl _⟩
            | 2 =>
              intro o ho
              simp only [List.getElem?_toArray, List.getElem?_cons_zero, List.getElem?_cons_succ, Option.some.injEq] at ho
              subst ho
              intro a W hl hold hdep
              refine ite_yes rfl ?_
              obtain ⟨_, h25, rfl⟩ := hdep 1 (by decide) (by decide) (by decide) _ _ rfl rfl
              have k := HA.out.later hl 36 _ H36.out
              clear hold hdep
              unfold Oper.wp
              go_simp
              exact ⟨_, rfl, rfl, Later.refl _⟩
            | 3 =>
              intro o ho
              simp only [List.getElem?_toArray, List.getElem?_cons_zero, List.getElem?_cons_succ, Option.some.injEq] at ho
              subst ho
              intro a W hl hold hdep
              refine ite_yes rfl ?_
              have h9 : a.tmps[9]? = some (.int .i64 (j : Int)) := hold 9 (free_of (by kernel_rfl))
              clear hold hdep
              unfold Oper.wp
              go_simp
              exact ⟨_, rfl, rfl, Later.refl _⟩
            | 4 =>
              intro o ho
              simp only [List.getElem?_toArray, List.getElem?_cons_zero, List.getElem?_cons_succ, Option.some.injEq] at ho
              subst ho
              intro a W hl hold hdep
              refine ite_yes rfl ?_
              obtain ⟨_, h26, rfl⟩ := hdep 2 (by decide) (by decide) (by decide) _ _ rfl rfl
              obtain ⟨_, h27, rfl⟩ := hdep 3 (by decide) (by decide) (by decide) _ _ rfl rfl
              clear hold hdep
              unfold Oper.wp
              go_simp
              exact ⟨_, rfl, rfl, Later.refl _⟩
            | 5 =>
              intro o ho
              simp only [List.getElem?_toArray, List.getElem?_cons_zero, List.getElem?_cons_succ, Option.some.injEq] at ho
              subst ho
              intro a W hl hold hdep
              refine ite_yes rfl ?_
              obtain ⟨_, h28, rfl⟩ := hdep 4 (by decide) (by decide) (by decide) _ _ rfl rfl
              clear hold hdep
              exact wp_load_mid (P := Tryz.prog) 65 (.tmp 28) rfl B (off + j * 7) (ev h28) (wc x) _ (fun i y hy => gsome hl (HR.out i y hy)) Tryz.underlying65 rfl (by kernel_rfl) ⟨_, rfl, rfl, Later.refl _⟩
            | 6 =>
              intro o ho
              simp only [List.getElem?_toArray, List.getElem?_cons_zero, List.getElem?_cons_succ, Option.some.injEq] at ho
              subst ho
              intro a W hl hold hdep
              refine ite_yes rfl ?_
              have h8 : a.tmps[8]? = some (.int .i64 d) := hold 8 (free_of (by kernel_rfl))
              clear hold hdep
              unfold Oper.wp
              go_simp
              exact ⟨_, rfl, rfl, Later.refl _⟩
            | 7 =>
              intro o ho
              simp only [List.getElem?_toArray, List.getElem?_cons_zero, List.getElem?_cons_succ, Option.some.injEq] at ho
              subst ho
              intro a W hl hold hdep
              refine ite_yes rfl ?_
              obtain ⟨_, h24, rfl⟩ := hdep 0 (by decide) (by decide) (by decide) _ _ rfl rfl
              obtain ⟨_, h29, rfl⟩ := hdep 5 (by decide) (by decide) (by decide) _ _ rfl rfl
              obtain ⟨_, h30, rfl⟩ := hdep 6 (by decide) (by decide) (by decide) _ _ rfl rfl
              clear hold hdep
              unfold Oper.wp
              go_simp
              refine (KO.out _ hl).mono ?_
              rintro e w1 ⟨rfl, hg1⟩
              exact ⟨_, rfl, rfl, hg1⟩
            | 8 => exact absurd rfl him
            | 9 => exact absurd rfl his
            | k + 10 => exact absurd hi (by simp)
          · intro o ho
            simp only [List.getElem?_toArray, List.getElem?_cons_zero, List.getElem?_cons_succ, Option.some.injEq] at ho
            subst ho
            refine ⟨rfl, rfl, fun a W hl => ?_⟩
            unfold Oper.wp
            go_simp
            exact ⟨_, rfl, hl.size, RA.new _ _ _, (Later.refl _).put _⟩
          · intro o ho
            simp only [List.getElem?_toArray, List.getElem?_cons_zero, List.getElem?_cons_succ, Option.some.injEq] at ho
            subst ho
            refine ⟨rfl, rfl, fun a W g hl hd hg hr hdep => ?_⟩
            obtain ⟨_, h31, rfl⟩ := hdep 7 (by decide) (by decide) (by decide) _ _ rfl rfl
            have c0 := hr.cell 0 _ rfl
            have c1 := hr.cell 1 _ rfl
            have c2 := hr.cell 2 _ rfl
            have c3 := hr.cell 3 _ rfl
            have c4 := hr.cell 4 _ rfl
            have f0 := hr.froz 0
            have f1 := hr.froz 1
            have f2 := hr.froz 2
            have f3 := hr.froz 3
            have f4 := hr.froz 4
            clear hdep
            unfold Oper.wp
            go_simp
            exact ⟨later_set5 hl hg _ _ _ _ _, out5 _ _ _ _ _ _ _, RA.set5 hr _ _ _ _ _, trivial⟩
          · intro a W hl hd hz hold hall hbox
            obtain ⟨g10, cs10, k10, i10, r10, n10, b10⟩ := hbox
            have ha := act_fold [24, 25, 26, 27, 28, 29, 30, 31, 10] (by kernel_rfl) hd hz hold
            rw [ha]
            simp only [puts, List.foldl_cons, List.foldl_nil]
            rw [getD_of k10]
            clear hall hold hz hd ha k10
            generalize a.tmps.getD 24 undef = x24
            generalize a.tmps.getD 25 undef = x25
            generalize a.tmps.getD 26 undef = x26
            generalize a.tmps.getD 27 undef = x27
            generalize a.tmps.getD 28 undef = x28
            generalize a.tmps.getD 29 undef = x29
            generalize a.tmps.getD 30 undef = x30
            generalize a.tmps.getD 31 undef = x31
            simp only [Act.put]
            obtain rfl : cs10 = #[.int .i64 S.f, .int .i64 S.t, .int .i64 S.m, .int .i64 S.p, .bool b] := by injection b10.symm
            have HR3 := Lib.hid r10
            have HRW3 := Lib.hid (HR2.out.later hl)
            have HG3 := Lib.hid (gtrans HG2.out hl)
            have c0 := r10.cell 0 _ rfl
            have c1 := r10.cell 1 _ rfl
            have c2 := r10.cell 2 _ rfl
            have c3 := r10.cell 3 _ rfl
            have c4 := r10.cell 4 _ rfl
            clear r10 n10 b10 i10 hl
            cases b with
            | false =>
              go_wp2_with fail
              go_roundw
              case rel => exact ⟨j + 1, by omega, by go_num, by rw [HMo.out]; simpa using HRW3.out, HG3.out⟩
              case measure => simp [intOf]; omega
            | true =>
              go_wp2_with (refine append_spans rfl (.tmp 34) (.tmp 37) rfl wA (HG3.out.put _) _ _ rfl (HRW3.out.later ((Later.refl _).put _)) _ [S] rfl (ws_one' S rfl) (by have := HLN.out; simp only [List.length_cons, List.length_nil]; omega) ?_; intro v' w6 hw hl6 hgb; have HW6 := Lib.hid hw; have HL6 := Lib.hid hl6; clear hw hl6 hgb)
              go_roundw
              case rel => exact ⟨j + 1, by omega, by go_num, by rw [HMo.out, if_pos rfl, ← List.append_assoc]; exact HW6.out, HL6.out⟩
              case measure => simp [intOf]; omega
        · have HRF : Hid (WL wr wA.heap.size _ (sps c a (k + 1))) := Lib.hid (by
            have e : c.ws.take j = c.ws := List.take_of_length_le (by rw [HQ.out]; omega)
            rw [e, HD.out] at hrow2
            exact hrow2)
          have HG2 := Lib.hid hg2
          clear hrow2 hg2 HRW HG
          have hjz : ¬ (j : Int) < (q : Int) := by omega
          go_wp2_with fail
          go_roundw
          case rel => exact ⟨k + 1, d + 1, by have := HD.out; omega, by omega, by go_num, HRF.out, HG2.out⟩
          case measure => simp [intOf]; have := HD.out; omega
    · have hkm : k = m := by have := HE.out; omega
      subst hkm
      go_wp2_with fail
      go_ret
      exact ⟨_, rfl, HRW.out.base HLA.out.size, gtrans HLA.out HG.out⟩

def RrV (v2 : Value) (z : Zn) (c : Cg) (d a b : Int) (n0 B : Nat) : Nat → Value → World → Prop
  | 0, v, _ => v = v2
  | 1, v, _ => v = .pointer (some ⟨n0, 13, none⟩)
  | 2, v, _ => v = .agg (zc z)
  | 3, v, _ => v = .int .i64 d
  | 4, v, _ => v = .int .i64 a
  | 5, v, _ => v = .pointer (some ⟨n0, 13, none⟩)
  | 6, v, _ => v = .agg (zc z)
  | 7, v, _ => v = .int .i64 d
  | 8, v, _ => v = .int .i64 (d + 1)
  | 9, v, _ => v = .int .i64 b
  | 10, v, W => WL W B v (cu (unc c d) a b)
  | 11, v, W => WL W B v (cu (unc c d) a b)
  | _, _, _ => True

theorem RrV.later (v2 : Value) (z : Zn) (c : Cg) (d a b : Int) (n0 B : Nat) (i : Nat) (v : Value) (W W' : World) (h : RrV v2 z c d a b n0 B i v W) (g : Later W W') : RrV v2 z c d a b n0 B i v W' := by
  unfold RrV at *
  split at h <;> try exact h
  · exact h.later g
  · exact h.later g

set_option maxHeartbeats 1000000 in
theorem rrow_any (D : Array Value) (c : Cg) (d : Int) (w : World) (hc : Is w D c) (hce : ce c = 0) (h0 : 411 ≤ d) (h1 : d ≤ 3651988) : Calls Tryz.prog 18 #[.agg D, .int .i64 d] w fun e w' => ∃ v', e = .returned v' ∧ WL w' w.heap.size v' (cu (unc c d) (mv c.z (d * 1440)) (mv c.z ((d + 1) * 1440))) ∧ Later w w' := by
  have HG0 := Lib.hid ((Later.refl w).alloc D 33)
  have HAT := Lib.hid (Conf.At.new w D 33)
  have HZ := Lib.hid hc.size
  obtain ⟨hz, _⟩ := ce_parts c hce
  have HZn := Lib.hid (fun W (h : Conf.At W w.heap.size D) => is_zone hc h)
  have KS := Lib.hid (rspans_any D c (d - 9) (d + 1) 11 (w.alloc (.cells D 33)) (hc.later HG0.out) hce (by omega) (by omega) (by omega) (by omega))
  have KM := Lib.hid (fun W => Window.rmoment_at c.z d 0 W hz (by omega) (by omega) (by omega) (by omega))
  have KN := Lib.hid (fun W => Window.rmoment_at c.z (d + 1) 0 W hz (by omega) (by omega) (by omega) (by omega))
  rw [Int.add_zero] at KM KN
  have HF50 : Hid ((sps c (d - 9) 11).length ≤ 500) := Lib.hid (Nat.le_trans (sps_few hce (d - 9) (n := 11) (by omega)) (by omega))
  have HB50 : Hid ((unc c d).length ≤ 50000) := Lib.hid (by
    have k1 := Sp.full_len (rs_ok (sps c (d - 9) 11))
    have k2 := HF50.out
    unfold unc
    omega)
  generalize mv c.z (d * 1440) = a at *
  generalize mv c.z ((d + 1) * 1440) = b at *
  clear hc hz hce
  go_enter Tryz.func18, Tryz.ntmps18
  go_wp2_with (refine Conf.load_at D HZ.out rfl (.tmp 2) rfl w.heap.size rfl HAT.out ?_)
  refine KS.out.mono ?_
  rintro e w1 ⟨v1, rfl, hv1, hg1⟩
  have HG1 := Lib.hid (gtrans HG0.out hg1)
  have HA1 := Lib.hid (HAT.out.later hg1)
  have KR := Lib.hid (Span.rresolve_any v1 _ w1 hv1.ws HF50.out)
  clear hv1 hg1
  go_wp2_with fail
  refine KR.out.mono ?_
  rintro e w2 ⟨v2, rfl, ⟨R, hR, hv2⟩, hg2⟩
  obtain rfl : unc c d = R := rs_full hR
  have HG2 := Lib.hid (gtrans HG1.out hg2)
  have HA2 := Lib.hid (HA1.out.later hg2)
  have KA := Lib.hid (fun W (g : Later w2 W) => KM.out W)
  have KB := Lib.hid (fun W (g : Later w2 W) => KN.out W)
  have KC : Hid (∀ W, Later w2 W → Calls Tryz.prog 39 #[v2, .int .i64 a, .int .i64 b] W fun e w' => ∃ v', e = .returned v' ∧ WL w' w.heap.size v' (cu (unc c d) a b) ∧ Later W w') := Lib.hid (fun W g => (Span.rcut_any v2 _ a b W (hv2.ws.later g) HB50.out).mono fun e w' ⟨v', he, hv, hg⟩ => ⟨v', he, hv.base (gtrans HG2.out g).size, hg⟩)
  clear hv2 hg2 hR
  go_wp2_with fail
  refine region_each (RrV v2 c.z c d a b w.heap.size w.heap.size) (by kernel_rfl) (by kernel_rfl) (RrV.later v2 c.z c d a b w.heap.size w.heap.size) ?_ ?_
  · intro i hi
    match i with
    | 0 =>
      intro o ho
      simp only [List.getElem?_toArray, List.getElem?_cons_zero, Option.some.injEq] at ho
      subst ho
      intro a W hl hold hdep
      refine ite_yes rfl ?_
      have h5 : a.tmps[5]? = some (v2) := hold 5 (free_of (by kernel_rfl))
      clear hold hdep
      unfold Oper.wp
      go_simp
      exact ⟨_, rfl, rfl, Later.refl _⟩
    | 1 =>
      intro o ho
      simp only [List.getElem?_toArray, List.getElem?_cons_zero, List.getElem?_cons_succ, Option.some.injEq] at ho
      subst ho
      intro a W hl hold hdep
      refine ite_yes rfl ?_
      have h2 : a.tmps[2]? = some (.pointer (some ⟨w.heap.size, 0, none⟩)) := hold 2 (free_of (by kernel_rfl))
      clear hold hdep
      unfold Oper.wp
      go_simp
      exact ⟨_, rfl, rfl, Later.refl _⟩
    | 2 =>
      intro o ho
      simp only [List.getElem?_toArray, List.getElem?_cons_zero, List.getElem?_cons_succ, Option.some.injEq] at ho
      subst ho
      intro a W hl hold hdep
      refine ite_yes rfl ?_
      obtain ⟨_, h14, rfl⟩ := hdep 1 (by decide) _ _ rfl rfl
      clear hold hdep
      exact wp_load_zn c.z (HZn.out _ (HA2.out.later hl)) (.tmp 14) rfl (ev h14) ⟨_, rfl, rfl, Later.refl _⟩
    | 3 =>
      intro o ho
      simp only [List.getElem?_toArray, List.getElem?_cons_zero, List.getElem?_cons_succ, Option.some.injEq] at ho
      subst ho
      intro a W hl hold hdep
      refine ite_yes rfl ?_
      have h1 : a.tmps[1]? = some (.int .i64 d) := hold 1 (free_of (by kernel_rfl))
      clear hold hdep
      unfold Oper.wp
      go_simp
      exact ⟨_, rfl, rfl, Later.refl _⟩
    | 4 =>
      intro o ho
      simp only [List.getElem?_toArray, List.getElem?_cons_zero, List.getElem?_cons_succ, Option.some.injEq] at ho
      subst ho
      intro a W hl hold hdep
      refine ite_yes rfl ?_
      obtain ⟨_, h15, rfl⟩ := hdep 2 (by decide) _ _ rfl rfl
      obtain ⟨_, h16, rfl⟩ := hdep 3 (by decide) _ _ rfl rfl
      clear hold hdep
      unfold Oper.wp
      go_simp
      refine (KA.out _ hl).mono ?_
      rintro e w1 ⟨rfl, hg1⟩
      exact ⟨_, rfl, rfl, hg1⟩
    | 5 =>
      intro o ho
      simp only [List.getElem?_toArray, List.getElem?_cons_zero, List.getElem?_cons_succ, Option.some.injEq] at ho
      subst ho
      intro a W hl hold hdep
      refine ite_yes rfl ?_
      have h2 : a.tmps[2]? = some (.pointer (some ⟨w.heap.size, 0, none⟩)) := hold 2 (free_of (by kernel_rfl))
      clear hold hdep
      unfold Oper.wp
      go_simp
      exact ⟨_, rfl, rfl, Later.refl _⟩
    | 6 =>
      intro o ho
      simp only [List.getElem?_toArray, List.getElem?_cons_zero, List.getElem?_cons_succ, Option.some.injEq] at ho
      subst ho
      intro a W hl hold hdep
      refine ite_yes rfl ?_
      obtain ⟨_, h18, rfl⟩ := hdep 5 (by decide) _ _ rfl rfl
      clear hold hdep
      exact wp_load_zn c.z (HZn.out _ (HA2.out.later hl)) (.tmp 18) rfl (ev h18) ⟨_, rfl, rfl, Later.refl _⟩
    | 7 =>
      intro o ho
      simp only [List.getElem?_toArray, List.getElem?_cons_zero, List.getElem?_cons_succ, Option.some.injEq] at ho
      subst ho
      intro a W hl hold hdep
      refine ite_yes rfl ?_
      have h1 : a.tmps[1]? = some (.int .i64 d) := hold 1 (free_of (by kernel_rfl))
      clear hold hdep
      unfold Oper.wp
      go_simp
      exact ⟨_, rfl, rfl, Later.refl _⟩
    | 8 =>
      intro o ho
      simp only [List.getElem?_toArray, List.getElem?_cons_zero, List.getElem?_cons_succ, Option.some.injEq] at ho
      subst ho
      intro a W hl hold hdep
      refine ite_yes rfl ?_
      obtain ⟨_, h20, rfl⟩ := hdep 7 (by decide) _ _ rfl rfl
      clear hold hdep
      unfold Oper.wp
      go_simp
      rw [wrap64_one d (by omega) (by omega)]
      exact ⟨_, rfl, rfl, Later.refl _⟩
    | 9 =>
      intro o ho
      simp only [List.getElem?_toArray, List.getElem?_cons_zero, List.getElem?_cons_succ, Option.some.injEq] at ho
      subst ho
      intro a W hl hold hdep
      refine ite_yes rfl ?_
      obtain ⟨_, h19, rfl⟩ := hdep 6 (by decide) _ _ rfl rfl
      obtain ⟨_, h21, rfl⟩ := hdep 8 (by decide) _ _ rfl rfl
      clear hold hdep
      unfold Oper.wp
      go_simp
      refine (KB.out _ hl).mono ?_
      rintro e w1 ⟨rfl, hg1⟩
      exact ⟨_, rfl, rfl, hg1⟩
    | 10 =>
      intro o ho
      simp only [List.getElem?_toArray, List.getElem?_cons_zero, List.getElem?_cons_succ, Option.some.injEq] at ho
      subst ho
      intro a W hl hold hdep
      refine ite_yes rfl ?_
      obtain ⟨_, h13, rfl⟩ := hdep 0 (by decide) _ _ rfl rfl
      obtain ⟨_, h17, rfl⟩ := hdep 4 (by decide) _ _ rfl rfl
      obtain ⟨_, h22, rfl⟩ := hdep 9 (by decide) _ _ rfl rfl
      clear hold hdep
      unfold Oper.wp
      go_simp
      refine (KC.out _ hl).mono ?_
      rintro e w1 ⟨q, rfl, hq, hg1⟩
      exact ⟨_, rfl, hq, hg1⟩
    | 11 =>
      intro o ho
      simp only [List.getElem?_toArray, List.getElem?_cons_zero, List.getElem?_cons_succ, Option.some.injEq] at ho
      subst ho
      intro a W hl hold hdep
      refine ite_yes rfl ?_
      obtain ⟨_, h23, s23⟩ := hdep 10 (by decide) _ _ rfl rfl
      clear hold hdep
      unfold Oper.wp
      go_simp
      exact ⟨_, rfl, s23, Later.refl _⟩
    | k + 12 => exact absurd hi (by simp)
  · intro a W hl hd hz hold hall
    obtain ⟨_, k4, s4⟩ := hall 11 _ _ rfl rfl
    have ha := act_eta a 24 [] hz hd
    rw [show (List.range 24).map (fun s => a.tmps.getD s undef) = [a.tmps.getD 0 undef, a.tmps.getD 1 undef, a.tmps.getD 2 undef, a.tmps.getD 3 undef, a.tmps.getD 4 undef, a.tmps.getD 5 undef, a.tmps.getD 6 undef, a.tmps.getD 7 undef, a.tmps.getD 8 undef, a.tmps.getD 9 undef, a.tmps.getD 10 undef, a.tmps.getD 11 undef, a.tmps.getD 12 undef, a.tmps.getD 13 undef, a.tmps.getD 14 undef, a.tmps.getD 15 undef, a.tmps.getD 16 undef, a.tmps.getD 17 undef, a.tmps.getD 18 undef, a.tmps.getD 19 undef, a.tmps.getD 20 undef, a.tmps.getD 21 undef, a.tmps.getD 22 undef, a.tmps.getD 23 undef] from rfl, getD_of k4] at ha
    rw [ha]
    clear hall hold hz hd ha k4
    generalize a.tmps.getD 0 undef = x0
    generalize a.tmps.getD 1 undef = x1
    generalize a.tmps.getD 2 undef = x2
    generalize a.tmps.getD 3 undef = x3
    generalize a.tmps.getD 5 undef = x5
    generalize a.tmps.getD 6 undef = x6
    generalize a.tmps.getD 7 undef = x7
    generalize a.tmps.getD 8 undef = x8
    generalize a.tmps.getD 9 undef = x9
    generalize a.tmps.getD 10 undef = x10
    generalize a.tmps.getD 11 undef = x11
    generalize a.tmps.getD 12 undef = x12
    generalize a.tmps.getD 13 undef = x13
    generalize a.tmps.getD 14 undef = x14
    generalize a.tmps.getD 15 undef = x15
    generalize a.tmps.getD 16 undef = x16
    generalize a.tmps.getD 17 undef = x17
    generalize a.tmps.getD 18 undef = x18
    generalize a.tmps.getD 19 undef = x19
    generalize a.tmps.getD 20 undef = x20
    generalize a.tmps.getD 21 undef = x21
    generalize a.tmps.getD 22 undef = x22
    generalize a.tmps.getD 23 undef = x23
    go_wp2_with fail
    go_ret
    exact ⟨_, rfl, s4, gtrans HG2.out hl⟩

theorem rserved_any (D : Array Value) (c : Cg) (t : Int) (w : World) (hc : Is w D c) (hz : May c.z) : Calls Tryz.prog 21 #[.agg D, .int .i64 t] w fun e w' => e = .returned (.bool (sv c.z t)) ∧ Later w w' := by
  have HG0 := Lib.hid ((Later.refl w).alloc D 33)
  have HZ := Lib.hid hc.size
  have h13 : D[13]? = some (.int .i64 c.z.b) := by
    obtain ⟨u, v, rfl, _, _⟩ := hc
    rfl
  have c13 := (Conf.At.new w D 33) 13 _ h13
  have KT := Lib.hid (fun W => same_g (Zone.rtime_any t W))
  obtain ⟨O, hO⟩ : ∃ O, O = sv c.z t := ⟨_, rfl⟩
  rw [← hO]
  by_cases ht : 576000 ≤ t ∧ t ≤ 5258879999
  · rw [(Zone.wiB_iff t 576000 5258879999).2 ht] at KT
    have d := day_bd c.z t hz ht.1 ht.2
    have hz' := hz
    unfold May at hz'
    obtain ⟨b0, b1, _⟩ := hz'
    have KD := Lib.hid (fun W => drew_g (rdiv_any (t + c.z.b) 1440 W (by omega) (by omega) (by omega) (by omega)))
    have KO := Lib.hid (fun W => Greg.rof_any ((t + c.z.b) / 1440) W d.1 d.2)
    have HV : Hid (O = (decide (1900 ≤ yr ((t + c.z.b) / 1440)) && decide (yr ((t + c.z.b) / 1440) ≤ 2399))) := Lib.hid (by
      rw [hO]; unfold sv; rw [decide_eq_true ht, Bool.true_and]
      simp)
    generalize (t + c.z.b) / 1440 = E at *
    generalize yr E = Y at *
    obtain ⟨z0, hz0⟩ : ∃ z0, c.z.b = z0 := ⟨_, rfl⟩
    rw [hz0] at KD c13 b0 b1
    clear hO hz d hc h13 hz0
    have yy : (¬ 1900 ≤ Y) ∨ (1900 ≤ Y ∧ ¬ Y ≤ 2399) ∨ (1900 ≤ Y ∧ Y ≤ 2399) := by omega
    rcases yy with y0 | ⟨y0, y1⟩ | ⟨y0, y1⟩
    all_goals
      first
        | have HE : Hid (O = false) := Lib.hid (by rw [HV.out, decide_eq_false y0]; rfl)
        | have HE : Hid (O = false) := Lib.hid (by rw [HV.out, decide_eq_false y1]; simp)
        | have HE : Hid (O = true) := Lib.hid (by rw [HV.out, decide_eq_true y0, decide_eq_true y1]; rfl)
      go_enter Tryz.func21, Tryz.ntmps21
      go_wp2_with fail
      refine (KT.out _).mono ?_
      rintro e w1 ⟨rfl, hg1⟩
      have HG1 := Lib.hid (gtrans HG0.out hg1)
      have c13' := gsome hg1 c13
      go_wp2_with fail
      refine (KD.out _).mono ?_
      rintro e w2 ⟨rfl, hg2⟩
      have HG2 := Lib.hid (gtrans HG1.out hg2)
      go_wp2_with fail
      refine (KO.out _).mono ?_
      rintro e w3 ⟨rfl, hg3⟩
      have HG3 := Lib.hid (gtrans HG2.out hg3)
      clear c13 c13' hg1 hg2 hg3
      go_wp2_with fail
      go_ret
      first
        | exact ⟨rb HE.out, HG3.out.put _⟩
        | exact ⟨rb (HE.out.trans (decide_eq_false (by omega)).symm), HG3.out.put _⟩
  · have HE : Hid (O = false) := Lib.hid (by rw [hO]; unfold sv; rw [decide_eq_false ht]; rfl)
    have hw : Zone.wiB t 576000 5258879999 = false := by
      cases hb : Zone.wiB t 576000 5258879999 with
      | false => rfl
      | true => exact absurd ((Zone.wiB_iff t 576000 5258879999).1 hb) ht
    rw [hw] at KT
    clear hO hc h13 hw ht c13
    go_enter Tryz.func21, Tryz.ntmps21
    go_wp2_with fail
    refine (KT.out _).mono ?_
    rintro e w1 ⟨rfl, hg1⟩
    have HG1 := Lib.hid (gtrans HG0.out hg1)
    go_wp2_with fail
    go_ret
    exact ⟨rb HE.out, HG1.out⟩

end Go.Proofs.YtihdijkplmfhfaaGreatDoor.Table

/- The mode at an instant by the reckoning; the chapter's example by the program. Conditions: the table of months lies where the program lays it; the configuration may be. -/
namespace Go.Proofs.YtihdijkplmfhfaaGreatDoor.Table
set_option maxRecDepth 100000
open Go.ChangeShapes Go.WideShapes Go.ChangeAt Go.RowKit
open Go.Proofs.YtihdijkplmfhfaaGreatDoor.Divs Go.Proofs.YtihdijkplmfhfaaGreatDoor.Grow
open Go.Proofs.YtihdijkplmfhfaaGreatDoor.Greg (Laid)
open Go.Proofs.YtihdijkplmfhfaaGreatDoor.Zo Go.Proofs.YtihdijkplmfhfaaGreatDoor.Win Go.Proofs.YtihdijkplmfhfaaGreatDoor.Tab
open Go.Proofs.YtihdijkplmfhfaaGreatDoor.Cal (yr om od)
open Go.Proofs.YtihdijkplmfhfaaGreatDoor.Cf (Cg Wn ce wo)
open Go.Proofs.YtihdijkplmfhfaaGreatDoor.Conf (wc cc Is)
open Go.Proofs.YtihdijkplmfhfaaGreatDoor.Zone (Zat zc lD lM sE sE_ok)
open Go.Proofs.YtihdijkplmfhfaaGreatDoor.Span (Ws WL sc)
open Go.Proofs.YtihdijkplmfhfaaGreatDoor.Window (RA results_r)
open Go.Proofs.YtihdijkplmfhfaaGreatDoor.Sp (cu)
open Go.Proofs.YtihdijkplmfhfaaGreatDoor.Eachn
set_option linter.unusedVariables false

/-- A configuration is loaded whole by an operation whose guard says yes. -/
theorem load_at_g {ops : Array Oper} {rest : List Oper} {o : Oper} {a : Act} {W : World} {Q : Exit → Act → World → Prop} (C : Array Value) (hC : C.size = 37) (hw : Region.wanted o (yielded ops a.tmps) = true) (x : Operand) (ho : o.op = .load 33 x) (g : Nat) (hx : a.eval x = .pointer (some ⟨g, 0, none⟩)) (h : Conf.At W g C) (hK : wpList Tryz.prog ops Q rest (a.put o.dst (.agg C)) W) : wpList Tryz.prog ops Q (o :: rest) a W :=
  BigFrame.wpList_want hw fun K hK' => Conf.wp_load_cfg C hC W g h x ho hx (hK' _ _ hK)

set_option maxHeartbeats 1000000 in
theorem rmode_any (D : Array Value) (c : Cg) (t : Int) (w : World) (hc : Is w D c) (hce : ce c = 0) : Calls Tryz.prog 20 #[.agg D, .int .i64 t] w fun e w' => e = .returned (.agg #[.int .i64 (mM c t), .int .i64 (mS c t)]) ∧ Later w w' := by
  have HG0 := Lib.hid (((Later.refl w).put (.cells D 33)).put (.cells #[.int .i64 0, .int .i64 0] 51))
  have HAT := Lib.hid ((Conf.At.new w D 33).put (.cells #[.int .i64 0, .int .i64 0] 51))
  have HR0 := Lib.hid (RA.new (w.alloc (.cells D 33)) #[.int .i64 0, .int .i64 0] 51)
  simp only [World.size_alloc] at HR0
  have HZ := Lib.hid hc.size
  have HZn := Lib.hid (fun W (h : Conf.At W w.heap.size D) => is_zone hc h)
  obtain ⟨hz, _⟩ := ce_parts c hce
  have KV := Lib.hid (fun W (g : Later w W) => rserved_any D c t W (hc.later g) hz)
  obtain ⟨M, hM⟩ : ∃ M, M = mM c t := ⟨_, rfl⟩
  obtain ⟨S, hS⟩ : ∃ S, S = mS c t := ⟨_, rfl⟩
  rw [← hM, ← hS]
  cases hs : sv c.z t with
  | false =>
    have HM : Hid (M = 3 ∧ S = 0) := Lib.hid (by rw [hM, hS]; exact mM_far c t hs)
    rw [hs] at KV
    clear hc hce hz hM hS hs
    go_enter Tryz.func20, Tryz.ntmps20
    go_wp2_with (refine Conf.load_at D HZ.out rfl (.tmp 2) rfl w.heap.size rfl HAT.out ?_)
    refine (KV.out _ HG0.out).mono ?_
    rintro e w1 ⟨rfl, hg1⟩
    have HG1 := Lib.hid (gtrans HG0.out hg1)
    have HRk := Lib.hid (HR0.out.later hg1)
    clear hg1
    have n0 := HRk.out.cell 0 _ rfl
    have n1 := HRk.out.cell 1 _ rfl
    have m0 := HRk.out.froz 0
    have m1 := HRk.out.froz 1
    go_wp2_with fail
    refine bodyPost_ret (results_r (P := Tryz.prog) (fn := Tryz.f20) Tryz.results20 _ _ (w.heap.size + 1) 51 _ _ rfl (Span.RA.set2 HRk.out _ _) Tryz.underlying51 rfl (by kernel_rfl)) rfl ?_
    rw [HM.out.1, HM.out.2]
    exact ⟨rfl, Span.later_set2 HG1.out (by omega) _ _⟩
  | true =>
    have hd := sv_day c.z hz t hs
    have ht := (sv_iff c.z hz t).1 hs
    have hz' := hz
    unfold May at hz'
    have hT : 0 ≤ td c.z t ∧ td c.z t ≤ 9000000000 := by rcases td_cases c.z t with ⟨_, e⟩ | ⟨_, e⟩ <;> rw [e] <;> omega
    have KL := Lib.hid (fun W => Zone.rtold_any c.z t W hz (by omega) (by omega))
    obtain ⟨d, hdd⟩ : ∃ d, td c.z t / 1440 = d := ⟨_, rfl⟩
    have hM' : M = (fv (unc c d) t).m := by rw [hM]; unfold mM; rw [if_pos hs, hdd]
    have hS' : S = (fv (unc c d) t).f := by rw [hS]; unfold mS; rw [if_pos hs, hdd]
    rw [hdd] at hd
    rw [hs] at KV
    have KU := Lib.hid (fun W (g : Later w W) => rspans_any D c (d - 9) (d + 1) 11 W (hc.later g) hce (by omega) (by omega) (by omega) (by omega))
    have HF50 : Hid ((sps c (d - 9) 11).length ≤ 500) := Lib.hid (Nat.le_trans (sps_few hce (d - 9) (n := 11) (by omega)) (by omega))
    have KQ := Lib.hid (fun v W (h : Ws W v (sps c (d - 9) 11)) => Span.rresolve_any v _ W h HF50.out)
    have HU : Hid (∀ R, Sp.Full R (Sp.md (sps c (d - 9) 11)) → unc c d = R) := Lib.hid (fun R hR => rs_full hR)
    obtain ⟨T, hTT⟩ : ∃ T, td c.z t = T := ⟨_, rfl⟩
    rw [hTT] at KL hT hdd
    obtain ⟨X, hX⟩ : ∃ X, unc c d = X := ⟨_, rfl⟩
    rw [hX] at hM' hS' HU
    have HM := Lib.hid hM'
    have HS := Lib.hid hS'
    have HNo : Hid (fb X t = false → (fv X t).m = 0 ∧ (fv X t).f = 0) := Lib.hid (by unfold fb fv; cases Sp.fi X t with
      | none => exact fun _ => ⟨rfl, rfl⟩
      | some s => intro k; cases k)
    have KT : Hid (∀ v W, Ws W v X → Calls Tryz.prog 43 #[v, .int .i64 t] W fun e w' => e = .returned (.tuple #[.agg #[.int .i64 (fv X t).f, .int .i64 (fv X t).t, .int .i64 (fv X t).m, .int .i64 (fv X t).p], .bool (fb X t)]) ∧ Later W w') := Lib.hid (fun v W h => Span.rat_any v X t W h)
    have HDD := Lib.hid hdd
    obtain ⟨T0, T1⟩ := hT
    have eq1 : T.tdiv 1440 = d := by rw [← hdd]; exact Int.tdiv_eq_ediv_of_nonneg T0
    clear hc hce hz hM hS hs hdd hTT hX hM' hS' hz' ht
    generalize fv X t = Y at *
    generalize fb X t = b at *
    go_enter Tryz.func20, Tryz.ntmps20
    go_wp2_with (refine Conf.load_at D HZ.out rfl (.tmp 2) rfl w.heap.size rfl HAT.out ?_)
    refine (KV.out _ HG0.out).mono ?_
    rintro e w1 ⟨rfl, hg1⟩
    have HG1 := Lib.hid (gtrans HG0.out hg1)
    have HA1 := Lib.hid (HAT.out.later hg1)
    have HR1 := Lib.hid (HR0.out.later hg1)
    have HZ1 := Lib.hid (HZn.out _ HA1.out)
    clear hg1
    go_wp2_with (refine Conf.load_zn c.z rfl (.tmp 15) rfl w.heap.size 13 rfl HZ1.out ?_)
    refine (KL.out _).mono ?_
    rintro e w2 ⟨rfl, hg2⟩
    have HG2 := Lib.hid (gtrans HG1.out hg2)
    have HA2 := Lib.hid (HA1.out.later hg2)
    have HR2 := Lib.hid (HR1.out.later hg2)
    clear hg2
    go_wp2_with (refine Conf.load_at D HZ.out rfl (.tmp 2) rfl w.heap.size rfl HA2.out ?_)
    refine (KU.out _ HG2.out).mono ?_
    rintro e w3 ⟨v3, rfl, hv3, hg3⟩
    have HG3 := Lib.hid (gtrans HG2.out hg3)
    have HR3 := Lib.hid (HR2.out.later hg3)
    have KQ3 := Lib.hid (KQ.out v3 w3 hv3.ws)
    clear hv3 hg3
    go_wp2_with fail
    refine KQ3.out.mono ?_
    rintro e w4 ⟨v4, rfl, ⟨R, hR, hv4⟩, hg4⟩
    obtain rfl := HU.out R hR
    have HG4 := Lib.hid (gtrans HG3.out hg4)
    have HR4 := Lib.hid (HR3.out.later hg4)
    have KT4 := Lib.hid (KT.out v4 w4 hv4.ws)
    clear hv4 hg4 hR
    go_wp2_with fail
    refine KT4.out.mono ?_
    rintro e w5 ⟨rfl, hg5⟩
    have HG5 := Lib.hid ((gtrans HG4.out hg5).put (.cells #[.int .i64 Y.f, .int .i64 Y.t, .int .i64 Y.m, .int .i64 Y.p] 56))
    have HR5 := Lib.hid ((HR4.out.later hg5).later ((Later.refl _).put (.cells #[.int .i64 Y.f, .int .i64 Y.t, .int .i64 Y.m, .int .i64 Y.p] 56)))
    clear hg5
    have n0 := HR5.out.cell 0 _ rfl
    have n1 := HR5.out.cell 1 _ rfl
    have m0 := HR5.out.froz 0
    have m1 := HR5.out.froz 1
    cases b with
    | false =>
      go_wp2_with fail
      refine bodyPost_ret (results_r (P := Tryz.prog) (fn := Tryz.f20) Tryz.results20 _ _ (w.heap.size + 1) 51 _ _ rfl (Span.RA.set2 HR5.out _ _) Tryz.underlying51 rfl (by kernel_rfl)) rfl ?_
      refine ⟨?_, Span.later_set2 HG5.out (by omega) _ _⟩
      rw [HM.out, HS.out, (HNo.out (by simp)).1, (HNo.out (by simp)).2]
    | true =>
      go_wp2_with fail
      refine bodyPost_ret (results_r (P := Tryz.prog) (fn := Tryz.f20) Tryz.results20 _ _ (w.heap.size + 1) 51 _ _ rfl (Span.RA.set2 HR5.out _ _) Tryz.underlying51 rfl (by kernel_rfl)) rfl ?_
      rw [HM.out, HS.out]
      exact ⟨rfl, Span.later_set2 HG5.out (by omega) _ _⟩

theorem ex_dy : dy 738779 738779 = true := by decide

set_option maxHeartbeats 2000000 in
theorem awake_any (w : World) (hL : Laid w) : Calls Tryz.prog 10 #[] w fun e w' => e = .returned (.bool true) ∧ Later w w' := by
  have KP := Lib.hid (Conf.plain_any w)
  have HLw := Lib.hid hL
  clear hL
  go_enter Tryz.func10, Tryz.ntmps10
  go_wp2_with fail
  refine KP.out.mono ?_
  rintro e w1 ⟨u, v, rfl, hu, hv, hg1⟩
  have HL1 := Lib.hid (HLw.out.grown hg1)
  have KI := Lib.hid (fun W (g : Later w1 W) => (⟨u, v, rfl, hu.later g, hv.later g⟩ : Is W (cc Conf.pc u v) Conf.pc))
  have KM := Lib.hid (fun W (g : Later w1 W) => mode_yes (cc Conf.pc u v) Conf.pc 1063843060 W (HL1.out.grown g) (KI.out W g) Conf.pc_ok)
  rw [ex_m1.1, ex_m1.2] at KM
  have KN := Lib.hid (fun W (g : Later w1 W) => mode_yes (cc Conf.pc u v) Conf.pc 1063842860 W (HL1.out.grown g) (KI.out W g) Conf.pc_ok)
  rw [ex_m2.1, ex_m2.2] at KN
  have KR := Lib.hid (fun W (g : Later w1 W) => row_yes (cc Conf.pc u v) Conf.pc 738779 W (HL1.out.grown g) (KI.out W g) Conf.pc_ok (by omega) (by omega))
  rw [show ((738779 : Int) + 1) = 738780 by decide] at KR
  have KS := Lib.hid (fun W (g : Later w1 W) => spans_yes (cc Conf.pc u v) Conf.pc 738779 738779 1 W (HL1.out.grown g) (KI.out W g) Conf.pc_ok ex_dy (by omega))
  obtain ⟨d0, q0, eu, _, _⟩ := Conf.sk_form hu
  obtain ⟨d1, q1, ev, _, _⟩ := Conf.wk_form hv
  have HG1 := Lib.hid hg1
  clear hu hv hg1 KP
  obtain ⟨C, hC⟩ : ∃ C, C = cc Conf.pc u v := ⟨_, rfl⟩
  rw [← hC] at KI KM KN KR KS ⊢
  have HC : Hid (C.size = 37) := Lib.hid (by rw [hC]; rfl)
  have H1 : Hid (C.all (·.oneCell') = true) := Lib.hid (by rw [hC, eu, ev]; exact Conf.cc_one _ _ _ _ _ _ _)
  clear hC eu ev
  go_wp2_with (first
    | (refine Conf.store_row rfl (.tmp 1) (.tmp 13) rfl w1.heap.size rfl C HC.out H1.out rfl _ rfl (Conf.Row.new _ _ _) w1 ((Later.refl _).alloc _ _) (Nat.le_refl _) ?_; intro W2 hR2 hL2 _; have HA2 := Lib.hid hR2.at; have HL2 := Lib.hid hL2; clear hR2 hL2)
    | (refine Conf.load_at C HC.out rfl (.tmp 1) rfl w1.heap.size rfl HA2.out ?_))
  refine (KM.out _ HL2.out).mono ?_
  rintro e w3 ⟨rfl, hg3⟩
  have HG3 := Lib.hid (gtrans HL2.out hg3)
  have HA3 := Lib.hid (HA2.out.later hg3)
  clear hg3
  go_wp2_with (refine Conf.load_at C HC.out rfl (.tmp 1) rfl w1.heap.size rfl HA3.out ?_)
  refine (KN.out _ HG3.out).mono ?_
  rintro e w4 ⟨rfl, hg4⟩
  have HG4 := Lib.hid (gtrans HG3.out hg4)
  have HA4 := Lib.hid (HA3.out.later hg4)
  clear hg4
  go_wp2_with (refine Conf.load_at C HC.out rfl (.tmp 1) rfl w1.heap.size rfl HA4.out ?_)
  refine (KR.out _ HG4.out).mono ?_
  rintro e w5 ⟨v5, rfl, hv5, hg5⟩
  obtain ⟨a5, c5, e5, _⟩ := hv5.ws.len
  rw [ex_cut] at e5
  subst e5
  have HG5 := Lib.hid (gtrans HG4.out hg5)
  have HA5 := Lib.hid (HA4.out.later hg5)
  clear hg5 hv5
  go_wp2_with (refine Conf.load_at C HC.out rfl (.tmp 1) rfl w1.heap.size rfl HA5.out ?_)
  refine (KS.out _ HG5.out).mono ?_
  rintro e w6 ⟨v6, rfl, hv6, hg6⟩
  obtain ⟨a6, c6, e6, _⟩ := hv6.ws.len
  rw [ex_one] at e6
  subst e6
  have HG6 := Lib.hid (gtrans (gtrans HG1.out HG5.out) hg6)
  clear hg6 hv6
  go_wp2_with fail
  go_ret
  exact ⟨rfl, HG6.out⟩

end Go.Proofs.YtihdijkplmfhfaaGreatDoor.Table
