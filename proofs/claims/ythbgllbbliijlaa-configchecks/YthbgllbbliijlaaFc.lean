/-
  Whether any configuration, and any window, may be is the document's. No condition but those that each theorem states.
-/
import Derived.Test.YthbgllbbliijlaaDn
namespace Go.Proofs.Ythbgllbbliijlaa.Conf
open Go.ChangeShapes Go.WideShapes Go.ChangeAt Go.RowKit
open Go.Proofs.Ythbgllbbliijlaa.Divs Go.Proofs.Ythbgllbbliijlaa.Grow Go.Proofs.Ythbgllbbliijlaa.Zone
open Go.Proofs.Ythbgllbbliijlaa.By (Sk SL bool_no bool_yes)
open Go.Proofs.Ythbgllbbliijlaa.Each
open Go.Proofs.Ythbgllbbliijlaa.Zo Go.Proofs.Ythbgllbbliijlaa.Su Go.Proofs.Ythbgllbbliijlaa.Cf

theorem ite_no {c : Prop} [Decidable c] {A B : Prop} (h : ¬ c) (hb : B) : if c then A else B := by rw [if_neg h]; exact hb

def KV0 (D : Array Value) (c : Cg) (x : Wn) (k : Int) : Nat → Value → World → Prop
  | 0, v, _ => v = .bool true
  | 1, v, _ => v = .bool true
  | 2, v, _ => v = .agg D
  | 3, v, W => ∃ E, v = .agg E ∧ Is W E c
  | 4, v, _ => v = .int .i64 k
  | 5, v, _ => v = .agg D
  | 6, v, _ => v = .int .i64 k
  | 7, v, _ => v = .bool true
  | 8, v, _ => v = .bool true
  | 9, v, _ => v = .bool true
  | 10, v, _ => v = .int .i64 0
  | 11, v, _ => v = .bool true
  | 12, v, _ => v = .agg (wc x).toArray
  | 13, v, _ => v = .bool true
  | 14, v, _ => v = .bool true
  | 15, v, _ => v = .bool true
  | 16, v, _ => v = .bool true
  | 17, v, _ => v = .int .i64 0
  | 18, v, _ => v = .bool true
  | 19, v, _ => v = .bool true
  | 22, v, _ => v = .bool true
  | 23, v, _ => v = .bool true
  | 24, v, _ => v = .bool true
  | _, _, _ => True

theorem KV0.later (D : Array Value) (c : Cg) (x : Wn) (k : Int) (i : Nat) (v : Value) (W W' : World) (h : KV0 D c x k i v W) (g : Later W W') : KV0 D c x k i v W' := by
  unfold KV0 at *
  split at h <;> try exact h
  · exact (let ⟨E, e, k⟩ := h; ⟨E, e, k.later g⟩)

def KV104 (D : Array Value) (c : Cg) (x : Wn) (k : Int) : Nat → Value → World → Prop
  | 0, v, _ => v = .bool true
  | 1, v, _ => v = .bool true
  | 2, v, _ => v = .agg D
  | 3, v, W => ∃ E, v = .agg E ∧ Is W E c
  | 4, v, _ => v = .int .i64 k
  | 5, v, _ => v = .agg D
  | 6, v, _ => v = .int .i64 k
  | 7, v, _ => v = .bool true
  | 8, v, _ => v = .bool true
  | 9, v, _ => v = .bool true
  | 10, v, _ => v = .int .i64 104
  | 11, v, _ => v = .bool false
  | 12, v, _ => v = .agg (wc x).toArray
  | 13, v, _ => v = .bool false
  | 14, v, _ => v = .bool true
  | 15, v, _ => v = .bool true
  | 16, v, _ => v = .bool true
  | 17, v, _ => v = .int .i64 104
  | 18, v, _ => v = .bool false
  | 19, v, _ => v = .bool false
  | 20, v, _ => v = .int .i64 104
  | 21, v, _ => v = .bool true
  | 22, v, _ => v = .bool true
  | 23, v, _ => v = .bool true
  | 24, v, _ => v = .bool true
  | _, _, _ => True

theorem KV104.later (D : Array Value) (c : Cg) (x : Wn) (k : Int) (i : Nat) (v : Value) (W W' : World) (h : KV104 D c x k i v W) (g : Later W W') : KV104 D c x k i v W' := by
  unfold KV104 at *
  split at h <;> try exact h
  · exact (let ⟨E, e, k⟩ := h; ⟨E, e, k.later g⟩)

theorem we_wo (x : Wn) : (we x = 0 ∧ wo x = true) ∨ (we x = 104 ∧ wo x = false) := by
  unfold we
  cases wo x <;> simp

set_option maxHeartbeats 2000000 in
theorem checks_core (w : World) (D : Array Value) (c : Cg) (hc : Is w D c) (x : Wn) : Calls Try.prog 3 #[.agg D, .agg (wc x).toArray] w fun e w' => e = .returned (.bool true) ∧ Later w w' := by
  have KF := Lib.hid (fun W (g : Later w W) => few_of (hc.later g))
  have KO := Lib.hid (fun W (g : Later w W) hf => own_of (hc.later g) hf)
  have KC := Lib.hid (fun W E (h : Is W E c) => check_of h)
  have KR := Lib.hid (fun W (g : Later w W) => rcheck_of (hc.later g))
  have KW := Lib.hid (fun W => window_any x W)
  have KV := Lib.hid (fun W => rwindow_any x W)
  have KA := Lib.hid awake_any
  have HZ := Lib.hid hc.size
  have HL0 := Lib.hid (((Later.refl w).alloc D 33).alloc (wc x).toArray 35)
  have HA0 := Lib.hid ((At.new w D 33).put (.cells (wc x).toArray 35))
  have HB0 := Lib.hid (At.new (w.alloc (.cells D 33)) (wc x).toArray 35)
  simp only [World.size_alloc] at HB0
  clear hc
  have HQ := we_wo x
  generalize hk : ce c = k at *
  generalize hq : we x = q at *
  generalize hr : wo x = r at *
  clear hk hq hr
  unfold wc at HL0 HA0
  unfold wc
  go_enter Try.func3, Try.ntmps3
  go_wp2_with (refine load_at D HZ.out rfl (.tmp 2) rfl w.heap.size rfl HA0.out ?_)
  refine (KF.out _ HL0.out).mono ?_
  rintro e w1 ⟨rfl, hg1⟩
  have HL1 := Lib.hid (gtrans HL0.out hg1)
  have HA1 := Lib.hid (HA0.out.later hg1)
  have HB1 := Lib.hid (HB0.out.later hg1)
  clear hg1
  cases e1 : fw c with
  | false =>
    go_wp2_with fail
    refine (KA.out _).mono ?_
    rintro e w2 ⟨rfl, hg2⟩
    have HL2 := Lib.hid (gtrans HL1.out hg2)
    clear hg2
    go_wp2_with fail
    go_ret
    exact ⟨rfl, HL2.out⟩
  | true =>
    have HB1' : Hid (w1.rangeAt (w.heap.size + 1) 0 (wc x)) := Lib.hid (fun j y hy => by rw [Nat.zero_add]; exact HB1.out j y (by simpa using hy))
    go_wp2_with (refine load_win x rfl (.tmp 3) rfl (w.heap.size + 1) 0 rfl HB1'.out ?_)
    refine (KW.out _).mono ?_
    rintro e w2 ⟨rfl, hg2⟩
    have HL2 := Lib.hid (gtrans HL1.out hg2)
    have HA2 := Lib.hid (HA1.out.later hg2)
    have HB2 := Lib.hid (HB1.out.later hg2)
    clear hg2
    rcases HQ with ⟨rfl, rfl⟩ | ⟨rfl, rfl⟩
    · go_wp2_with fail
      refine region_each (KV0 D c x k) (by kernel_rfl) (by kernel_rfl) (KV0.later D c x k) ?_ ?_
      · intro i hi
        match i with
        | 0 =>
          intro o ho
          simp only [List.getElem?_toArray, List.getElem?_cons_zero, Option.some.injEq] at ho
          subst ho
          intro a W hl hold hdep
          refine ite_yes rfl ?_
          clear hold hdep
          unfold Oper.wp
          go_simp
          refine (KA.out _).mono ?_
          rintro e w1 ⟨rfl, hg1⟩
          exact ⟨_, rfl, rfl, hg1⟩
        | 1 =>
          intro o ho
          simp only [List.getElem?_toArray, List.getElem?_cons_zero, List.getElem?_cons_succ, Option.some.injEq] at ho
          subst ho
          intro a W hl hold hdep
          refine ite_yes rfl ?_
          obtain ⟨_, h12, rfl⟩ := hdep 0 (by decide) _ _ rfl rfl
          clear hold hdep
          unfold Oper.wp
          go_simp
          exact ⟨_, rfl, rfl, Later.refl _⟩
        | 2 =>
          intro o ho
          simp only [List.getElem?_toArray, List.getElem?_cons_zero, List.getElem?_cons_succ, Option.some.injEq] at ho
          subst ho
          intro a W hl hold hdep
          obtain ⟨_, h13, rfl⟩ := hdep 1 (by decide) _ _ rfl rfl
          refine ite_yes ((want_of rfl rfl rfl h13).trans rfl) ?_
          have h2 : a.tmps[2]? = some (.pointer (some ⟨w.heap.size, 0, none⟩)) := hold 2 (free_of (by kernel_rfl))
          clear hold hdep
          exact wp_load_cfg D HZ.out W w.heap.size (HA2.out.later hl) (.tmp 2) rfl (ev h2) ⟨_, rfl, rfl, Later.refl _⟩
        | 3 =>
          intro o ho
          simp only [List.getElem?_toArray, List.getElem?_cons_zero, List.getElem?_cons_succ, Option.some.injEq] at ho
          subst ho
          intro a W hl hold hdep
          obtain ⟨_, h13, rfl⟩ := hdep 1 (by decide) _ _ rfl rfl
          refine ite_yes ((want_of rfl rfl rfl h13).trans rfl) ?_
          obtain ⟨_, h14, rfl⟩ := hdep 2 (by decide) _ _ rfl rfl
          clear hold hdep
          unfold Oper.wp
          go_simp
          refine (KO.out _ (gtrans HL2.out hl) e1).mono ?_
          rintro e w1 ⟨E, rfl, ho, hg1⟩
          exact ⟨_, rfl, ⟨E, rfl, ho.is⟩, hg1⟩
        | 4 =>
          intro o ho
          simp only [List.getElem?_toArray, List.getElem?_cons_zero, List.getElem?_cons_succ, Option.some.injEq] at ho
          subst ho
          intro a W hl hold hdep
          obtain ⟨_, h13, rfl⟩ := hdep 1 (by decide) _ _ rfl rfl
          refine ite_yes ((want_of rfl rfl rfl h13).trans rfl) ?_
          obtain ⟨_, h15, ⟨E, rfl, hE⟩⟩ := hdep 3 (by decide) _ _ rfl rfl
          clear hold hdep
          unfold Oper.wp
          go_simp
          refine (KC.out _ _ hE).mono ?_
          rintro e w1 ⟨rfl, hg1⟩
          exact ⟨_, rfl, rfl, hg1⟩
        | 5 =>
          intro o ho
          simp only [List.getElem?_toArray, List.getElem?_cons_zero, List.getElem?_cons_succ, Option.some.injEq] at ho
          subst ho
          intro a W hl hold hdep
          obtain ⟨_, h13, rfl⟩ := hdep 1 (by decide) _ _ rfl rfl
          refine ite_yes ((want_of rfl rfl rfl h13).trans rfl) ?_
          have h2 : a.tmps[2]? = some (.pointer (some ⟨w.heap.size, 0, none⟩)) := hold 2 (free_of (by kernel_rfl))
          clear hold hdep
          exact wp_load_cfg D HZ.out W w.heap.size (HA2.out.later hl) (.tmp 2) rfl (ev h2) ⟨_, rfl, rfl, Later.refl _⟩
        | 6 =>
          intro o ho
          simp only [List.getElem?_toArray, List.getElem?_cons_zero, List.getElem?_cons_succ, Option.some.injEq] at ho
          subst ho
          intro a W hl hold hdep
          obtain ⟨_, h13, rfl⟩ := hdep 1 (by decide) _ _ rfl rfl
          refine ite_yes ((want_of rfl rfl rfl h13).trans rfl) ?_
          obtain ⟨_, h17, rfl⟩ := hdep 5 (by decide) _ _ rfl rfl
          clear hold hdep
          unfold Oper.wp
          go_simp
          refine (KR.out _ (gtrans HL2.out hl)).mono ?_
          rintro e w1 ⟨rfl, hg1⟩
          exact ⟨_, rfl, rfl, hg1⟩
        | 7 =>
          intro o ho
          simp only [List.getElem?_toArray, List.getElem?_cons_zero, List.getElem?_cons_succ, Option.some.injEq] at ho
          subst ho
          intro a W hl hold hdep
          obtain ⟨_, h13, rfl⟩ := hdep 1 (by decide) _ _ rfl rfl
          refine ite_yes ((want_of rfl rfl rfl h13).trans rfl) ?_
          obtain ⟨_, h16, rfl⟩ := hdep 4 (by decide) _ _ rfl rfl
          obtain ⟨_, h18, rfl⟩ := hdep 6 (by decide) _ _ rfl rfl
          clear hold hdep
          unfold Oper.wp
          go_simp
          exact ⟨_, rfl, rfl, Later.refl _⟩
        | 8 =>
          intro o ho
          simp only [List.getElem?_toArray, List.getElem?_cons_zero, List.getElem?_cons_succ, Option.some.injEq] at ho
          subst ho
          intro a W hl hold hdep
          refine ite_yes rfl ?_
          obtain ⟨_, h13, rfl⟩ := hdep 1 (by decide) _ _ rfl rfl
          obtain ⟨_, h19, rfl⟩ := hdep 7 (by decide) _ _ rfl rfl
          clear hold hdep
          unfold Oper.wp
          go_simp
          exact ⟨_, rfl, rfl, Later.refl _⟩
        | 9 =>
          intro o ho
          simp only [List.getElem?_toArray, List.getElem?_cons_zero, List.getElem?_cons_succ, Option.some.injEq] at ho
          subst ho
          intro a W hl hold hdep
          refine ite_yes rfl ?_
          obtain ⟨_, h20, rfl⟩ := hdep 8 (by decide) _ _ rfl rfl
          clear hold hdep
          unfold Oper.wp
          go_simp
          exact ⟨_, rfl, rfl, Later.refl _⟩
        | 10 =>
          intro o ho
          simp only [List.getElem?_toArray, List.getElem?_cons_zero, List.getElem?_cons_succ, Option.some.injEq] at ho
          subst ho
          intro a W hl hold hdep
          obtain ⟨_, h21, rfl⟩ := hdep 9 (by decide) _ _ rfl rfl
          refine ite_yes ((want_of rfl rfl rfl h21).trans rfl) ?_
          have h5 : a.tmps[5]? = some (.int .i64 0) := hold 5 (free_of (by kernel_rfl))
          clear hold hdep
          unfold Oper.wp
          go_simp
          exact ⟨_, rfl, rfl, Later.refl _⟩
        | 11 =>
          intro o ho
          simp only [List.getElem?_toArray, List.getElem?_cons_zero, List.getElem?_cons_succ, Option.some.injEq] at ho
          subst ho
          intro a W hl hold hdep
          obtain ⟨_, h21, rfl⟩ := hdep 9 (by decide) _ _ rfl rfl
          refine ite_yes ((want_of rfl rfl rfl h21).trans rfl) ?_
          obtain ⟨_, h22, rfl⟩ := hdep 10 (by decide) _ _ rfl rfl
          clear hold hdep
          unfold Oper.wp
          go_simp
          exact ⟨_, rfl, rfl, Later.refl _⟩
        | 12 =>
          intro o ho
          simp only [List.getElem?_toArray, List.getElem?_cons_zero, List.getElem?_cons_succ, Option.some.injEq] at ho
          subst ho
          intro a W hl hold hdep
          obtain ⟨_, h21, rfl⟩ := hdep 9 (by decide) _ _ rfl rfl
          refine ite_yes ((want_of rfl rfl rfl h21).trans rfl) ?_
          have h3 : a.tmps[3]? = some (.pointer (some ⟨w.heap.size + 1, 0, none⟩)) := hold 3 (free_of (by kernel_rfl))
          clear hold hdep
          exact wp_load_mid (P := Try.prog) 35 (.tmp 3) rfl (w.heap.size + 1) 0 (ev h3) (wc x) _ (fun j y hy => by rw [Nat.zero_add]; exact (HB2.out.later hl) j y (by simpa using hy)) Try.underlying35 rfl (by kernel_rfl) ⟨_, rfl, rfl, Later.refl _⟩
        | 13 =>
          intro o ho
          simp only [List.getElem?_toArray, List.getElem?_cons_zero, List.getElem?_cons_succ, Option.some.injEq] at ho
          subst ho
          intro a W hl hold hdep
          obtain ⟨_, h21, rfl⟩ := hdep 9 (by decide) _ _ rfl rfl
          refine ite_yes ((want_of rfl rfl rfl h21).trans rfl) ?_
          obtain ⟨_, h24, rfl⟩ := hdep 12 (by decide) _ _ rfl rfl
          clear hold hdep
          unfold Oper.wp
          go_simp
          refine (KV.out _).mono ?_
          rintro e w1 ⟨rfl, hg1⟩
          exact ⟨_, rfl, rfl, hg1⟩
        | 14 =>
          intro o ho
          simp only [List.getElem?_toArray, List.getElem?_cons_zero, List.getElem?_cons_succ, Option.some.injEq] at ho
          subst ho
          intro a W hl hold hdep
          obtain ⟨_, h21, rfl⟩ := hdep 9 (by decide) _ _ rfl rfl
          refine ite_yes ((want_of rfl rfl rfl h21).trans rfl) ?_
          obtain ⟨_, h23, rfl⟩ := hdep 11 (by decide) _ _ rfl rfl
          obtain ⟨_, h25, rfl⟩ := hdep 13 (by decide) _ _ rfl rfl
          clear hold hdep
          unfold Oper.wp
          go_simp
          exact ⟨_, rfl, rfl, Later.refl _⟩
        | 15 =>
          intro o ho
          simp only [List.getElem?_toArray, List.getElem?_cons_zero, List.getElem?_cons_succ, Option.some.injEq] at ho
          subst ho
          intro a W hl hold hdep
          refine ite_yes rfl ?_
          obtain ⟨_, h21, rfl⟩ := hdep 9 (by decide) _ _ rfl rfl
          obtain ⟨_, h26, rfl⟩ := hdep 14 (by decide) _ _ rfl rfl
          clear hold hdep
          unfold Oper.wp
          go_simp
          exact ⟨_, rfl, rfl, Later.refl _⟩
        | 16 =>
          intro o ho
          simp only [List.getElem?_toArray, List.getElem?_cons_zero, List.getElem?_cons_succ, Option.some.injEq] at ho
          subst ho
          intro a W hl hold hdep
          refine ite_yes rfl ?_
          obtain ⟨_, h27, rfl⟩ := hdep 15 (by decide) _ _ rfl rfl
          clear hold hdep
          unfold Oper.wp
          go_simp
          exact ⟨_, rfl, rfl, Later.refl _⟩
        | 17 =>
          intro o ho
          simp only [List.getElem?_toArray, List.getElem?_cons_zero, List.getElem?_cons_succ, Option.some.injEq] at ho
          subst ho
          intro a W hl hold hdep
          obtain ⟨_, h28, rfl⟩ := hdep 16 (by decide) _ _ rfl rfl
          refine ite_yes ((want_of rfl rfl rfl h28).trans rfl) ?_
          have h5 : a.tmps[5]? = some (.int .i64 0) := hold 5 (free_of (by kernel_rfl))
          clear hold hdep
          unfold Oper.wp
          go_simp
          exact ⟨_, rfl, rfl, Later.refl _⟩
        | 18 =>
          intro o ho
          simp only [List.getElem?_toArray, List.getElem?_cons_zero, List.getElem?_cons_succ, Option.some.injEq] at ho
          subst ho
          intro a W hl hold hdep
          obtain ⟨_, h28, rfl⟩ := hdep 16 (by decide) _ _ rfl rfl
          refine ite_yes ((want_of rfl rfl rfl h28).trans rfl) ?_
          obtain ⟨_, h29, rfl⟩ := hdep 17 (by decide) _ _ rfl rfl
          clear hold hdep
          unfold Oper.wp
          go_simp
          exact ⟨_, rfl, rfl, Later.refl _⟩
        | 19 =>
          intro o ho
          simp only [List.getElem?_toArray, List.getElem?_cons_zero, List.getElem?_cons_succ, Option.some.injEq] at ho
          subst ho
          intro a W hl hold hdep
          obtain ⟨_, h28, rfl⟩ := hdep 16 (by decide) _ _ rfl rfl
          refine ite_yes ((want_of rfl rfl rfl h28).trans rfl) ?_
          obtain ⟨_, h30, rfl⟩ := hdep 18 (by decide) _ _ rfl rfl
          clear hold hdep
          unfold Oper.wp
          go_simp
          exact ⟨_, rfl, rfl, Later.refl _⟩
        | 20 =>
          intro o ho
          simp only [List.getElem?_toArray, List.getElem?_cons_zero, List.getElem?_cons_succ, Option.some.injEq] at ho
          subst ho
          intro a W hl hold hdep
          obtain ⟨_, h31, rfl⟩ := hdep 19 (by decide) _ _ rfl rfl
          exact ite_no (by rw [want_of rfl rfl rfl h31]; decide) trivial
        | 21 =>
          intro o ho
          simp only [List.getElem?_toArray, List.getElem?_cons_zero, List.getElem?_cons_succ, Option.some.injEq] at ho
          subst ho
          intro a W hl hold hdep
          obtain ⟨_, h31, rfl⟩ := hdep 19 (by decide) _ _ rfl rfl
          exact ite_no (by rw [want_of rfl rfl rfl h31]; decide) trivial
        | 22 =>
          intro o ho
          simp only [List.getElem?_toArray, List.getElem?_cons_zero, List.getElem?_cons_succ, Option.some.injEq] at ho
          subst ho
          intro a W hl hold hdep
          obtain ⟨_, h28, rfl⟩ := hdep 16 (by decide) _ _ rfl rfl
          refine ite_yes ((want_of rfl rfl rfl h28).trans rfl) ?_
          obtain ⟨_, h31, rfl⟩ := hdep 19 (by decide) _ _ rfl rfl
          obtain ⟨x21, h33, _⟩ := hdep 21 (by decide) _ _ rfl rfl
          clear hold hdep
          unfold Oper.wp
          go_simp
          exact ⟨_, rfl, rfl, Later.refl _⟩
        | 23 =>
          intro o ho
          simp only [List.getElem?_toArray, List.getElem?_cons_zero, List.getElem?_cons_succ, Option.some.injEq] at ho
          subst ho
          intro a W hl hold hdep
          refine ite_yes rfl ?_
          obtain ⟨_, h28, rfl⟩ := hdep 16 (by decide) _ _ rfl rfl
          obtain ⟨_, h34, rfl⟩ := hdep 22 (by decide) _ _ rfl rfl
          clear hold hdep
          unfold Oper.wp
          go_simp
          exact ⟨_, rfl, rfl, Later.refl _⟩
        | 24 =>
          intro o ho
          simp only [List.getElem?_toArray, List.getElem?_cons_zero, List.getElem?_cons_succ, Option.some.injEq] at ho
          subst ho
          intro a W hl hold hdep
          refine ite_yes rfl ?_
          obtain ⟨_, h35, rfl⟩ := hdep 23 (by decide) _ _ rfl rfl
          clear hold hdep
          unfold Oper.wp
          go_simp
          exact ⟨_, rfl, rfl, Later.refl _⟩
        | k + 25 => exact absurd hi (by simp)
      · intro a W hl hd hz hold hall
        obtain ⟨_, k4, rfl⟩ := hall 24 _ _ rfl rfl
        have ha := act_eta a 36 [] hz hd
        rw [show (List.range 36).map (fun s => a.tmps.getD s undef) = [a.tmps.getD 0 undef, a.tmps.getD 1 undef, a.tmps.getD 2 undef, a.tmps.getD 3 undef, a.tmps.getD 4 undef, a.tmps.getD 5 undef, a.tmps.getD 6 undef, a.tmps.getD 7 undef, a.tmps.getD 8 undef, a.tmps.getD 9 undef, a.tmps.getD 10 undef, a.tmps.getD 11 undef, a.tmps.getD 12 undef, a.tmps.getD 13 undef, a.tmps.getD 14 undef, a.tmps.getD 15 undef, a.tmps.getD 16 undef, a.tmps.getD 17 undef, a.tmps.getD 18 undef, a.tmps.getD 19 undef, a.tmps.getD 20 undef, a.tmps.getD 21 undef, a.tmps.getD 22 undef, a.tmps.getD 23 undef, a.tmps.getD 24 undef, a.tmps.getD 25 undef, a.tmps.getD 26 undef, a.tmps.getD 27 undef, a.tmps.getD 28 undef, a.tmps.getD 29 undef, a.tmps.getD 30 undef, a.tmps.getD 31 undef, a.tmps.getD 32 undef, a.tmps.getD 33 undef, a.tmps.getD 34 undef, a.tmps.getD 35 undef] from rfl, getD_of k4] at ha
        rw [ha]
        clear hall hold hz hd ha k4
        generalize a.tmps.getD 0 undef = x0
        generalize a.tmps.getD 1 undef = x1
        generalize a.tmps.getD 2 undef = x2
        generalize a.tmps.getD 3 undef = x3
        generalize a.tmps.getD 5 undef = x5
        generalize a.tmps.getD 6 undef = x6
        generalize a.tmps.getD 7 undef = x7
        generalize a.tmps.getD 8 undef = x8
        generalize a.tmps.getD 9 undef = x9
        generalize a.tmps.getD 10 undef = x10
        generalize a.tmps.getD 11 undef = x11
        generalize a.tmps.getD 12 undef = x12
        generalize a.tmps.getD 13 undef = x13
        generalize a.tmps.getD 14 undef = x14
        generalize a.tmps.getD 15 undef = x15
        generalize a.tmps.getD 16 undef = x16
        generalize a.tmps.getD 17 undef = x17
        generalize a.tmps.getD 18 undef = x18
        generalize a.tmps.getD 19 undef = x19
        generalize a.tmps.getD 20 undef = x20
        generalize a.tmps.getD 21 undef = x21
        generalize a.tmps.getD 22 undef = x22
        generalize a.tmps.getD 23 undef = x23
        generalize a.tmps.getD 24 undef = x24
        generalize a.tmps.getD 25 undef = x25
        generalize a.tmps.getD 26 undef = x26
        generalize a.tmps.getD 27 undef = x27
        generalize a.tmps.getD 28 undef = x28
        generalize a.tmps.getD 29 undef = x29
        generalize a.tmps.getD 30 undef = x30
        generalize a.tmps.getD 31 undef = x31
        generalize a.tmps.getD 32 undef = x32
        generalize a.tmps.getD 33 undef = x33
        generalize a.tmps.getD 34 undef = x34
        generalize a.tmps.getD 35 undef = x35
        have HW := Lib.hid (gtrans HL2.out hl)
        clear hl
        go_wp2_with fail
        go_ret
        exact ⟨rfl, HW.out⟩
    · go_wp2_with fail
      refine region_each (KV104 D c x k) (by kernel_rfl) (by kernel_rfl) (KV104.later D c x k) ?_ ?_
      · intro i hi
        match i with
        | 0 =>
          intro o ho
          simp only [List.getElem?_toArray, List.getElem?_cons_zero, Option.some.injEq] at ho
          subst ho
          intro a W hl hold hdep
          refine ite_yes rfl ?_
          clear hold hdep
          unfold Oper.wp
          go_simp
          refine (KA.out _).mono ?_
          rintro e w1 ⟨rfl, hg1⟩
          exact ⟨_, rfl, rfl, hg1⟩
        | 1 =>
          intro o ho
          simp only [List.getElem?_toArray, List.getElem?_cons_zero, List.getElem?_cons_succ, Option.some.injEq] at ho
          subst ho
          intro a W hl hold hdep
          refine ite_yes rfl ?_
          obtain ⟨_, h12, rfl⟩ := hdep 0 (by decide) _ _ rfl rfl
          clear hold hdep
          unfold Oper.wp
          go_simp
          exact ⟨_, rfl, rfl, Later.refl _⟩
        | 2 =>
          intro o ho
          simp only [List.getElem?_toArray, List.getElem?_cons_zero, List.getElem?_cons_succ, Option.some.injEq] at ho
          subst ho
          intro a W hl hold hdep
          obtain ⟨_, h13, rfl⟩ := hdep 1 (by decide) _ _ rfl rfl
          refine ite_yes ((want_of rfl rfl rfl h13).trans rfl) ?_
          have h2 : a.tmps[2]? = some (.pointer (some ⟨w.heap.size, 0, none⟩)) := hold 2 (free_of (by kernel_rfl))
          clear hold hdep
          exact wp_load_cfg D HZ.out W w.heap.size (HA2.out.later hl) (.tmp 2) rfl (ev h2) ⟨_, rfl, rfl, Later.refl _⟩
        | 3 =>
          intro o ho
          simp only [List.getElem?_toArray, List.getElem?_cons_zero, List.getElem?_cons_succ, Option.some.injEq] at ho
          subst ho
          intro a W hl hold hdep
          obtain ⟨_, h13, rfl⟩ := hdep 1 (by decide) _ _ rfl rfl
          refine ite_yes ((want_of rfl rfl rfl h13).trans rfl) ?_
          obtain ⟨_, h14, rfl⟩ := hdep 2 (by decide) _ _ rfl rfl
          clear hold hdep
          unfold Oper.wp
          go_simp
          refine (KO.out _ (gtrans HL2.out hl) e1).mono ?_
          rintro e w1 ⟨E, rfl, ho, hg1⟩
          exact ⟨_, rfl, ⟨E, rfl, ho.is⟩, hg1⟩
        | 4 =>
          intro o ho
          simp only [List.getElem?_toArray, List.getElem?_cons_zero, List.getElem?_cons_succ, Option.some.injEq] at ho
          subst ho
          intro a W hl hold hdep
          obtain ⟨_, h13, rfl⟩ := hdep 1 (by decide) _ _ rfl rfl
          refine ite_yes ((want_of rfl rfl rfl h13).trans rfl) ?_
          obtain ⟨_, h15, ⟨E, rfl, hE⟩⟩ := hdep 3 (by decide) _ _ rfl rfl
          clear hold hdep
          unfold Oper.wp
          go_simp
          refine (KC.out _ _ hE).mono ?_
          rintro e w1 ⟨rfl, hg1⟩
          exact ⟨_, rfl, rfl, hg1⟩
        | 5 =>
          intro o ho
          simp only [List.getElem?_toArray, List.getElem?_cons_zero, List.getElem?_cons_succ, Option.some.injEq] at ho
          subst ho
          intro a W hl hold hdep
          obtain ⟨_, h13, rfl⟩ := hdep 1 (by decide) _ _ rfl rfl
          refine ite_yes ((want_of rfl rfl rfl h13).trans rfl) ?_
          have h2 : a.tmps[2]? = some (.pointer (some ⟨w.heap.size, 0, none⟩)) := hold 2 (free_of (by kernel_rfl))
          clear hold hdep
          exact wp_load_cfg D HZ.out W w.heap.size (HA2.out.later hl) (.tmp 2) rfl (ev h2) ⟨_, rfl, rfl, Later.refl _⟩
        | 6 =>
          intro o ho
          simp only [List.getElem?_toArray, List.getElem?_cons_zero, List.getElem?_cons_succ, Option.some.injEq] at ho
          subst ho
          intro a W hl hold hdep
          obtain ⟨_, h13, rfl⟩ := hdep 1 (by decide) _ _ rfl rfl
          refine ite_yes ((want_of rfl rfl rfl h13).trans rfl) ?_
          obtain ⟨_, h17, rfl⟩ := hdep 5 (by decide) _ _ rfl rfl
          clear hold hdep
          unfold Oper.wp
          go_simp
          refine (KR.out _ (gtrans HL2.out hl)).mono ?_
          rintro e w1 ⟨rfl, hg1⟩
          exact ⟨_, rfl, rfl, hg1⟩
        | 7 =>
          intro o ho
          simp only [List.getElem?_toArray, List.getElem?_cons_zero, List.getElem?_cons_succ, Option.some.injEq] at ho
          subst ho
          intro a W hl hold hdep
          obtain ⟨_, h13, rfl⟩ := hdep 1 (by decide) _ _ rfl rfl
          refine ite_yes ((want_of rfl rfl rfl h13).trans rfl) ?_
          obtain ⟨_, h16, rfl⟩ := hdep 4 (by decide) _ _ rfl rfl
          obtain ⟨_, h18, rfl⟩ := hdep 6 (by decide) _ _ rfl rfl
          clear hold hdep
          unfold Oper.wp
          go_simp
          exact ⟨_, rfl, rfl, Later.refl _⟩
        | 8 =>
          intro o ho
          simp only [List.getElem?_toArray, List.getElem?_cons_zero, List.getElem?_cons_succ, Option.some.injEq] at ho
          subst ho
          intro a W hl hold hdep
          refine ite_yes rfl ?_
          obtain ⟨_, h13, rfl⟩ := hdep 1 (by decide) _ _ rfl rfl
          obtain ⟨_, h19, rfl⟩ := hdep 7 (by decide) _ _ rfl rfl
          clear hold hdep
          unfold Oper.wp
          go_simp
          exact ⟨_, rfl, rfl, Later.refl _⟩
        | 9 =>
          intro o ho
          simp only [List.getElem?_toArray, List.getElem?_cons_zero, List.getElem?_cons_succ, Option.some.injEq] at ho
          subst ho
          intro a W hl hold hdep
          refine ite_yes rfl ?_
          obtain ⟨_, h20, rfl⟩ := hdep 8 (by decide) _ _ rfl rfl
          clear hold hdep
          unfold Oper.wp
          go_simp
          exact ⟨_, rfl, rfl, Later.refl _⟩
        | 10 =>
          intro o ho
          simp only [List.getElem?_toArray, List.getElem?_cons_zero, List.getElem?_cons_succ, Option.some.injEq] at ho
          subst ho
          intro a W hl hold hdep
          obtain ⟨_, h21, rfl⟩ := hdep 9 (by decide) _ _ rfl rfl
          refine ite_yes ((want_of rfl rfl rfl h21).trans rfl) ?_
          have h5 : a.tmps[5]? = some (.int .i64 104) := hold 5 (free_of (by kernel_rfl))
          clear hold hdep
          unfold Oper.wp
          go_simp
          exact ⟨_, rfl, rfl, Later.refl _⟩
        | 11 =>
          intro o ho
          simp only [List.getElem?_toArray, List.getElem?_cons_zero, List.getElem?_cons_succ, Option.some.injEq] at ho
          subst ho
          intro a W hl hold hdep
          obtain ⟨_, h21, rfl⟩ := hdep 9 (by decide) _ _ rfl rfl
          refine ite_yes ((want_of rfl rfl rfl h21).trans rfl) ?_
          obtain ⟨_, h22, rfl⟩ := hdep 10 (by decide) _ _ rfl rfl
          clear hold hdep
          unfold Oper.wp
          go_simp
          exact ⟨_, rfl, rfl, Later.refl _⟩
        | 12 =>
          intro o ho
          simp only [List.getElem?_toArray, List.getElem?_cons_zero, List.getElem?_cons_succ, Option.some.injEq] at ho
          subst ho
          intro a W hl hold hdep
          obtain ⟨_, h21, rfl⟩ := hdep 9 (by decide) _ _ rfl rfl
          refine ite_yes ((want_of rfl rfl rfl h21).trans rfl) ?_
          have h3 : a.tmps[3]? = some (.pointer (some ⟨w.heap.size + 1, 0, none⟩)) := hold 3 (free_of (by kernel_rfl))
          clear hold hdep
          exact wp_load_mid (P := Try.prog) 35 (.tmp 3) rfl (w.heap.size + 1) 0 (ev h3) (wc x) _ (fun j y hy => by rw [Nat.zero_add]; exact (HB2.out.later hl) j y (by simpa using hy)) Try.underlying35 rfl (by kernel_rfl) ⟨_, rfl, rfl, Later.refl _⟩
        | 13 =>
          intro o ho
          simp only [List.getElem?_toArray, List.getElem?_cons_zero, List.getElem?_cons_succ, Option.some.injEq] at ho
          subst ho
          intro a W hl hold hdep
          obtain ⟨_, h21, rfl⟩ := hdep 9 (by decide) _ _ rfl rfl
          refine ite_yes ((want_of rfl rfl rfl h21).trans rfl) ?_
          obtain ⟨_, h24, rfl⟩ := hdep 12 (by decide) _ _ rfl rfl
          clear hold hdep
          unfold Oper.wp
          go_simp
          refine (KV.out _).mono ?_
          rintro e w1 ⟨rfl, hg1⟩
          exact ⟨_, rfl, rfl, hg1⟩
        | 14 =>
          intro o ho
          simp only [List.getElem?_toArray, List.getElem?_cons_zero, List.getElem?_cons_succ, Option.some.injEq] at ho
          subst ho
          intro a W hl hold hdep
          obtain ⟨_, h21, rfl⟩ := hdep 9 (by decide) _ _ rfl rfl
          refine ite_yes ((want_of rfl rfl rfl h21).trans rfl) ?_
          obtain ⟨_, h23, rfl⟩ := hdep 11 (by decide) _ _ rfl rfl
          obtain ⟨_, h25, rfl⟩ := hdep 13 (by decide) _ _ rfl rfl
          clear hold hdep
          unfold Oper.wp
          go_simp
          exact ⟨_, rfl, rfl, Later.refl _⟩
        | 15 =>
          intro o ho
          simp only [List.getElem?_toArray, List.getElem?_cons_zero, List.getElem?_cons_succ, Option.some.injEq] at ho
          subst ho
          intro a W hl hold hdep
          refine ite_yes rfl ?_
          obtain ⟨_, h21, rfl⟩ := hdep 9 (by decide) _ _ rfl rfl
          obtain ⟨_, h26, rfl⟩ := hdep 14 (by decide) _ _ rfl rfl
          clear hold hdep
          unfold Oper.wp
          go_simp
          exact ⟨_, rfl, rfl, Later.refl _⟩
        | 16 =>
          intro o ho
          simp only [List.getElem?_toArray, List.getElem?_cons_zero, List.getElem?_cons_succ, Option.some.injEq] at ho
          subst ho
          intro a W hl hold hdep
          refine ite_yes rfl ?_
          obtain ⟨_, h27, rfl⟩ := hdep 15 (by decide) _ _ rfl rfl
          clear hold hdep
          unfold Oper.wp
          go_simp
          exact ⟨_, rfl, rfl, Later.refl _⟩
        | 17 =>
          intro o ho
          simp only [List.getElem?_toArray, List.getElem?_cons_zero, List.getElem?_cons_succ, Option.some.injEq] at ho
          subst ho
          intro a W hl hold hdep
          obtain ⟨_, h28, rfl⟩ := hdep 16 (by decide) _ _ rfl rfl
          refine ite_yes ((want_of rfl rfl rfl h28).trans rfl) ?_
          have h5 : a.tmps[5]? = some (.int .i64 104) := hold 5 (free_of (by kernel_rfl))
          clear hold hdep
          unfold Oper.wp
          go_simp
          exact ⟨_, rfl, rfl, Later.refl _⟩
        | 18 =>
          intro o ho
          simp only [List.getElem?_toArray, List.getElem?_cons_zero, List.getElem?_cons_succ, Option.some.injEq] at ho
          subst ho
          intro a W hl hold hdep
          obtain ⟨_, h28, rfl⟩ := hdep 16 (by decide) _ _ rfl rfl
          refine ite_yes ((want_of rfl rfl rfl h28).trans rfl) ?_
          obtain ⟨_, h29, rfl⟩ := hdep 17 (by decide) _ _ rfl rfl
          clear hold hdep
          unfold Oper.wp
          go_simp
          exact ⟨_, rfl, rfl, Later.refl _⟩
        | 19 =>
          intro o ho
          simp only [List.getElem?_toArray, List.getElem?_cons_zero, List.getElem?_cons_succ, Option.some.injEq] at ho
          subst ho
          intro a W hl hold hdep
          obtain ⟨_, h28, rfl⟩ := hdep 16 (by decide) _ _ rfl rfl
          refine ite_yes ((want_of rfl rfl rfl h28).trans rfl) ?_
          obtain ⟨_, h30, rfl⟩ := hdep 18 (by decide) _ _ rfl rfl
          clear hold hdep
          unfold Oper.wp
          go_simp
          exact ⟨_, rfl, rfl, Later.refl _⟩
        | 20 =>
          intro o ho
          simp only [List.getElem?_toArray, List.getElem?_cons_zero, List.getElem?_cons_succ, Option.some.injEq] at ho
          subst ho
          intro a W hl hold hdep
          obtain ⟨_, h31, rfl⟩ := hdep 19 (by decide) _ _ rfl rfl
          refine ite_yes ((want_of rfl rfl rfl h31).trans rfl) ?_
          have h5 : a.tmps[5]? = some (.int .i64 104) := hold 5 (free_of (by kernel_rfl))
          clear hold hdep
          unfold Oper.wp
          go_simp
          exact ⟨_, rfl, rfl, Later.refl _⟩
        | 21 =>
          intro o ho
          simp only [List.getElem?_toArray, List.getElem?_cons_zero, List.getElem?_cons_succ, Option.some.injEq] at ho
          subst ho
          intro a W hl hold hdep
          obtain ⟨_, h31, rfl⟩ := hdep 19 (by decide) _ _ rfl rfl
          refine ite_yes ((want_of rfl rfl rfl h31).trans rfl) ?_
          obtain ⟨_, h32, rfl⟩ := hdep 20 (by decide) _ _ rfl rfl
          clear hold hdep
          unfold Oper.wp
          go_simp
          exact ⟨_, rfl, rfl, Later.refl _⟩
        | 22 =>
          intro o ho
          simp only [List.getElem?_toArray, List.getElem?_cons_zero, List.getElem?_cons_succ, Option.some.injEq] at ho
          subst ho
          intro a W hl hold hdep
          obtain ⟨_, h28, rfl⟩ := hdep 16 (by decide) _ _ rfl rfl
          refine ite_yes ((want_of rfl rfl rfl h28).trans rfl) ?_
          obtain ⟨_, h31, rfl⟩ := hdep 19 (by decide) _ _ rfl rfl
          obtain ⟨_, h33, rfl⟩ := hdep 21 (by decide) _ _ rfl rfl
          clear hold hdep
          unfold Oper.wp
          go_simp
          exact ⟨_, rfl, rfl, Later.refl _⟩
        | 23 =>
          intro o ho
          simp only [List.getElem?_toArray, List.getElem?_cons_zero, List.getElem?_cons_succ, Option.some.injEq] at ho
          subst ho
          intro a W hl hold hdep
          refine ite_yes rfl ?_
          obtain ⟨_, h28, rfl⟩ := hdep 16 (by decide) _ _ rfl rfl
          obtain ⟨_, h34, rfl⟩ := hdep 22 (by decide) _ _ rfl rfl
          clear hold hdep
          unfold Oper.wp
          go_simp
          exact ⟨_, rfl, rfl, Later.refl _⟩
        | 24 =>
          intro o ho
          simp only [List.getElem?_toArray, List.getElem?_cons_zero, List.getElem?_cons_succ, Option.some.injEq] at ho
          subst ho
          intro a W hl hold hdep
          refine ite_yes rfl ?_
          obtain ⟨_, h35, rfl⟩ := hdep 23 (by decide) _ _ rfl rfl
          clear hold hdep
          unfold Oper.wp
          go_simp
          exact ⟨_, rfl, rfl, Later.refl _⟩
        | k + 25 => exact absurd hi (by simp)
      · intro a W hl hd hz hold hall
        obtain ⟨_, k4, rfl⟩ := hall 24 _ _ rfl rfl
        have ha := act_eta a 36 [] hz hd
        rw [show (List.range 36).map (fun s => a.tmps.getD s undef) = [a.tmps.getD 0 undef, a.tmps.getD 1 undef, a.tmps.getD 2 undef, a.tmps.getD 3 undef, a.tmps.getD 4 undef, a.tmps.getD 5 undef, a.tmps.getD 6 undef, a.tmps.getD 7 undef, a.tmps.getD 8 undef, a.tmps.getD 9 undef, a.tmps.getD 10 undef, a.tmps.getD 11 undef, a.tmps.getD 12 undef, a.tmps.getD 13 undef, a.tmps.getD 14 undef, a.tmps.getD 15 undef, a.tmps.getD 16 undef, a.tmps.getD 17 undef, a.tmps.getD 18 undef, a.tmps.getD 19 undef, a.tmps.getD 20 undef, a.tmps.getD 21 undef, a.tmps.getD 22 undef, a.tmps.getD 23 undef, a.tmps.getD 24 undef, a.tmps.getD 25 undef, a.tmps.getD 26 undef, a.tmps.getD 27 undef, a.tmps.getD 28 undef, a.tmps.getD 29 undef, a.tmps.getD 30 undef, a.tmps.getD 31 undef, a.tmps.getD 32 undef, a.tmps.getD 33 undef, a.tmps.getD 34 undef, a.tmps.getD 35 undef] from rfl, getD_of k4] at ha
        rw [ha]
        clear hall hold hz hd ha k4
        generalize a.tmps.getD 0 undef = x0
        generalize a.tmps.getD 1 undef = x1
        generalize a.tmps.getD 2 undef = x2
        generalize a.tmps.getD 3 undef = x3
        generalize a.tmps.getD 5 undef = x5
        generalize a.tmps.getD 6 undef = x6
        generalize a.tmps.getD 7 undef = x7
        generalize a.tmps.getD 8 undef = x8
        generalize a.tmps.getD 9 undef = x9
        generalize a.tmps.getD 10 undef = x10
        generalize a.tmps.getD 11 undef = x11
        generalize a.tmps.getD 12 undef = x12
        generalize a.tmps.getD 13 undef = x13
        generalize a.tmps.getD 14 undef = x14
        generalize a.tmps.getD 15 undef = x15
        generalize a.tmps.getD 16 undef = x16
        generalize a.tmps.getD 17 undef = x17
        generalize a.tmps.getD 18 undef = x18
        generalize a.tmps.getD 19 undef = x19
        generalize a.tmps.getD 20 undef = x20
        generalize a.tmps.getD 21 undef = x21
        generalize a.tmps.getD 22 undef = x22
        generalize a.tmps.getD 23 undef = x23
        generalize a.tmps.getD 24 undef = x24
        generalize a.tmps.getD 25 undef = x25
        generalize a.tmps.getD 26 undef = x26
        generalize a.tmps.getD 27 undef = x27
        generalize a.tmps.getD 28 undef = x28
        generalize a.tmps.getD 29 undef = x29
        generalize a.tmps.getD 30 undef = x30
        generalize a.tmps.getD 31 undef = x31
        generalize a.tmps.getD 32 undef = x32
        generalize a.tmps.getD 33 undef = x33
        generalize a.tmps.getD 34 undef = x34
        generalize a.tmps.getD 35 undef = x35
        have HW := Lib.hid (gtrans HL2.out hl)
        clear hl
        go_wp2_with fail
        go_ret
        exact ⟨rfl, HW.out⟩

end Go.Proofs.Ythbgllbbliijlaa.Conf
