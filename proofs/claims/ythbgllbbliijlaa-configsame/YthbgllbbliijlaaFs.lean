/-
  Whether any two configurations are the same, and whether cars can go on under the other one, is the document's. No condition but those that each theorem states.
-/
import Derived.Test.YthbgllbbliijlaaDn
namespace Go.Proofs.Ythbgllbbliijlaa.Conf
open Go.ChangeShapes Go.WideShapes Go.ChangeAt Go.RowKit
open Go.Proofs.Ythbgllbbliijlaa.Divs Go.Proofs.Ythbgllbbliijlaa.Grow Go.Proofs.Ythbgllbbliijlaa.Zone
open Go.Proofs.Ythbgllbbliijlaa.By (Sk SL bool_no bool_yes)
open Go.Proofs.Ythbgllbbliijlaa.Each
open Go.Proofs.Ythbgllbbliijlaa.Zo Go.Proofs.Ythbgllbbliijlaa.Su Go.Proofs.Ythbgllbbliijlaa.Cf

theorem Is.two {W : World} {D : Array Value} {c : Cg} (h : Is W D c) : D[0]? = some (.int .i64 c.f) ∧ D[1]? = some (.int .i64 c.n) := by
  obtain ⟨u, v, rfl, hu, hv⟩ := h
  exact ⟨rfl, rfl⟩

def SVx (D E : Array Value) (c d : Cg) (m f : Bool) : Nat → Value → World → Prop
  | 0, v, _ => v = .bool true
  | 1, v, _ => v = .bool true
  | 2, v, _ => v = .agg D
  | 3, v, W => ∃ F, v = .agg F ∧ Is W F c
  | 4, v, _ => v = .agg E
  | 5, v, W => ∃ F, v = .agg F ∧ Is W F d
  | 6, v, _ => v = .bool m
  | 7, v, _ => v = .agg D
  | 8, v, _ => v = .agg E
  | 9, v, _ => v = .bool m
  | 10, v, _ => v = .bool true
  | 11, v, _ => v = .bool true
  | 12, v, _ => v = .bool true
  | 13, v, _ => v = .agg D
  | 14, v, W => ∃ F, v = .agg F ∧ Is W F c
  | 15, v, _ => v = .agg E
  | 16, v, W => ∃ F, v = .agg F ∧ Is W F d
  | 17, v, _ => v = .bool f
  | 18, v, _ => v = .bool f
  | 19, v, _ => v = .bool true
  | 20, v, _ => v = .bool true
  | 21, v, _ => v = .bool true
  | _, _, _ => True

theorem SVx.later (D E : Array Value) (c d : Cg) (m f : Bool) (i : Nat) (v : Value) (W W' : World) (h : SVx D E c d m f i v W) (g : Later W W') : SVx D E c d m f i v W' := by
  unfold SVx at *
  split at h <;> try exact h
  · exact (let ⟨F, e, k⟩ := h; ⟨F, e, k.later g⟩)
  · exact (let ⟨F, e, k⟩ := h; ⟨F, e, k.later g⟩)
  · exact (let ⟨F, e, k⟩ := h; ⟨F, e, k.later g⟩)
  · exact (let ⟨F, e, k⟩ := h; ⟨F, e, k.later g⟩)

set_option maxHeartbeats 8000000 in
theorem same_core (w : World) (D : Array Value) (c : Cg) (hc : Is w D c) (E : Array Value) (d : Cg) (hd : Is w E d) : Calls Try.prog 4 #[.agg D, .agg E] w fun e w' => e = .returned (.bool true) ∧ Later w w' := by
  have KF := Lib.hid (fun W (g : Later w W) => few_of (hc.later g))
  have KH := Lib.hid (fun W (g : Later w W) => few_of (hd.later g))
  have KO := Lib.hid (fun W (g : Later w W) hf => own_of (hc.later g) hf)
  have KP := Lib.hid (fun W (g : Later w W) hf => own_of (hd.later g) hf)
  have KC := Lib.hid (fun W (g : Later w W) => rcheck_of (hc.later g))
  have KD := Lib.hid (fun W (g : Later w W) => rcheck_of (hd.later g))
  have KS := Lib.hid (fun W X Y (h : Is W X c) (k : Is W Y d) => same_of h k)
  have KT := Lib.hid (fun W (g : Later w W) => rsame_of (hc.later g) (hd.later g))
  have KG := Lib.hid (fun W X Y (h : Is W X c) (k : Is W Y d) => fits_of h k)
  have KA := Lib.hid awake_any
  have HZ := Lib.hid hc.size
  have HY := Lib.hid hd.size
  obtain ⟨d0, d1⟩ := hc.two
  obtain ⟨e0, e1⟩ := hd.two
  have D0 := Lib.hid d0
  have D1 := Lib.hid d1
  have E0 := Lib.hid e0
  have E1 := Lib.hid e1
  have HL0 := Lib.hid (((Later.refl w).alloc D 33).alloc E 33)
  have HA0 := Lib.hid ((At.new w D 33).put (.cells E 33))
  have HB0 := Lib.hid (At.new (w.alloc (.cells D 33)) E 33)
  simp only [World.size_alloc] at HB0
  clear hc hd d0 d1 e0 e1
  have HF : Hid (ft c d = ((ce c == 0) && ((ce d == 0) && ((c.f == d.f) && (c.n == d.n))))) := Lib.hid rfl
  generalize (sb c d && tt c d) = m at *
  generalize ft c d = f at *
  generalize ce c = x at *
  generalize ce d = y at *
  generalize c.f = cf at *
  generalize d.f = df at *
  generalize c.n = cn at *
  generalize d.n = dn at *
  go_enter Try.func4, Try.ntmps4
  go_wp2_with (refine load_at D HZ.out rfl (.tmp 2) rfl w.heap.size rfl HA0.out ?_)
  refine (KF.out _ HL0.out).mono ?_
  rintro e w1 ⟨rfl, hg1⟩
  have HL1 := Lib.hid (gtrans HL0.out hg1)
  have HA1 := Lib.hid (HA0.out.later hg1)
  have HB1 := Lib.hid (HB0.out.later hg1)
  clear hg1 HA0 HB0
  cases e1 : fw c with
  | false =>
    go_wp2_with fail
    refine (KA.out _).mono ?_
    rintro e w2 ⟨rfl, hg2⟩
    have HL2 := Lib.hid (gtrans HL1.out hg2)
    clear hg2
    go_wp2_with fail
    go_ret
    exact ⟨rfl, HL2.out⟩
  | true =>
    go_wp2_with (refine load_in E HY.out (by rfl) (.tmp 3) rfl (w.heap.size + 1) rfl HB1.out ?_)
    refine (KH.out _ HL1.out).mono ?_
    rintro e w2 ⟨rfl, hg2⟩
    have HL2 := Lib.hid (gtrans HL1.out hg2)
    have HA2 := Lib.hid (HA1.out.later hg2)
    have HB2 := Lib.hid (HB1.out.later hg2)
    clear hg2 HA1 HB1
    cases e2 : fw d with
    | false =>
      go_wp2_with fail
      refine (KA.out _).mono ?_
      rintro e w3 ⟨rfl, hg3⟩
      have HL3 := Lib.hid (gtrans HL2.out hg3)
      clear hg3
      go_wp2_with fail
      go_ret
      exact ⟨rfl, HL3.out⟩
    | true =>
      go_wp2_with (refine load_at D HZ.out rfl (.tmp 2) rfl w.heap.size rfl HA2.out ?_)
      refine (KC.out _ HL2.out).mono ?_
      rintro e w3 ⟨rfl, hg3⟩
      have HL3 := Lib.hid (gtrans HL2.out hg3)
      have HA3 := Lib.hid (HA2.out.later hg3)
      have HB3 := Lib.hid (HB2.out.later hg3)
      clear hg3 HA2 HB2
      cases b1 : (x == 0) with
      | false =>
        have HV : f = false := by rw [HF.out]; simp_all
        subst HV
        have HL := HL3
        have HA := HA3
        have HB := HB3
        clear HL3 HA3 HB3 HF
        go_wp2_with fail
        refine region_each (SVx D E c d m false) (by kernel_rfl) (by kernel_rfl) (SVx.later D E c d m false) ?_ ?_
        · intro i hi
          match i with
          | 0 =>
            intro o ho
            simp only [List.getElem?_toArray, List.getElem?_cons_zero, Option.some.injEq] at ho
            subst ho
            intro a W hl hold hdep
            refine ite_yes rfl ?_
            clear hold hdep
            unfold Oper.wp
            go_simp
            refine (KA.out _).mono ?_
            rintro e w1 ⟨rfl, hg1⟩
            exact ⟨_, rfl, rfl, hg1⟩
          | 1 =>
            intro o ho
            simp only [List.getElem?_toArray, List.getElem?_cons_zero, List.getElem?_cons_succ, Option.some.injEq] at ho
            subst ho
            intro a W hl hold hdep
            refine ite_yes rfl ?_
            obtain ⟨_, h37, rfl⟩ := hdep 0 (by decide) _ _ rfl rfl
            clear hold hdep
            unfold Oper.wp
            go_simp
            exact ⟨_, rfl, rfl, Later.refl _⟩
          | 2 =>
            intro o ho
            simp only [List.getElem?_toArray, List.getElem?_cons_zero, List.getElem?_cons_succ, Option.some.injEq] at ho
            subst ho
            intro a W hl hold hdep
            obtain ⟨_, h38, rfl⟩ := hdep 1 (by decide) _ _ rfl rfl
            refine ite_yes ((want_of rfl rfl rfl h38).trans rfl) ?_
            have h2 : a.tmps[2]? = some (.pointer (some ⟨w.heap.size, 0, none⟩)) := hold 2 (free_of (by kernel_rfl))
            clear hold hdep
            exact wp_load_cfg D HZ.out W w.heap.size (HA.out.later hl) (.tmp 2) rfl (ev h2) ⟨_, rfl, rfl, Later.refl _⟩
          | 3 =>
            intro o ho
            simp only [List.getElem?_toArray, List.getElem?_cons_zero, List.getElem?_cons_succ, Option.some.injEq] at ho
            subst ho
            intro a W hl hold hdep
            obtain ⟨_, h38, rfl⟩ := hdep 1 (by decide) _ _ rfl rfl
            refine ite_yes ((want_of rfl rfl rfl h38).trans rfl) ?_
            obtain ⟨_, h39, rfl⟩ := hdep 2 (by decide) _ _ rfl rfl
            clear hold hdep
            unfold Oper.wp
            go_simp
            refine (KO.out _ (gtrans HL.out hl) e1).mono ?_
            rintro e w1 ⟨F, rfl, ho, hg1⟩
            exact ⟨_, rfl, ⟨F, rfl, ho.is⟩, hg1⟩
          | 4 =>
            intro o ho
            simp only [List.getElem?_toArray, List.getElem?_cons_zero, List.getElem?_cons_succ, Option.some.injEq] at ho
            subst ho
            intro a W hl hold hdep
            obtain ⟨_, h38, rfl⟩ := hdep 1 (by decide) _ _ rfl rfl
            refine ite_yes ((want_of rfl rfl rfl h38).trans rfl) ?_
            have h3 : a.tmps[3]? = some (.pointer (some ⟨w.heap.size + 1, 0, none⟩)) := hold 3 (free_of (by kernel_rfl))
            clear hold hdep
            exact wp_load_cfg E HY.out W (w.heap.size + 1) (HB.out.later hl) (.tmp 3) rfl (ev h3) ⟨_, rfl, rfl, Later.refl _⟩
          | 5 =>
            intro o ho
            simp only [List.getElem?_toArray, List.getElem?_cons_zero, List.getElem?_cons_succ, Option.some.injEq] at ho
            subst ho
            intro a W hl hold hdep
            obtain ⟨_, h38, rfl⟩ := hdep 1 (by decide) _ _ rfl rfl
            refine ite_yes ((want_of rfl rfl rfl h38).trans rfl) ?_
            obtain ⟨_, h41, rfl⟩ := hdep 4 (by decide) _ _ rfl rfl
            clear hold hdep
            unfold Oper.wp
            go_simp
            refine (KP.out _ (gtrans HL.out hl) e2).mono ?_
            rintro e w1 ⟨F, rfl, ho, hg1⟩
            exact ⟨_, rfl, ⟨F, rfl, ho.is⟩, hg1⟩
          | 6 =>
            intro o ho
            simp only [List.getElem?_toArray, List.getElem?_cons_zero, List.getElem?_cons_succ, Option.some.injEq] at ho
            subst ho
            intro a W hl hold hdep
            obtain ⟨_, h38, rfl⟩ := hdep 1 (by decide) _ _ rfl rfl
            refine ite_yes ((want_of rfl rfl rfl h38).trans rfl) ?_
            obtain ⟨_, h40, ⟨F40, rfl, hF40⟩⟩ := hdep 3 (by decide) _ _ rfl rfl
            obtain ⟨_, h42, ⟨F42, rfl, hF42⟩⟩ := hdep 5 (by decide) _ _ rfl rfl
            clear hold hdep
            unfold Oper.wp
            go_simp
            refine (KS.out _ _ _ hF40 hF42).mono ?_
            rintro e w1 ⟨rfl, hg1⟩
            exact ⟨_, rfl, rfl, hg1⟩
          | 7 =>
            intro o ho
            simp only [List.getElem?_toArray, List.getElem?_cons_zero, List.getElem?_cons_succ, Option.some.injEq] at ho
            subst ho
            intro a W hl hold hdep
            obtain ⟨_, h38, rfl⟩ := hdep 1 (by decide) _ _ rfl rfl
            refine ite_yes ((want_of rfl rfl rfl h38).trans rfl) ?_
            have h2 : a.tmps[2]? = some (.pointer (some ⟨w.heap.size, 0, none⟩)) := hold 2 (free_of (by kernel_rfl))
            clear hold hdep
            exact wp_load_cfg D HZ.out W w.heap.size (HA.out.later hl) (.tmp 2) rfl (ev h2) ⟨_, rfl, rfl, Later.refl _⟩
          | 8 =>
            intro o ho
            simp only [List.getElem?_toArray, List.getElem?_cons_zero, List.getElem?_cons_succ, Option.some.injEq] at ho
            subst ho
            intro a W hl hold hdep
            obtain ⟨_, h38, rfl⟩ := hdep 1 (by decide) _ _ rfl rfl
            refine ite_yes ((want_of rfl rfl rfl h38).trans rfl) ?_
            have h3 : a.tmps[3]? = some (.pointer (some ⟨w.heap.size + 1, 0, none⟩)) := hold 3 (free_of (by kernel_rfl))
            clear hold hdep
            exact wp_load_cfg E HY.out W (w.heap.size + 1) (HB.out.later hl) (.tmp 3) rfl (ev h3) ⟨_, rfl, rfl, Later.refl _⟩
          | 9 =>
            intro o ho
            simp only [List.getElem?_toArray, List.getElem?_cons_zero, List.getElem?_cons_succ, Option.some.injEq] at ho
            subst ho
            intro a W hl hold hdep
            obtain ⟨_, h38, rfl⟩ := hdep 1 (by decide) _ _ rfl rfl
            refine ite_yes ((want_of rfl rfl rfl h38).trans rfl) ?_
            obtain ⟨_, h44, rfl⟩ := hdep 7 (by decide) _ _ rfl rfl
            obtain ⟨_, h45, rfl⟩ := hdep 8 (by decide) _ _ rfl rfl
            clear hold hdep
            unfold Oper.wp
            go_simp
            refine (KT.out _ (gtrans HL.out hl)).mono ?_
            rintro e w1 ⟨rfl, hg1⟩
            exact ⟨_, rfl, rfl, hg1⟩
          | 10 =>
            intro o ho
            simp only [List.getElem?_toArray, List.getElem?_cons_zero, List.getElem?_cons_succ, Option.some.injEq] at ho
            subst ho
            intro a W hl hold hdep
            obtain ⟨_, h38, rfl⟩ := hdep 1 (by decide) _ _ rfl rfl
            refine ite_yes ((want_of rfl rfl rfl h38).trans rfl) ?_
            obtain ⟨_, h43, rfl⟩ := hdep 6 (by decide) _ _ rfl rfl
            obtain ⟨_, h46, rfl⟩ := hdep 9 (by decide) _ _ rfl rfl
            clear hold hdep
            unfold Oper.wp
            go_simp
            exact ⟨_, rfl, rfl, Later.refl _⟩
          | 11 =>
            intro o ho
            simp only [List.getElem?_toArray, List.getElem?_cons_zero, List.getElem?_cons_succ, Option.some.injEq] at ho
            subst ho
            intro a W hl hold hdep
            refine ite_yes rfl ?_
            obtain ⟨_, h38, rfl⟩ := hdep 1 (by decide) _ _ rfl rfl
            obtain ⟨_, h47, rfl⟩ := hdep 10 (by decide) _ _ rfl rfl
            clear hold hdep
            unfold Oper.wp
            go_simp
            exact ⟨_, rfl, rfl, Later.refl _⟩
          | 12 =>
            intro o ho
            simp only [List.getElem?_toArray, List.getElem?_cons_zero, List.getElem?_cons_succ, Option.some.injEq] at ho
            subst ho
            intro a W hl hold hdep
            refine ite_yes rfl ?_
            obtain ⟨_, h48, rfl⟩ := hdep 11 (by decide) _ _ rfl rfl
            clear hold hdep
            unfold Oper.wp
            go_simp
            exact ⟨_, rfl, rfl, Later.refl _⟩
          | 13 =>
            intro o ho
            simp only [List.getElem?_toArray, List.getElem?_cons_zero, List.getElem?_cons_succ, Option.some.injEq] at ho
            subst ho
            intro a W hl hold hdep
            obtain ⟨_, h49, rfl⟩ := hdep 12 (by decide) _ _ rfl rfl
            refine ite_yes ((want_of rfl rfl rfl h49).trans rfl) ?_
            have h2 : a.tmps[2]? = some (.pointer (some ⟨w.heap.size, 0, none⟩)) := hold 2 (free_of (by kernel_rfl))
            clear hold hdep
            exact wp_load_cfg D HZ.out W w.heap.size (HA.out.later hl) (.tmp 2) rfl (ev h2) ⟨_, rfl, rfl, Later.refl _⟩
          | 14 =>
            intro o ho
            simp only [List.getElem?_toArray, List.getElem?_cons_zero, List.getElem?_cons_succ, Option.some.injEq] at ho
            subst ho
            intro a W hl hold hdep
            obtain ⟨_, h49, rfl⟩ := hdep 12 (by decide) _ _ rfl rfl
            refine ite_yes ((want_of rfl rfl rfl h49).trans rfl) ?_
            obtain ⟨_, h50, rfl⟩ := hdep 13 (by decide) _ _ rfl rfl
            clear hold hdep
            unfold Oper.wp
            go_simp
            refine (KO.out _ (gtrans HL.out hl) e1).mono ?_
            rintro e w1 ⟨F, rfl, ho, hg1⟩
            exact ⟨_, rfl, ⟨F, rfl, ho.is⟩, hg1⟩
          | 15 =>
            intro o ho
            simp only [List.getElem?_toArray, List.getElem?_cons_zero, List.getElem?_cons_succ, Option.some.injEq] at ho
            subst ho
            intro a W hl hold hdep
            obtain ⟨_, h49, rfl⟩ := hdep 12 (by decide) _ _ rfl rfl
            refine ite_yes ((want_of rfl rfl rfl h49).trans rfl) ?_
            have h3 : a.tmps[3]? = some (.pointer (some ⟨w.heap.size + 1, 0, none⟩)) := hold 3 (free_of (by kernel_rfl))
            clear hold hdep
            exact wp_load_cfg E HY.out W (w.heap.size + 1) (HB.out.later hl) (.tmp 3) rfl (ev h3) ⟨_, rfl, rfl, Later.refl _⟩
          | 16 =>
            intro o ho
            simp only [List.getElem?_toArray, List.getElem?_cons_zero, List.getElem?_cons_succ, Option.some.injEq] at ho
            subst ho
            intro a W hl hold hdep
            obtain ⟨_, h49, rfl⟩ := hdep 12 (by decide) _ _ rfl rfl
            refine ite_yes ((want_of rfl rfl rfl h49).trans rfl) ?_
            obtain ⟨_, h52, rfl⟩ := hdep 15 (by decide) _ _ rfl rfl
            clear hold hdep
            unfold Oper.wp
            go_simp
            refine (KP.out _ (gtrans HL.out hl) e2).mono ?_
            rintro e w1 ⟨F, rfl, ho, hg1⟩
            exact ⟨_, rfl, ⟨F, rfl, ho.is⟩, hg1⟩
          | 17 =>
            intro o ho
            simp only [List.getElem?_toArray, List.getElem?_cons_zero, List.getElem?_cons_succ, Option.some.injEq] at ho
            subst ho
            intro a W hl hold hdep
            obtain ⟨_, h49, rfl⟩ := hdep 12 (by decide) _ _ rfl rfl
            refine ite_yes ((want_of rfl rfl rfl h49).trans rfl) ?_
            obtain ⟨_, h51, ⟨F51, rfl, hF51⟩⟩ := hdep 14 (by decide) _ _ rfl rfl
            obtain ⟨_, h53, ⟨F53, rfl, hF53⟩⟩ := hdep 16 (by decide) _ _ rfl rfl
            clear hold hdep
            unfold Oper.wp
            go_simp
            refine (KG.out _ _ _ hF51 hF53).mono ?_
            rintro e w1 ⟨rfl, hg1⟩
            exact ⟨_, rfl, rfl, hg1⟩
          | 18 =>
            intro o ho
            simp only [List.getElem?_toArray, List.getElem?_cons_zero, List.getElem?_cons_succ, Option.some.injEq] at ho
            subst ho
            intro a W hl hold hdep
            obtain ⟨_, h49, rfl⟩ := hdep 12 (by decide) _ _ rfl rfl
            refine ite_yes ((want_of rfl rfl rfl h49).trans rfl) ?_
            have h5 : a.tmps[5]? = some (.bool false) := hold 5 (free_of (by kernel_rfl))
            clear hold hdep
            unfold Oper.wp
            go_simp
            exact ⟨_, rfl, rfl, Later.refl _⟩
          | 19 =>
            intro o ho
            simp only [List.getElem?_toArray, List.getElem?_cons_zero, List.getElem?_cons_succ, Option.some.injEq] at ho
            subst ho
            intro a W hl hold hdep
            obtain ⟨_, h49, rfl⟩ := hdep 12 (by decide) _ _ rfl rfl
            refine ite_yes ((want_of rfl rfl rfl h49).trans rfl) ?_
            obtain ⟨_, h54, rfl⟩ := hdep 17 (by decide) _ _ rfl rfl
            obtain ⟨_, h55, rfl⟩ := hdep 18 (by decide) _ _ rfl rfl
            clear hold hdep
            unfold Oper.wp
            go_simp
            exact ⟨_, rfl, rfl, Later.refl _⟩
          | 20 =>
            intro o ho
            simp only [List.getElem?_toArray, List.getElem?_cons_zero, List.getElem?_cons_succ, Option.some.injEq] at ho
            subst ho
            intro a W hl hold hdep
            refine ite_yes rfl ?_
            obtain ⟨_, h49, rfl⟩ := hdep 12 (by decide) _ _ rfl rfl
            obtain ⟨_, h56, rfl⟩ := hdep 19 (by decide) _ _ rfl rfl
            clear hold hdep
            unfold Oper.wp
            go_simp
            exact ⟨_, rfl, rfl, Later.refl _⟩
          | 21 =>
            intro o ho
            simp only [List.getElem?_toArray, List.getElem?_cons_zero, List.getElem?_cons_succ, Option.some.injEq] at ho
            subst ho
            intro a W hl hold hdep
            refine ite_yes rfl ?_
            obtain ⟨_, h57, rfl⟩ := hdep 20 (by decide) _ _ rfl rfl
            clear hold hdep
            unfold Oper.wp
            go_simp
            exact ⟨_, rfl, rfl, Later.refl _⟩
          | k + 22 => exact absurd hi (by simp)
        · intro a W hl hd hz hold hall
          obtain ⟨_, k4, rfl⟩ := hall 21 _ _ rfl rfl
          have ha := act_eta a 58 [] hz hd
          rw [show (List.range 58).map (fun s => a.tmps.getD s undef) = [a.tmps.getD 0 undef, a.tmps.getD 1 undef, a.tmps.getD 2 undef, a.tmps.getD 3 undef, a.tmps.getD 4 undef, a.tmps.getD 5 undef, a.tmps.getD 6 undef, a.tmps.getD 7 undef, a.tmps.getD 8 undef, a.tmps.getD 9 undef, a.tmps.getD 10 undef, a.tmps.getD 11 undef, a.tmps.getD 12 undef, a.tmps.getD 13 undef, a.tmps.getD 14 undef, a.tmps.getD 15 undef, a.tmps.getD 16 undef, a.tmps.getD 17 undef, a.tmps.getD 18 undef, a.tmps.getD 19 undef, a.tmps.getD 20 undef, a.tmps.getD 21 undef, a.tmps.getD 22 undef, a.tmps.getD 23 undef, a.tmps.getD 24 undef, a.tmps.getD 25 undef, a.tmps.getD 26 undef, a.tmps.getD 27 undef, a.tmps.getD 28 undef, a.tmps.getD 29 undef, a.tmps.getD 30 undef, a.tmps.getD 31 undef, a.tmps.getD 32 undef, a.tmps.getD 33 undef, a.tmps.getD 34 undef, a.tmps.getD 35 undef, a.tmps.getD 36 undef, a.tmps.getD 37 undef, a.tmps.getD 38 undef, a.tmps.getD 39 undef, a.tmps.getD 40 undef, a.tmps.getD 41 undef, a.tmps.getD 42 undef, a.tmps.getD 43 undef, a.tmps.getD 44 undef, a.tmps.getD 45 undef, a.tmps.getD 46 undef, a.tmps.getD 47 undef, a.tmps.getD 48 undef, a.tmps.getD 49 undef, a.tmps.getD 50 undef, a.tmps.getD 51 undef, a.tmps.getD 52 undef, a.tmps.getD 53 undef, a.tmps.getD 54 undef, a.tmps.getD 55 undef, a.tmps.getD 56 undef, a.tmps.getD 57 undef] from rfl, getD_of k4] at ha
          rw [ha]
          clear hall hold hz hd ha k4
          generalize a.tmps.getD 0 undef = x0
          generalize a.tmps.getD 1 undef = x1
          generalize a.tmps.getD 2 undef = x2
          generalize a.tmps.getD 3 undef = x3
          generalize a.tmps.getD 5 undef = x5
          generalize a.tmps.getD 6 undef = x6
          generalize a.tmps.getD 7 undef = x7
          generalize a.tmps.getD 8 undef = x8
          generalize a.tmps.getD 9 undef = x9
          generalize a.tmps.getD 10 undef = x10
          generalize a.tmps.getD 11 undef = x11
          generalize a.tmps.getD 12 undef = x12
          generalize a.tmps.getD 13 undef = x13
          generalize a.tmps.getD 14 undef = x14
          generalize a.tmps.getD 15 undef = x15
          generalize a.tmps.getD 16 undef = x16
          generalize a.tmps.getD 17 undef = x17
          generalize a.tmps.getD 18 undef = x18
          generalize a.tmps.getD 19 undef = x19
          generalize a.tmps.getD 20 undef = x20
          generalize a.tmps.getD 21 undef = x21
          generalize a.tmps.getD 22 undef = x22
          generalize a.tmps.getD 23 undef = x23
          generalize a.tmps.getD 24 undef = x24
          generalize a.tmps.getD 25 undef = x25
          generalize a.tmps.getD 26 undef = x26
          generalize a.tmps.getD 27 undef = x27
          generalize a.tmps.getD 28 undef = x28
          generalize a.tmps.getD 29 undef = x29
          generalize a.tmps.getD 30 undef = x30
          generalize a.tmps.getD 31 undef = x31
          generalize a.tmps.getD 32 undef = x32
          generalize a.tmps.getD 33 undef = x33
          generalize a.tmps.getD 34 undef = x34
          generalize a.tmps.getD 35 undef = x35
          generalize a.tmps.getD 36 undef = x36
          generalize a.tmps.getD 37 undef = x37
          generalize a.tmps.getD 38 undef = x38
          generalize a.tmps.getD 39 undef = x39
          generalize a.tmps.getD 40 undef = x40
          generalize a.tmps.getD 41 undef = x41
          generalize a.tmps.getD 42 undef = x42
          generalize a.tmps.getD 43 undef = x43
          generalize a.tmps.getD 44 undef = x44
          generalize a.tmps.getD 45 undef = x45
          generalize a.tmps.getD 46 undef = x46
          generalize a.tmps.getD 47 undef = x47
          generalize a.tmps.getD 48 undef = x48
          generalize a.tmps.getD 49 undef = x49
          generalize a.tmps.getD 50 undef = x50
          generalize a.tmps.getD 51 undef = x51
          generalize a.tmps.getD 52 undef = x52
          generalize a.tmps.getD 53 undef = x53
          generalize a.tmps.getD 54 undef = x54
          generalize a.tmps.getD 55 undef = x55
          generalize a.tmps.getD 56 undef = x56
          generalize a.tmps.getD 57 undef = x57
          have HW := Lib.hid (gtrans HL.out hl)
          clear hl
          go_wp2_with fail
          go_ret
          exact ⟨rfl, HW.out⟩
      | true =>
        go_wp2_with (refine load_in E HY.out (by rfl) (.tmp 3) rfl (w.heap.size + 1) rfl HB3.out ?_)
        refine (KD.out _ HL3.out).mono ?_
        rintro e w4 ⟨rfl, hg4⟩
        have HL4 := Lib.hid (gtrans HL3.out hg4)
        have HA4 := Lib.hid (HA3.out.later hg4)
        have HB4 := Lib.hid (HB3.out.later hg4)
        clear hg4 HA3 HB3
        have a0 := HA4.out 0 _ D0.out
        have a1 := HA4.out 1 _ D1.out
        have c0 := HB4.out 0 _ E0.out
        have c1 := HB4.out 1 _ E1.out
        cases b2 : (y == 0) with
        | false =>
          have HV : f = false := by rw [HF.out]; simp_all
          subst HV
          have HL := HL4
          have HA := HA4
          have HB := HB4
          clear HL4 HA4 HB4 HF
          go_wp2_with fail
          refine region_each (SVx D E c d m false) (by kernel_rfl) (by kernel_rfl) (SVx.later D E c d m false) ?_ ?_
          · intro i hi
            match i with
            | 0 =>
              intro o ho
              simp only [List.getElem?_toArray, List.getElem?_cons_zero, Option.some.injEq] at ho
              subst ho
              intro a W hl hold hdep
              refine ite_yes rfl ?_
              clear hold hdep
              unfold Oper.wp
              go_simp
              refine (KA.out _).mono ?_
              rintro e w1 ⟨rfl, hg1⟩
              exact ⟨_, rfl, rfl, hg1⟩
            | 1 =>
              intro o ho
              simp only [List.getElem?_toArray, List.getElem?_cons_zero, List.getElem?_cons_succ, Option.some.injEq] at ho
              subst ho
              intro a W hl hold hdep
              refine ite_yes rfl ?_
              obtain ⟨_, h37, rfl⟩ := hdep 0 (by decide) _ _ rfl rfl
              clear hold hdep
              unfold Oper.wp
              go_simp
              exact ⟨_, rfl, rfl, Later.refl _⟩
            | 2 =>
              intro o ho
              simp only [List.getElem?_toArray, List.getElem?_cons_zero, List.getElem?_cons_succ, Option.some.injEq] at ho
              subst ho
              intro a W hl hold hdep
              obtain ⟨_, h38, rfl⟩ := hdep 1 (by decide) _ _ rfl rfl
              refine ite_yes ((want_of rfl rfl rfl h38).trans rfl) ?_
              have h2 : a.tmps[2]? = some (.pointer (some ⟨w.heap.size, 0, none⟩)) := hold 2 (free_of (by kernel_rfl))
              clear hold hdep
              exact wp_load_cfg D HZ.out W w.heap.size (HA.out.later hl) (.tmp 2) rfl (ev h2) ⟨_, rfl, rfl, Later.refl _⟩
            | 3 =>
              intro o ho
              simp only [List.getElem?_toArray, List.getElem?_cons_zero, List.getElem?_cons_succ, Option.some.injEq] at ho
              subst ho
              intro a W hl hold hdep
              obtain ⟨_, h38, rfl⟩ := hdep 1 (by decide) _ _ rfl rfl
              refine ite_yes ((want_of rfl rfl rfl h38).trans rfl) ?_
              obtain ⟨_, h39, rfl⟩ := hdep 2 (by decide) _ _ rfl rfl
              clear hold hdep
              unfold Oper.wp
              go_simp
              refine (KO.out _ (gtrans HL.out hl) e1).mono ?_
              rintro e w1 ⟨F, rfl, ho, hg1⟩
              exact ⟨_, rfl, ⟨F, rfl, ho.is⟩, hg1⟩
            | 4 =>
              intro o ho
              simp only [List.getElem?_toArray, List.getElem?_cons_zero, List.getElem?_cons_succ, Option.some.injEq] at ho
              subst ho
              intro a W hl hold hdep
              obtain ⟨_, h38, rfl⟩ := hdep 1 (by decide) _ _ rfl rfl
              refine ite_yes ((want_of rfl rfl rfl h38).trans rfl) ?_
              have h3 : a.tmps[3]? = some (.pointer (some ⟨w.heap.size + 1, 0, none⟩)) := hold 3 (free_of (by kernel_rfl))
              clear hold hdep
              exact wp_load_cfg E HY.out W (w.heap.size + 1) (HB.out.later hl) (.tmp 3) rfl (ev h3) ⟨_, rfl, rfl, Later.refl _⟩
            | 5 =>
              intro o ho
              simp only [List.getElem?_toArray, List.getElem?_cons_zero, List.getElem?_cons_succ, Option.some.injEq] at ho
              subst ho
              intro a W hl hold hdep
              obtain ⟨_, h38, rfl⟩ := hdep 1 (by decide) _ _ rfl rfl
              refine ite_yes ((want_of rfl rfl rfl h38).trans rfl) ?_
              obtain ⟨_, h41, rfl⟩ := hdep 4 (by decide) _ _ rfl rfl
              clear hold hdep
              unfold Oper.wp
              go_simp
              refine (KP.out _ (gtrans HL.out hl) e2).mono ?_
              rintro e w1 ⟨F, rfl, ho, hg1⟩
              exact ⟨_, rfl, ⟨F, rfl, ho.is⟩, hg1⟩
            | 6 =>
              intro o ho
              simp only [List.getElem?_toArray, List.getElem?_cons_zero, List.getElem?_cons_succ, Option.some.injEq] at ho
              subst ho
              intro a W hl hold hdep
              obtain ⟨_, h38, rfl⟩ := hdep 1 (by decide) _ _ rfl rfl
              refine ite_yes ((want_of rfl rfl rfl h38).trans rfl) ?_
              obtain ⟨_, h40, ⟨F40, rfl, hF40⟩⟩ := hdep 3 (by decide) _ _ rfl rfl
              obtain ⟨_, h42, ⟨F42, rfl, hF42⟩⟩ := hdep 5 (by decide) _ _ rfl rfl
              clear hold hdep
              unfold Oper.wp
              go_simp
              refine (KS.out _ _ _ hF40 hF42).mono ?_
              rintro e w1 ⟨rfl, hg1⟩
              exact ⟨_, rfl, rfl, hg1⟩
            | 7 =>
              intro o ho
              simp only [List.getElem?_toArray, List.getElem?_cons_zero, List.getElem?_cons_succ, Option.some.injEq] at ho
              subst ho
              intro a W hl hold hdep
              obtain ⟨_, h38, rfl⟩ := hdep 1 (by decide) _ _ rfl rfl
              refine ite_yes ((want_of rfl rfl rfl h38).trans rfl) ?_
              have h2 : a.tmps[2]? = some (.pointer (some ⟨w.heap.size, 0, none⟩)) := hold 2 (free_of (by kernel_rfl))
              clear hold hdep
              exact wp_load_cfg D HZ.out W w.heap.size (HA.out.later hl) (.tmp 2) rfl (ev h2) ⟨_, rfl, rfl, Later.refl _⟩
            | 8 =>
              intro o ho
              simp only [List.getElem?_toArray, List.getElem?_cons_zero, List.getElem?_cons_succ, Option.some.injEq] at ho
              subst ho
              intro a W hl hold hdep
              obtain ⟨_, h38, rfl⟩ := hdep 1 (by decide) _ _ rfl rfl
              refine ite_yes ((want_of rfl rfl rfl h38).trans rfl) ?_
              have h3 : a.tmps[3]? = some (.pointer (some ⟨w.heap.size + 1, 0, none⟩)) := hold 3 (free_of (by kernel_rfl))
              clear hold hdep
              exact wp_load_cfg E HY.out W (w.heap.size + 1) (HB.out.later hl) (.tmp 3) rfl (ev h3) ⟨_, rfl, rfl, Later.refl _⟩
            | 9 =>
              intro o ho
              simp only [List.getElem?_toArray, List.getElem?_cons_zero, List.getElem?_cons_succ, Option.some.injEq] at ho
              subst ho
              intro a W hl hold hdep
              obtain ⟨_, h38, rfl⟩ := hdep 1 (by decide) _ _ rfl rfl
              refine ite_yes ((want_of rfl rfl rfl h38).trans rfl) ?_
              obtain ⟨_, h44, rfl⟩ := hdep 7 (by decide) _ _ rfl rfl
              obtain ⟨_, h45, rfl⟩ := hdep 8 (by decide) _ _ rfl rfl
              clear hold hdep
              unfold Oper.wp
              go_simp
              refine (KT.out _ (gtrans HL.out hl)).mono ?_
              rintro e w1 ⟨rfl, hg1⟩
              exact ⟨_, rfl, rfl, hg1⟩
            | 10 =>
              intro o ho
              simp only [List.getElem?_toArray, List.getElem?_cons_zero, List.getElem?_cons_succ, Option.some.injEq] at ho
              subst ho
              intro a W hl hold hdep
              obtain ⟨_, h38, rfl⟩ := hdep 1 (by decide) _ _ rfl rfl
              refine ite_yes ((want_of rfl rfl rfl h38).trans rfl) ?_
              obtain ⟨_, h43, rfl⟩ := hdep 6 (by decide) _ _ rfl rfl
              obtain ⟨_, h46, rfl⟩ := hdep 9 (by decide) _ _ rfl rfl
              clear hold hdep
              unfold Oper.wp
              go_simp
              exact ⟨_, rfl, rfl, Later.refl _⟩
            | 11 =>
              intro o ho
              simp only [List.getElem?_toArray, List.getElem?_cons_zero, List.getElem?_cons_succ, Option.some.injEq] at ho
              subst ho
              intro a W hl hold hdep
              refine ite_yes rfl ?_
              obtain ⟨_, h38, rfl⟩ := hdep 1 (by decide) _ _ rfl rfl
              obtain ⟨_, h47, rfl⟩ := hdep 10 (by decide) _ _ rfl rfl
              clear hold hdep
              unfold Oper.wp
              go_simp
              exact ⟨_, rfl, rfl, Later.refl _⟩
            | 12 =>
              intro o ho
              simp only [List.getElem?_toArray, List.getElem?_cons_zero, List.getElem?_cons_succ, Option.some.injEq] at ho
              subst ho
              intro a W hl hold hdep
              refine ite_yes rfl ?_
              obtain ⟨_, h48, rfl⟩ := hdep 11 (by decide) _ _ rfl rfl
              clear hold hdep
              unfold Oper.wp
              go_simp
              exact ⟨_, rfl, rfl, Later.refl _⟩
            | 13 =>
              intro o ho
              simp only [List.getElem?_toArray, List.getElem?_cons_zero, List.getElem?_cons_succ, Option.some.injEq] at ho
              subst ho
              intro a W hl hold hdep
              obtain ⟨_, h49, rfl⟩ := hdep 12 (by decide) _ _ rfl rfl
              refine ite_yes ((want_of rfl rfl rfl h49).trans rfl) ?_
              have h2 : a.tmps[2]? = some (.pointer (some ⟨w.heap.size, 0, none⟩)) := hold 2 (free_of (by kernel_rfl))
              clear hold hdep
              exact wp_load_cfg D HZ.out W w.heap.size (HA.out.later hl) (.tmp 2) rfl (ev h2) ⟨_, rfl, rfl, Later.refl _⟩
            | 14 =>
              intro o ho
              simp only [List.getElem?_toArray, List.getElem?_cons_zero, List.getElem?_cons_succ, Option.some.injEq] at ho
              subst ho
              intro a W hl hold hdep
              obtain ⟨_, h49, rfl⟩ := hdep 12 (by decide) _ _ rfl rfl
              refine ite_yes ((want_of rfl rfl rfl h49).trans rfl) ?_
              obtain ⟨_, h50, rfl⟩ := hdep 13 (by decide) _ _ rfl rfl
              clear hold hdep
              unfold Oper.wp
              go_simp
              refine (KO.out _ (gtrans HL.out hl) e1).mono ?_
              rintro e w1 ⟨F, rfl, ho, hg1⟩
              exact ⟨_, rfl, ⟨F, rfl, ho.is⟩, hg1⟩
            | 15 =>
              intro o ho
              simp only [List.getElem?_toArray, List.getElem?_cons_zero, List.getElem?_cons_succ, Option.some.injEq] at ho
              subst ho
              intro a W hl hold hdep
              obtain ⟨_, h49, rfl⟩ := hdep 12 (by decide) _ _ rfl rfl
              refine ite_yes ((want_of rfl rfl rfl h49).trans rfl) ?_
              have h3 : a.tmps[3]? = some (.pointer (some ⟨w.heap.size + 1, 0, none⟩)) := hold 3 (free_of (by kernel_rfl))
              clear hold hdep
              exact wp_load_cfg E HY.out W (w.heap.size + 1) (HB.out.later hl) (.tmp 3) rfl (ev h3) ⟨_, rfl, rfl, Later.refl _⟩
            | 16 =>
              intro o ho
              simp only [List.getElem?_toArray, List.getElem?_cons_zero, List.getElem?_cons_succ, Option.some.injEq] at ho
              subst ho
              intro a W hl hold hdep
              obtain ⟨_, h49, rfl⟩ := hdep 12 (by decide) _ _ rfl rfl
              refine ite_yes ((want_of rfl rfl rfl h49).trans rfl) ?_
              obtain ⟨_, h52, rfl⟩ := hdep 15 (by decide) _ _ rfl rfl
              clear hold hdep
              unfold Oper.wp
              go_simp
              refine (KP.out _ (gtrans HL.out hl) e2).mono ?_
              rintro e w1 ⟨F, rfl, ho, hg1⟩
              exact ⟨_, rfl, ⟨F, rfl, ho.is⟩, hg1⟩
            | 17 =>
              intro o ho
              simp only [List.getElem?_toArray, List.getElem?_cons_zero, List.getElem?_cons_succ, Option.some.injEq] at ho
              subst ho
              intro a W hl hold hdep
              obtain ⟨_, h49, rfl⟩ := hdep 12 (by decide) _ _ rfl rfl
              refine ite_yes ((want_of rfl rfl rfl h49).trans rfl) ?_
              obtain ⟨_, h51, ⟨F51, rfl, hF51⟩⟩ := hdep 14 (by decide) _ _ rfl rfl
              obtain ⟨_, h53, ⟨F53, rfl, hF53⟩⟩ := hdep 16 (by decide) _ _ rfl rfl
              clear hold hdep
              unfold Oper.wp
              go_simp
              refine (KG.out _ _ _ hF51 hF53).mono ?_
              rintro e w1 ⟨rfl, hg1⟩
              exact ⟨_, rfl, rfl, hg1⟩
            | 18 =>
              intro o ho
              simp only [List.getElem?_toArray, List.getElem?_cons_zero, List.getElem?_cons_succ, Option.some.injEq] at ho
              subst ho
              intro a W hl hold hdep
              obtain ⟨_, h49, rfl⟩ := hdep 12 (by decide) _ _ rfl rfl
              refine ite_yes ((want_of rfl rfl rfl h49).trans rfl) ?_
              have h5 : a.tmps[5]? = some (.bool false) := hold 5 (free_of (by kernel_rfl))
              clear hold hdep
              unfold Oper.wp
              go_simp
              exact ⟨_, rfl, rfl, Later.refl _⟩
            | 19 =>
              intro o ho
              simp only [List.getElem?_toArray, List.getElem?_cons_zero, List.getElem?_cons_succ, Option.some.injEq] at ho
              subst ho
              intro a W hl hold hdep
              obtain ⟨_, h49, rfl⟩ := hdep 12 (by decide) _ _ rfl rfl
              refine ite_yes ((want_of rfl rfl rfl h49).trans rfl) ?_
              obtain ⟨_, h54, rfl⟩ := hdep 17 (by decide) _ _ rfl rfl
              obtain ⟨_, h55, rfl⟩ := hdep 18 (by decide) _ _ rfl rfl
              clear hold hdep
              unfold Oper.wp
              go_simp
              exact ⟨_, rfl, rfl, Later.refl _⟩
            | 20 =>
              intro o ho
              simp only [List.getElem?_toArray, List.getElem?_cons_zero, List.getElem?_cons_succ, Option.some.injEq] at ho
              subst ho
              intro a W hl hold hdep
              refine ite_yes rfl ?_
              obtain ⟨_, h49, rfl⟩ := hdep 12 (by decide) _ _ rfl rfl
              obtain ⟨_, h56, rfl⟩ := hdep 19 (by decide) _ _ rfl rfl
              clear hold hdep
              unfold Oper.wp
              go_simp
              exact ⟨_, rfl, rfl, Later.refl _⟩
            | 21 =>
              intro o ho
              simp only [List.getElem?_toArray, List.getElem?_cons_zero, List.getElem?_cons_succ, Option.some.injEq] at ho
              subst ho
              intro a W hl hold hdep
              refine ite_yes rfl ?_
              obtain ⟨_, h57, rfl⟩ := hdep 20 (by decide) _ _ rfl rfl
              clear hold hdep
              unfold Oper.wp
              go_simp
              exact ⟨_, rfl, rfl, Later.refl _⟩
            | k + 22 => exact absurd hi (by simp)
          · intro a W hl hd hz hold hall
            obtain ⟨_, k4, rfl⟩ := hall 21 _ _ rfl rfl
            have ha := act_eta a 58 [] hz hd
            rw [show (List.range 58).map (fun s => a.tmps.getD s undef) = [a.tmps.getD 0 undef, a.tmps.getD 1 undef, a.tmps.getD 2 undef, a.tmps.getD 3 undef, a.tmps.getD 4 undef, a.tmps.getD 5 undef, a.tmps.getD 6 undef, a.tmps.getD 7 undef, a.tmps.getD 8 undef, a.tmps.getD 9 undef, a.tmps.getD 10 undef, a.tmps.getD 11 undef, a.tmps.getD 12 undef, a.tmps.getD 13 undef, a.tmps.getD 14 undef, a.tmps.getD 15 undef, a.tmps.getD 16 undef, a.tmps.getD 17 undef, a.tmps.getD 18 undef, a.tmps.getD 19 undef, a.tmps.getD 20 undef, a.tmps.getD 21 undef, a.tmps.getD 22 undef, a.tmps.getD 23 undef, a.tmps.getD 24 undef, a.tmps.getD 25 undef, a.tmps.getD 26 undef, a.tmps.getD 27 undef, a.tmps.getD 28 undef, a.tmps.getD 29 undef, a.tmps.getD 30 undef, a.tmps.getD 31 undef, a.tmps.getD 32 undef, a.tmps.getD 33 undef, a.tmps.getD 34 undef, a.tmps.getD 35 undef, a.tmps.getD 36 undef, a.tmps.getD 37 undef, a.tmps.getD 38 undef, a.tmps.getD 39 undef, a.tmps.getD 40 undef, a.tmps.getD 41 undef, a.tmps.getD 42 undef, a.tmps.getD 43 undef, a.tmps.getD 44 undef, a.tmps.getD 45 undef, a.tmps.getD 46 undef, a.tmps.getD 47 undef, a.tmps.getD 48 undef, a.tmps.getD 49 undef, a.tmps.getD 50 undef, a.tmps.getD 51 undef, a.tmps.getD 52 undef, a.tmps.getD 53 undef, a.tmps.getD 54 undef, a.tmps.getD 55 undef, a.tmps.getD 56 undef, a.tmps.getD 57 undef] from rfl, getD_of k4] at ha
            rw [ha]
            clear hall hold hz hd ha k4
            generalize a.tmps.getD 0 undef = x0
            generalize a.tmps.getD 1 undef = x1
            generalize a.tmps.getD 2 undef = x2
            generalize a.tmps.getD 3 undef = x3
            generalize a.tmps.getD 5 undef = x5
            generalize a.tmps.getD 6 undef = x6
            generalize a.tmps.getD 7 undef = x7
            generalize a.tmps.getD 8 undef = x8
            generalize a.tmps.getD 9 undef = x9
            generalize a.tmps.getD 10 undef = x10
            generalize a.tmps.getD 11 undef = x11
            generalize a.tmps.getD 12 undef = x12
            generalize a.tmps.getD 13 undef = x13
            generalize a.tmps.getD 14 undef = x14
            generalize a.tmps.getD 15 undef = x15
            generalize a.tmps.getD 16 undef = x16
            generalize a.tmps.getD 17 undef = x17
            generalize a.tmps.getD 18 undef = x18
            generalize a.tmps.getD 19 undef = x19
            generalize a.tmps.getD 20 undef = x20
            generalize a.tmps.getD 21 undef = x21
            generalize a.tmps.getD 22 undef = x22
            generalize a.tmps.getD 23 undef = x23
            generalize a.tmps.getD 24 undef = x24
            generalize a.tmps.getD 25 undef = x25
            generalize a.tmps.getD 26 undef = x26
            generalize a.tmps.getD 27 undef = x27
            generalize a.tmps.getD 28 undef = x28
            generalize a.tmps.getD 29 undef = x29
            generalize a.tmps.getD 30 undef = x30
            generalize a.tmps.getD 31 undef = x31
            generalize a.tmps.getD 32 undef = x32
            generalize a.tmps.getD 33 undef = x33
            generalize a.tmps.getD 34 undef = x34
            generalize a.tmps.getD 35 undef = x35
            generalize a.tmps.getD 36 undef = x36
            generalize a.tmps.getD 37 undef = x37
            generalize a.tmps.getD 38 undef = x38
            generalize a.tmps.getD 39 undef = x39
            generalize a.tmps.getD 40 undef = x40
            generalize a.tmps.getD 41 undef = x41
            generalize a.tmps.getD 42 undef = x42
            generalize a.tmps.getD 43 undef = x43
            generalize a.tmps.getD 44 undef = x44
            generalize a.tmps.getD 45 undef = x45
            generalize a.tmps.getD 46 undef = x46
            generalize a.tmps.getD 47 undef = x47
            generalize a.tmps.getD 48 undef = x48
            generalize a.tmps.getD 49 undef = x49
            generalize a.tmps.getD 50 undef = x50
            generalize a.tmps.getD 51 undef = x51
            generalize a.tmps.getD 52 undef = x52
            generalize a.tmps.getD 53 undef = x53
            generalize a.tmps.getD 54 undef = x54
            generalize a.tmps.getD 55 undef = x55
            generalize a.tmps.getD 56 undef = x56
            generalize a.tmps.getD 57 undef = x57
            have HW := Lib.hid (gtrans HL.out hl)
            clear hl
            go_wp2_with fail
            go_ret
            exact ⟨rfl, HW.out⟩
        | true =>
          cases b3 : (cf == df) with
          | false =>
            have HV : f = false := by rw [HF.out]; simp_all
            subst HV
            have HL := HL4
            have HA := HA4
            have HB := HB4
            clear HL4 HA4 HB4 HF
            go_wp2_with fail
            refine region_each (SVx D E c d m false) (by kernel_rfl) (by kernel_rfl) (SVx.later D E c d m false) ?_ ?_
            · intro i hi
              match i with
              | 0 =>
                intro o ho
                simp only [List.getElem?_toArray, List.getElem?_cons_zero, Option.some.injEq] at ho
                subst ho
                intro a W hl hold hdep
                refine ite_yes rfl ?_
                clear hold hdep
                unfold Oper.wp
                go_simp
                refine (KA.out _).mono ?_
                rintro e w1 ⟨rfl, hg1⟩
                exact ⟨_, rfl, rfl, hg1⟩
              | 1 =>
                intro o ho
                simp only [List.getElem?_toArray, List.getElem?_cons_zero, List.getElem?_cons_succ, Option.some.injEq] at ho
                subst ho
                intro a W hl hold hdep
                refine ite_yes rfl ?_
                obtain ⟨_, h37, rfl⟩ := hdep 0 (by decide) _ _ rfl rfl
                clear hold hdep
                unfold Oper.wp
                go_simp
                exact ⟨_, rfl, rfl, Later.refl _⟩
              | 2 =>
                intro o ho
                simp only [List.getElem?_toArray, List.getElem?_cons_zero, List.getElem?_cons_succ, Option.some.injEq] at ho
                subst ho
                intro a W hl hold hdep
                obtain ⟨_, h38, rfl⟩ := hdep 1 (by decide) _ _ rfl rfl
                refine ite_yes ((want_of rfl rfl rfl h38).trans rfl) ?_
                have h2 : a.tmps[2]? = some (.pointer (some ⟨w.heap.size, 0, none⟩)) := hold 2 (free_of (by kernel_rfl))
                clear hold hdep
                exact wp_load_cfg D HZ.out W w.heap.size (HA.out.later hl) (.tmp 2) rfl (ev h2) ⟨_, rfl, rfl, Later.refl _⟩
              | 3 =>
                intro o ho
                simp only [List.getElem?_toArray, List.getElem?_cons_zero, List.getElem?_cons_succ, Option.some.injEq] at ho
                subst ho
                intro a W hl hold hdep
                obtain ⟨_, h38, rfl⟩ := hdep 1 (by decide) _ _ rfl rfl
                refine ite_yes ((want_of rfl rfl rfl h38).trans rfl) ?_
                obtain ⟨_, h39, rfl⟩ := hdep 2 (by decide) _ _ rfl rfl
                clear hold hdep
                unfold Oper.wp
                go_simp
                refine (KO.out _ (gtrans HL.out hl) e1).mono ?_
                rintro e w1 ⟨F, rfl, ho, hg1⟩
                exact ⟨_, rfl, ⟨F, rfl, ho.is⟩, hg1⟩
              | 4 =>
                intro o ho
                simp only [List.getElem?_toArray, List.getElem?_cons_zero, List.getElem?_cons_succ, Option.some.injEq] at ho
                subst ho
                intro a W hl hold hdep
                obtain ⟨_, h38, rfl⟩ := hdep 1 (by decide) _ _ rfl rfl
                refine ite_yes ((want_of rfl rfl rfl h38).trans rfl) ?_
                have h3 : a.tmps[3]? = some (.pointer (some ⟨w.heap.size + 1, 0, none⟩)) := hold 3 (free_of (by kernel_rfl))
                clear hold hdep
                exact wp_load_cfg E HY.out W (w.heap.size + 1) (HB.out.later hl) (.tmp 3) rfl (ev h3) ⟨_, rfl, rfl, Later.refl _⟩
              | 5 =>
                intro o ho
                simp only [List.getElem?_toArray, List.getElem?_cons_zero, List.getElem?_cons_succ, Option.some.injEq] at ho
                subst ho
                intro a W hl hold hdep
                obtain ⟨_, h38, rfl⟩ := hdep 1 (by decide) _ _ rfl rfl
                refine ite_yes ((want_of rfl rfl rfl h38).trans rfl) ?_
                obtain ⟨_, h41, rfl⟩ := hdep 4 (by decide) _ _ rfl rfl
                clear hold hdep
                unfold Oper.wp
                go_simp
                refine (KP.out _ (gtrans HL.out hl) e2).mono ?_
                rintro e w1 ⟨F, rfl, ho, hg1⟩
                exact ⟨_, rfl, ⟨F, rfl, ho.is⟩, hg1⟩
              | 6 =>
                intro o ho
                simp only [List.getElem?_toArray, List.getElem?_cons_zero, List.getElem?_cons_succ, Option.some.injEq] at ho
                subst ho
                intro a W hl hold hdep
                obtain ⟨_, h38, rfl⟩ := hdep 1 (by decide) _ _ rfl rfl
                refine ite_yes ((want_of rfl rfl rfl h38).trans rfl) ?_
                obtain ⟨_, h40, ⟨F40, rfl, hF40⟩⟩ := hdep 3 (by decide) _ _ rfl rfl
                obtain ⟨_, h42, ⟨F42, rfl, hF42⟩⟩ := hdep 5 (by decide) _ _ rfl rfl
                clear hold hdep
                unfold Oper.wp
                go_simp
                refine (KS.out _ _ _ hF40 hF42).mono ?_
                rintro e w1 ⟨rfl, hg1⟩
                exact ⟨_, rfl, rfl, hg1⟩
              | 7 =>
                intro o ho
                simp only [List.getElem?_toArray, List.getElem?_cons_zero, List.getElem?_cons_succ, Option.some.injEq] at ho
                subst ho
                intro a W hl hold hdep
                obtain ⟨_, h38, rfl⟩ := hdep 1 (by decide) _ _ rfl rfl
                refine ite_yes ((want_of rfl rfl rfl h38).trans rfl) ?_
                have h2 : a.tmps[2]? = some (.pointer (some ⟨w.heap.size, 0, none⟩)) := hold 2 (free_of (by kernel_rfl))
                clear hold hdep
                exact wp_load_cfg D HZ.out W w.heap.size (HA.out.later hl) (.tmp 2) rfl (ev h2) ⟨_, rfl, rfl, Later.refl _⟩
              | 8 =>
                intro o ho
                simp only [List.getElem?_toArray, List.getElem?_cons_zero, List.getElem?_cons_succ, Option.some.injEq] at ho
                subst ho
                intro a W hl hold hdep
                obtain ⟨_, h38, rfl⟩ := hdep 1 (by decide) _ _ rfl rfl
                refine ite_yes ((want_of rfl rfl rfl h38).trans rfl) ?_
                have h3 : a.tmps[3]? = some (.pointer (some ⟨w.heap.size + 1, 0, none⟩)) := hold 3 (free_of (by kernel_rfl))
                clear hold hdep
                exact wp_load_cfg E HY.out W (w.heap.size + 1) (HB.out.later hl) (.tmp 3) rfl (ev h3) ⟨_, rfl, rfl, Later.refl _⟩
              | 9 =>
                intro o ho
                simp only [List.getElem?_toArray, List.getElem?_cons_zero, List.getElem?_cons_succ, Option.some.injEq] at ho
                subst ho
                intro a W hl hold hdep
                obtain ⟨_, h38, rfl⟩ := hdep 1 (by decide) _ _ rfl rfl
                refine ite_yes ((want_of rfl rfl rfl h38).trans rfl) ?_
                obtain ⟨_, h44, rfl⟩ := hdep 7 (by decide) _ _ rfl rfl
                obtain ⟨_, h45, rfl⟩ := hdep 8 (by decide) _ _ rfl rfl
                clear hold hdep
                unfold Oper.wp
                go_simp
                refine (KT.out _ (gtrans HL.out hl)).mono ?_
                rintro e w1 ⟨rfl, hg1⟩
                exact ⟨_, rfl, rfl, hg1⟩
              | 10 =>
                intro o ho
                simp only [List.getElem?_toArray, List.getElem?_cons_zero, List.getElem?_cons_succ, Option.some.injEq] at ho
                subst ho
                intro a W hl hold hdep
                obtain ⟨_, h38, rfl⟩ := hdep 1 (by decide) _ _ rfl rfl
                refine ite_yes ((want_of rfl rfl rfl h38).trans rfl) ?_
                obtain ⟨_, h43, rfl⟩ := hdep 6 (by decide) _ _ rfl rfl
                obtain ⟨_, h46, rfl⟩ := hdep 9 (by decide) _ _ rfl rfl
                clear hold hdep
                unfold Oper.wp
                go_simp
                exact ⟨_, rfl, rfl, Later.refl _⟩
              | 11 =>
                intro o ho
                simp only [List.getElem?_toArray, List.getElem?_cons_zero, List.getElem?_cons_succ, Option.some.injEq] at ho
                subst ho
                intro a W hl hold hdep
                refine ite_yes rfl ?_
                obtain ⟨_, h38, rfl⟩ := hdep 1 (by decide) _ _ rfl rfl
                obtain ⟨_, h47, rfl⟩ := hdep 10 (by decide) _ _ rfl rfl
                clear hold hdep
                unfold Oper.wp
                go_simp
                exact ⟨_, rfl, rfl, Later.refl _⟩
              | 12 =>
                intro o ho
                simp only [List.getElem?_toArray, List.getElem?_cons_zero, List.getElem?_cons_succ, Option.some.injEq] at ho
                subst ho
                intro a W hl hold hdep
                refine ite_yes rfl ?_
                obtain ⟨_, h48, rfl⟩ := hdep 11 (by decide) _ _ rfl rfl
                clear hold hdep
                unfold Oper.wp
                go_simp
                exact ⟨_, rfl, rfl, Later.refl _⟩
              | 13 =>
                intro o ho
                simp only [List.getElem?_toArray, List.getElem?_cons_zero, List.getElem?_cons_succ, Option.some.injEq] at ho
                subst ho
                intro a W hl hold hdep
                obtain ⟨_, h49, rfl⟩ := hdep 12 (by decide) _ _ rfl rfl
                refine ite_yes ((want_of rfl rfl rfl h49).trans rfl) ?_
                have h2 : a.tmps[2]? = some (.pointer (some ⟨w.heap.size, 0, none⟩)) := hold 2 (free_of (by kernel_rfl))
                clear hold hdep
                exact wp_load_cfg D HZ.out W w.heap.size (HA.out.later hl) (.tmp 2) rfl (ev h2) ⟨_, rfl, rfl, Later.refl _⟩
              | 14 =>
                intro o ho
                simp only [List.getElem?_toArray, List.getElem?_cons_zero, List.getElem?_cons_succ, Option.some.injEq] at ho
                subst ho
                intro a W hl hold hdep
                obtain ⟨_, h49, rfl⟩ := hdep 12 (by decide) _ _ rfl rfl
                refine ite_yes ((want_of rfl rfl rfl h49).trans rfl) ?_
                obtain ⟨_, h50, rfl⟩ := hdep 13 (by decide) _ _ rfl rfl
                clear hold hdep
                unfold Oper.wp
                go_simp
                refine (KO.out _ (gtrans HL.out hl) e1).mono ?_
                rintro e w1 ⟨F, rfl, ho, hg1⟩
                exact ⟨_, rfl, ⟨F, rfl, ho.is⟩, hg1⟩
              | 15 =>
                intro o ho
                simp only [List.getElem?_toArray, List.getElem?_cons_zero, List.getElem?_cons_succ, Option.some.injEq] at ho
                subst ho
                intro a W hl hold hdep
                obtain ⟨_, h49, rfl⟩ := hdep 12 (by decide) _ _ rfl rfl
                refine ite_yes ((want_of rfl rfl rfl h49).trans rfl) ?_
                have h3 : a.tmps[3]? = some (.pointer (some ⟨w.heap.size + 1, 0, none⟩)) := hold 3 (free_of (by kernel_rfl))
                clear hold hdep
                exact wp_load_cfg E HY.out W (w.heap.size + 1) (HB.out.later hl) (.tmp 3) rfl (ev h3) ⟨_, rfl, rfl, Later.refl _⟩
              | 16 =>
                intro o ho
                simp only [List.getElem?_toArray, List.getElem?_cons_zero, List.getElem?_cons_succ, Option.some.injEq] at ho
                subst ho
                intro a W hl hold hdep
                obtain ⟨_, h49, rfl⟩ := hdep 12 (by decide) _ _ rfl rfl
                refine ite_yes ((want_of rfl rfl rfl h49).trans rfl) ?_
                obtain ⟨_, h52, rfl⟩ := hdep 15 (by decide) _ _ rfl rfl
                clear hold hdep
                unfold Oper.wp
                go_simp
                refine (KP.out _ (gtrans HL.out hl) e2).mono ?_
                rintro e w1 ⟨F, rfl, ho, hg1⟩
                exact ⟨_, rfl, ⟨F, rfl, ho.is⟩, hg1⟩
              | 17 =>
                intro o ho
                simp only [List.getElem?_toArray, List.getElem?_cons_zero, List.getElem?_cons_succ, Option.some.injEq] at ho
                subst ho
                intro a W hl hold hdep
                obtain ⟨_, h49, rfl⟩ := hdep 12 (by decide) _ _ rfl rfl
                refine ite_yes ((want_of rfl rfl rfl h49).trans rfl) ?_
                obtain ⟨_, h51, ⟨F51, rfl, hF51⟩⟩ := hdep 14 (by decide) _ _ rfl rfl
                obtain ⟨_, h53, ⟨F53, rfl, hF53⟩⟩ := hdep 16 (by decide) _ _ rfl rfl
                clear hold hdep
                unfold Oper.wp
                go_simp
                refine (KG.out _ _ _ hF51 hF53).mono ?_
                rintro e w1 ⟨rfl, hg1⟩
                exact ⟨_, rfl, rfl, hg1⟩
              | 18 =>
                intro o ho
                simp only [List.getElem?_toArray, List.getElem?_cons_zero, List.getElem?_cons_succ, Option.some.injEq] at ho
                subst ho
                intro a W hl hold hdep
                obtain ⟨_, h49, rfl⟩ := hdep 12 (by decide) _ _ rfl rfl
                refine ite_yes ((want_of rfl rfl rfl h49).trans rfl) ?_
                have h5 : a.tmps[5]? = some (.bool false) := hold 5 (free_of (by kernel_rfl))
                clear hold hdep
                unfold Oper.wp
                go_simp
                exact ⟨_, rfl, rfl, Later.refl _⟩
              | 19 =>
                intro o ho
                simp only [List.getElem?_toArray, List.getElem?_cons_zero, List.getElem?_cons_succ, Option.some.injEq] at ho
                subst ho
                intro a W hl hold hdep
                obtain ⟨_, h49, rfl⟩ := hdep 12 (by decide) _ _ rfl rfl
                refine ite_yes ((want_of rfl rfl rfl h49).trans rfl) ?_
                obtain ⟨_, h54, rfl⟩ := hdep 17 (by decide) _ _ rfl rfl
                obtain ⟨_, h55, rfl⟩ := hdep 18 (by decide) _ _ rfl rfl
                clear hold hdep
                unfold Oper.wp
                go_simp
                exact ⟨_, rfl, rfl, Later.refl _⟩
              | 20 =>
                intro o ho
                simp only [List.getElem?_toArray, List.getElem?_cons_zero, List.getElem?_cons_succ, Option.some.injEq] at ho
                subst ho
                intro a W hl hold hdep
                refine ite_yes rfl ?_
                obtain ⟨_, h49, rfl⟩ := hdep 12 (by decide) _ _ rfl rfl
                obtain ⟨_, h56, rfl⟩ := hdep 19 (by decide) _ _ rfl rfl
                clear hold hdep
                unfold Oper.wp
                go_simp
                exact ⟨_, rfl, rfl, Later.refl _⟩
              | 21 =>
                intro o ho
                simp only [List.getElem?_toArray, List.getElem?_cons_zero, List.getElem?_cons_succ, Option.some.injEq] at ho
                subst ho
                intro a W hl hold hdep
                refine ite_yes rfl ?_
                obtain ⟨_, h57, rfl⟩ := hdep 20 (by decide) _ _ rfl rfl
                clear hold hdep
                unfold Oper.wp
                go_simp
                exact ⟨_, rfl, rfl, Later.refl _⟩
              | k + 22 => exact absurd hi (by simp)
            · intro a W hl hd hz hold hall
              obtain ⟨_, k4, rfl⟩ := hall 21 _ _ rfl rfl
              have ha := act_eta a 58 [] hz hd
              rw [show (List.range 58).map (fun s => a.tmps.getD s undef) = [a.tmps.getD 0 undef, a.tmps.getD 1 undef, a.tmps.getD 2 undef, a.tmps.getD 3 undef, a.tmps.getD 4 undef, a.tmps.getD 5 undef, a.tmps.getD 6 undef, a.tmps.getD 7 undef, a.tmps.getD 8 undef, a.tmps.getD 9 undef, a.tmps.getD 10 undef, a.tmps.getD 11 undef, a.tmps.getD 12 undef, a.tmps.getD 13 undef, a.tmps.getD 14 undef, a.tmps.getD 15 undef, a.tmps.getD 16 undef, a.tmps.getD 17 undef, a.tmps.getD 18 undef, a.tmps.getD 19 undef, a.tmps.getD 20 undef, a.tmps.getD 21 undef, a.tmps.getD 22 undef, a.tmps.getD 23 undef, a.tmps.getD 24 undef, a.tmps.getD 25 undef, a.tmps.getD 26 undef, a.tmps.getD 27 undef, a.tmps.getD 28 undef, a.tmps.getD 29 undef, a.tmps.getD 30 undef, a.tmps.getD 31 undef, a.tmps.getD 32 undef, a.tmps.getD 33 undef, a.tmps.getD 34 undef, a.tmps.getD 35 undef, a.tmps.getD 36 undef, a.tmps.getD 37 undef, a.tmps.getD 38 undef, a.tmps.getD 39 undef, a.tmps.getD 40 undef, a.tmps.getD 41 undef, a.tmps.getD 42 undef, a.tmps.getD 43 undef, a.tmps.getD 44 undef, a.tmps.getD 45 undef, a.tmps.getD 46 undef, a.tmps.getD 47 undef, a.tmps.getD 48 undef, a.tmps.getD 49 undef, a.tmps.getD 50 undef, a.tmps.getD 51 undef, a.tmps.getD 52 undef, a.tmps.getD 53 undef, a.tmps.getD 54 undef, a.tmps.getD 55 undef, a.tmps.getD 56 undef, a.tmps.getD 57 undef] from rfl, getD_of k4] at ha
              rw [ha]
              clear hall hold hz hd ha k4
              generalize a.tmps.getD 0 undef = x0
              generalize a.tmps.getD 1 undef = x1
              generalize a.tmps.getD 2 undef = x2
              generalize a.tmps.getD 3 undef = x3
              generalize a.tmps.getD 5 undef = x5
              generalize a.tmps.getD 6 undef = x6
              generalize a.tmps.getD 7 undef = x7
              generalize a.tmps.getD 8 undef = x8
              generalize a.tmps.getD 9 undef = x9
              generalize a.tmps.getD 10 undef = x10
              generalize a.tmps.getD 11 undef = x11
              generalize a.tmps.getD 12 undef = x12
              generalize a.tmps.getD 13 undef = x13
              generalize a.tmps.getD 14 undef = x14
              generalize a.tmps.getD 15 undef = x15
              generalize a.tmps.getD 16 undef = x16
              generalize a.tmps.getD 17 undef = x17
              generalize a.tmps.getD 18 undef = x18
              generalize a.tmps.getD 19 undef = x19
              generalize a.tmps.getD 20 undef = x20
              generalize a.tmps.getD 21 undef = x21
              generalize a.tmps.getD 22 undef = x22
              generalize a.tmps.getD 23 undef = x23
              generalize a.tmps.getD 24 undef = x24
              generalize a.tmps.getD 25 undef = x25
              generalize a.tmps.getD 26 undef = x26
              generalize a.tmps.getD 27 undef = x27
              generalize a.tmps.getD 28 undef = x28
              generalize a.tmps.getD 29 undef = x29
              generalize a.tmps.getD 30 undef = x30
              generalize a.tmps.getD 31 undef = x31
              generalize a.tmps.getD 32 undef = x32
              generalize a.tmps.getD 33 undef = x33
              generalize a.tmps.getD 34 undef = x34
              generalize a.tmps.getD 35 undef = x35
              generalize a.tmps.getD 36 undef = x36
              generalize a.tmps.getD 37 undef = x37
              generalize a.tmps.getD 38 undef = x38
              generalize a.tmps.getD 39 undef = x39
              generalize a.tmps.getD 40 undef = x40
              generalize a.tmps.getD 41 undef = x41
              generalize a.tmps.getD 42 undef = x42
              generalize a.tmps.getD 43 undef = x43
              generalize a.tmps.getD 44 undef = x44
              generalize a.tmps.getD 45 undef = x45
              generalize a.tmps.getD 46 undef = x46
              generalize a.tmps.getD 47 undef = x47
              generalize a.tmps.getD 48 undef = x48
              generalize a.tmps.getD 49 undef = x49
              generalize a.tmps.getD 50 undef = x50
              generalize a.tmps.getD 51 undef = x51
              generalize a.tmps.getD 52 undef = x52
              generalize a.tmps.getD 53 undef = x53
              generalize a.tmps.getD 54 undef = x54
              generalize a.tmps.getD 55 undef = x55
              generalize a.tmps.getD 56 undef = x56
              generalize a.tmps.getD 57 undef = x57
              have HW := Lib.hid (gtrans HL.out hl)
              clear hl
              go_wp2_with fail
              go_ret
              exact ⟨rfl, HW.out⟩
          | true =>
            cases b4 : (cn == dn) with
            | false =>
              have HV : f = false := by rw [HF.out]; simp_all
              subst HV
              have HL := HL4
              have HA := HA4
              have HB := HB4
              clear HL4 HA4 HB4 HF
              go_wp2_with fail
              refine region_each (SVx D E c d m false) (by kernel_rfl) (by kernel_rfl) (SVx.later D E c d m false) ?_ ?_
              · intro i hi
                match i with
                | 0 =>
                  intro o ho
                  simp only [List.getElem?_toArray, List.getElem?_cons_zero, Option.some.injEq] at ho
                  subst ho
                  intro a W hl hold hdep
                  refine ite_yes rfl ?_
                  clear hold hdep
                  unfold Oper.wp
                  go_simp
                  refine (KA.out _).mono ?_
                  rintro e w1 ⟨rfl, hg1⟩
                  exact ⟨_, rfl, rfl, hg1⟩
                | 1 =>
                  intro o ho
                  simp only [List.getElem?_toArray, List.getElem?_cons_zero, List.getElem?_cons_succ, Option.some.injEq] at ho
                  subst ho
                  intro a W hl hold hdep
                  refine ite_yes rfl ?_
                  obtain ⟨_, h37, rfl⟩ := hdep 0 (by decide) _ _ rfl rfl
                  clear hold hdep
                  unfold Oper.wp
                  go_simp
                  exact ⟨_, rfl, rfl, Later.refl _⟩
                | 2 =>
                  intro o ho
                  simp only [List.getElem?_toArray, List.getElem?_cons_zero, List.getElem?_cons_succ, Option.some.injEq] at ho
                  subst ho
                  intro a W hl hold hdep
                  obtain ⟨_, h38, rfl⟩ := hdep 1 (by decide) _ _ rfl rfl
                  refine ite_yes ((want_of rfl rfl rfl h38).trans rfl) ?_
                  have h2 : a.tmps[2]? = some (.pointer (some ⟨w.heap.size, 0, none⟩)) := hold 2 (free_of (by kernel_rfl))
                  clear hold hdep
                  exact wp_load_cfg D HZ.out W w.heap.size (HA.out.later hl) (.tmp 2) rfl (ev h2) ⟨_, rfl, rfl, Later.refl _⟩
                | 3 =>
                  intro o ho
                  simp only [List.getElem?_toArray, List.getElem?_cons_zero, List.getElem?_cons_succ, Option.some.injEq] at ho
                  subst ho
                  intro a W hl hold hdep
                  obtain ⟨_, h38, rfl⟩ := hdep 1 (by decide) _ _ rfl rfl
                  refine ite_yes ((want_of rfl rfl rfl h38).trans rfl) ?_
                  obtain ⟨_, h39, rfl⟩ := hdep 2 (by decide) _ _ rfl rfl
                  clear hold hdep
                  unfold Oper.wp
                  go_simp
                  refine (KO.out _ (gtrans HL.out hl) e1).mono ?_
                  rintro e w1 ⟨F, rfl, ho, hg1⟩
                  exact ⟨_, rfl, ⟨F, rfl, ho.is⟩, hg1⟩
                | 4 =>
                  intro o ho
                  simp only [List.getElem?_toArray, List.getElem?_cons_zero, List.getElem?_cons_succ, Option.some.injEq] at ho
                  subst ho
                  intro a W hl hold hdep
                  obtain ⟨_, h38, rfl⟩ := hdep 1 (by decide) _ _ rfl rfl
                  refine ite_yes ((want_of rfl rfl rfl h38).trans rfl) ?_
                  have h3 : a.tmps[3]? = some (.pointer (some ⟨w.heap.size + 1, 0, none⟩)) := hold 3 (free_of (by kernel_rfl))
                  clear hold hdep
                  exact wp_load_cfg E HY.out W (w.heap.size + 1) (HB.out.later hl) (.tmp 3) rfl (ev h3) ⟨_, rfl, rfl, Later.refl _⟩
                | 5 =>
                  intro o ho
                  simp only [List.getElem?_toArray, List.getElem?_cons_zero, List.getElem?_cons_succ, Option.some.injEq] at ho
                  subst ho
                  intro a W hl hold hdep
                  obtain ⟨_, h38, rfl⟩ := hdep 1 (by decide) _ _ rfl rfl
                  refine ite_yes ((want_of rfl rfl rfl h38).trans rfl) ?_
                  obtain ⟨_, h41, rfl⟩ := hdep 4 (by decide) _ _ rfl rfl
                  clear hold hdep
                  unfold Oper.wp
                  go_simp
                  refine (KP.out _ (gtrans HL.out hl) e2).mono ?_
                  rintro e w1 ⟨F, rfl, ho, hg1⟩
                  exact ⟨_, rfl, ⟨F, rfl, ho.is⟩, hg1⟩
                | 6 =>
                  intro o ho
                  simp only [List.getElem?_toArray, List.getElem?_cons_zero, List.getElem?_cons_succ, Option.some.injEq] at ho
                  subst ho
                  intro a W hl hold hdep
                  obtain ⟨_, h38, rfl⟩ := hdep 1 (by decide) _ _ rfl rfl
                  refine ite_yes ((want_of rfl rfl rfl h38).trans rfl) ?_
                  obtain ⟨_, h40, ⟨F40, rfl, hF40⟩⟩ := hdep 3 (by decide) _ _ rfl rfl
                  obtain ⟨_, h42, ⟨F42, rfl, hF42⟩⟩ := hdep 5 (by decide) _ _ rfl rfl
                  clear hold hdep
                  unfold Oper.wp
                  go_simp
                  refine (KS.out _ _ _ hF40 hF42).mono ?_
                  rintro e w1 ⟨rfl, hg1⟩
                  exact ⟨_, rfl, rfl, hg1⟩
                | 7 =>
                  intro o ho
                  simp only [List.getElem?_toArray, List.getElem?_cons_zero, List.getElem?_cons_succ, Option.some.injEq] at ho
                  subst ho
                  intro a W hl hold hdep
                  obtain ⟨_, h38, rfl⟩ := hdep 1 (by decide) _ _ rfl rfl
                  refine ite_yes ((want_of rfl rfl rfl h38).trans rfl) ?_
                  have h2 : a.tmps[2]? = some (.pointer (some ⟨w.heap.size, 0, none⟩)) := hold 2 (free_of (by kernel_rfl))
                  clear hold hdep
                  exact wp_load_cfg D HZ.out W w.heap.size (HA.out.later hl) (.tmp 2) rfl (ev h2) ⟨_, rfl, rfl, Later.refl _⟩
                | 8 =>
                  intro o ho
                  simp only [List.getElem?_toArray, List.getElem?_cons_zero, List.getElem?_cons_succ, Option.some.injEq] at ho
                  subst ho
                  intro a W hl hold hdep
                  obtain ⟨_, h38, rfl⟩ := hdep 1 (by decide) _ _ rfl rfl
                  refine ite_yes ((want_of rfl rfl rfl h38).trans rfl) ?_
                  have h3 : a.tmps[3]? = some (.pointer (some ⟨w.heap.size + 1, 0, none⟩)) := hold 3 (free_of (by kernel_rfl))
                  clear hold hdep
                  exact wp_load_cfg E HY.out W (w.heap.size + 1) (HB.out.later hl) (.tmp 3) rfl (ev h3) ⟨_, rfl, rfl, Later.refl _⟩
                | 9 =>
                  intro o ho
                  simp only [List.getElem?_toArray, List.getElem?_cons_zero, List.getElem?_cons_succ, Option.some.injEq] at ho
                  subst ho
                  intro a W hl hold hdep
                  obtain ⟨_, h38, rfl⟩ := hdep 1 (by decide) _ _ rfl rfl
                  refine ite_yes ((want_of rfl rfl rfl h38).trans rfl) ?_
                  obtain ⟨_, h44, rfl⟩ := hdep 7 (by decide) _ _ rfl rfl
                  obtain ⟨_, h45, rfl⟩ := hdep 8 (by decide) _ _ rfl rfl
                  clear hold hdep
                  unfold Oper.wp
                  go_simp
                  refine (KT.out _ (gtrans HL.out hl)).mono ?_
                  rintro e w1 ⟨rfl, hg1⟩
                  exact ⟨_, rfl, rfl, hg1⟩
                | 10 =>
                  intro o ho
                  simp only [List.getElem?_toArray, List.getElem?_cons_zero, List.getElem?_cons_succ, Option.some.injEq] at ho
                  subst ho
                  intro a W hl hold hdep
                  obtain ⟨_, h38, rfl⟩ := hdep 1 (by decide) _ _ rfl rfl
                  refine ite_yes ((want_of rfl rfl rfl h38).trans rfl) ?_
                  obtain ⟨_, h43, rfl⟩ := hdep 6 (by decide) _ _ rfl rfl
                  obtain ⟨_, h46, rfl⟩ := hdep 9 (by decide) _ _ rfl rfl
                  clear hold hdep
                  unfold Oper.wp
                  go_simp
                  exact ⟨_, rfl, rfl, Later.refl _⟩
                | 11 =>
                  intro o ho
                  simp only [List.getElem?_toArray, List.getElem?_cons_zero, List.getElem?_cons_succ, Option.some.injEq] at ho
                  subst ho
                  intro a W hl hold hdep
                  refine ite_yes rfl ?_
                  obtain ⟨_, h38, rfl⟩ := hdep 1 (by decide) _ _ rfl rfl
                  obtain ⟨_, h47, rfl⟩ := hdep 10 (by decide) _ _ rfl rfl
                  clear hold hdep
                  unfold Oper.wp
                  go_simp
                  exact ⟨_, rfl, rfl, Later.refl _⟩
                | 12 =>
                  intro o ho
                  simp only [List.getElem?_toArray, List.getElem?_cons_zero, List.getElem?_cons_succ, Option.some.injEq] at ho
                  subst ho
                  intro a W hl hold hdep
                  refine ite_yes rfl ?_
                  obtain ⟨_, h48, rfl⟩ := hdep 11 (by decide) _ _ rfl rfl
                  clear hold hdep
                  unfold Oper.wp
                  go_simp
                  exact ⟨_, rfl, rfl, Later.refl _⟩
                | 13 =>
                  intro o ho
                  simp only [List.getElem?_toArray, List.getElem?_cons_zero, List.getElem?_cons_succ, Option.some.injEq] at ho
                  subst ho
                  intro a W hl hold hdep
                  obtain ⟨_, h49, rfl⟩ := hdep 12 (by decide) _ _ rfl rfl
                  refine ite_yes ((want_of rfl rfl rfl h49).trans rfl) ?_
                  have h2 : a.tmps[2]? = some (.pointer (some ⟨w.heap.size, 0, none⟩)) := hold 2 (free_of (by kernel_rfl))
                  clear hold hdep
                  exact wp_load_cfg D HZ.out W w.heap.size (HA.out.later hl) (.tmp 2) rfl (ev h2) ⟨_, rfl, rfl, Later.refl _⟩
                | 14 =>
                  intro o ho
                  simp only [List.getElem?_toArray, List.getElem?_cons_zero, List.getElem?_cons_succ, Option.some.injEq] at ho
                  subst ho
                  intro a W hl hold hdep
                  obtain ⟨_, h49, rfl⟩ := hdep 12 (by decide) _ _ rfl rfl
                  refine ite_yes ((want_of rfl rfl rfl h49).trans rfl) ?_
                  obtain ⟨_, h50, rfl⟩ := hdep 13 (by decide) _ _ rfl rfl
                  clear hold hdep
                  unfold Oper.wp
                  go_simp
                  refine (KO.out _ (gtrans HL.out hl) e1).mono ?_
                  rintro e w1 ⟨F, rfl, ho, hg1⟩
                  exact ⟨_, rfl, ⟨F, rfl, ho.is⟩, hg1⟩
                | 15 =>
                  intro o ho
                  simp only [List.getElem?_toArray, List.getElem?_cons_zero, List.getElem?_cons_succ, Option.some.injEq] at ho
                  subst ho
                  intro a W hl hold hdep
                  obtain ⟨_, h49, rfl⟩ := hdep 12 (by decide) _ _ rfl rfl
                  refine ite_yes ((want_of rfl rfl rfl h49).trans rfl) ?_
                  have h3 : a.tmps[3]? = some (.pointer (some ⟨w.heap.size + 1, 0, none⟩)) := hold 3 (free_of (by kernel_rfl))
                  clear hold hdep
                  exact wp_load_cfg E HY.out W (w.heap.size + 1) (HB.out.later hl) (.tmp 3) rfl (ev h3) ⟨_, rfl, rfl, Later.refl _⟩
                | 16 =>
                  intro o ho
                  simp only [List.getElem?_toArray, List.getElem?_cons_zero, List.getElem?_cons_succ, Option.some.injEq] at ho
                  subst ho
                  intro a W hl hold hdep
                  obtain ⟨_, h49, rfl⟩ := hdep 12 (by decide) _ _ rfl rfl
                  refine ite_yes ((want_of rfl rfl rfl h49).trans rfl) ?_
                  obtain ⟨_, h52, rfl⟩ := hdep 15 (by decide) _ _ rfl rfl
                  clear hold hdep
                  unfold Oper.wp
                  go_simp
                  refine (KP.out _ (gtrans HL.out hl) e2).mono ?_
                  rintro e w1 ⟨F, rfl, ho, hg1⟩
                  exact ⟨_, rfl, ⟨F, rfl, ho.is⟩, hg1⟩
                | 17 =>
                  intro o ho
                  simp only [List.getElem?_toArray, List.getElem?_cons_zero, List.getElem?_cons_succ, Option.some.injEq] at ho
                  subst ho
                  intro a W hl hold hdep
                  obtain ⟨_, h49, rfl⟩ := hdep 12 (by decide) _ _ rfl rfl
                  refine ite_yes ((want_of rfl rfl rfl h49).trans rfl) ?_
                  obtain ⟨_, h51, ⟨F51, rfl, hF51⟩⟩ := hdep 14 (by decide) _ _ rfl rfl
                  obtain ⟨_, h53, ⟨F53, rfl, hF53⟩⟩ := hdep 16 (by decide) _ _ rfl rfl
                  clear hold hdep
                  unfold Oper.wp
                  go_simp
                  refine (KG.out _ _ _ hF51 hF53).mono ?_
                  rintro e w1 ⟨rfl, hg1⟩
                  exact ⟨_, rfl, rfl, hg1⟩
                | 18 =>
                  intro o ho
                  simp only [List.getElem?_toArray, List.getElem?_cons_zero, List.getElem?_cons_succ, Option.some.injEq] at ho
                  subst ho
                  intro a W hl hold hdep
                  obtain ⟨_, h49, rfl⟩ := hdep 12 (by decide) _ _ rfl rfl
                  refine ite_yes ((want_of rfl rfl rfl h49).trans rfl) ?_
                  have h5 : a.tmps[5]? = some (.bool false) := hold 5 (free_of (by kernel_rfl))
                  clear hold hdep
                  unfold Oper.wp
                  go_simp
                  exact ⟨_, rfl, rfl, Later.refl _⟩
                | 19 =>
                  intro o ho
                  simp only [List.getElem?_toArray, List.getElem?_cons_zero, List.getElem?_cons_succ, Option.some.injEq] at ho
                  subst ho
                  intro a W hl hold hdep
                  obtain ⟨_, h49, rfl⟩ := hdep 12 (by decide) _ _ rfl rfl
                  refine ite_yes ((want_of rfl rfl rfl h49).trans rfl) ?_
                  obtain ⟨_, h54, rfl⟩ := hdep 17 (by decide) _ _ rfl rfl
                  obtain ⟨_, h55, rfl⟩ := hdep 18 (by decide) _ _ rfl rfl
                  clear hold hdep
                  unfold Oper.wp
                  go_simp
                  exact ⟨_, rfl, rfl, Later.refl _⟩
                | 20 =>
                  intro o ho
                  simp only [List.getElem?_toArray, List.getElem?_cons_zero, List.getElem?_cons_succ, Option.some.injEq] at ho
                  subst ho
                  intro a W hl hold hdep
                  refine ite_yes rfl ?_
                  obtain ⟨_, h49, rfl⟩ := hdep 12 (by decide) _ _ rfl rfl
                  obtain ⟨_, h56, rfl⟩ := hdep 19 (by decide) _ _ rfl rfl
                  clear hold hdep
                  unfold Oper.wp
                  go_simp
                  exact ⟨_, rfl, rfl, Later.refl _⟩
                | 21 =>
                  intro o ho
                  simp only [List.getElem?_toArray, List.getElem?_cons_zero, List.getElem?_cons_succ, Option.some.injEq] at ho
                  subst ho
                  intro a W hl hold hdep
                  refine ite_yes rfl ?_
                  obtain ⟨_, h57, rfl⟩ := hdep 20 (by decide) _ _ rfl rfl
                  clear hold hdep
                  unfold Oper.wp
                  go_simp
                  exact ⟨_, rfl, rfl, Later.refl _⟩
                | k + 22 => exact absurd hi (by simp)
              · intro a W hl hd hz hold hall
                obtain ⟨_, k4, rfl⟩ := hall 21 _ _ rfl rfl
                have ha := act_eta a 58 [] hz hd
                rw [show (List.range 58).map (fun s => a.tmps.getD s undef) = [a.tmps.getD 0 undef, a.tmps.getD 1 undef, a.tmps.getD 2 undef, a.tmps.getD 3 undef, a.tmps.getD 4 undef, a.tmps.getD 5 undef, a.tmps.getD 6 undef, a.tmps.getD 7 undef, a.tmps.getD 8 undef, a.tmps.getD 9 undef, a.tmps.getD 10 undef, a.tmps.getD 11 undef, a.tmps.getD 12 undef, a.tmps.getD 13 undef, a.tmps.getD 14 undef, a.tmps.getD 15 undef, a.tmps.getD 16 undef, a.tmps.getD 17 undef, a.tmps.getD 18 undef, a.tmps.getD 19 undef, a.tmps.getD 20 undef, a.tmps.getD 21 undef, a.tmps.getD 22 undef, a.tmps.getD 23 undef, a.tmps.getD 24 undef, a.tmps.getD 25 undef, a.tmps.getD 26 undef, a.tmps.getD 27 undef, a.tmps.getD 28 undef, a.tmps.getD 29 undef, a.tmps.getD 30 undef, a.tmps.getD 31 undef, a.tmps.getD 32 undef, a.tmps.getD 33 undef, a.tmps.getD 34 undef, a.tmps.getD 35 undef, a.tmps.getD 36 undef, a.tmps.getD 37 undef, a.tmps.getD 38 undef, a.tmps.getD 39 undef, a.tmps.getD 40 undef, a.tmps.getD 41 undef, a.tmps.getD 42 undef, a.tmps.getD 43 undef, a.tmps.getD 44 undef, a.tmps.getD 45 undef, a.tmps.getD 46 undef, a.tmps.getD 47 undef, a.tmps.getD 48 undef, a.tmps.getD 49 undef, a.tmps.getD 50 undef, a.tmps.getD 51 undef, a.tmps.getD 52 undef, a.tmps.getD 53 undef, a.tmps.getD 54 undef, a.tmps.getD 55 undef, a.tmps.getD 56 undef, a.tmps.getD 57 undef] from rfl, getD_of k4] at ha
                rw [ha]
                clear hall hold hz hd ha k4
                generalize a.tmps.getD 0 undef = x0
                generalize a.tmps.getD 1 undef = x1
                generalize a.tmps.getD 2 undef = x2
                generalize a.tmps.getD 3 undef = x3
                generalize a.tmps.getD 5 undef = x5
                generalize a.tmps.getD 6 undef = x6
                generalize a.tmps.getD 7 undef = x7
                generalize a.tmps.getD 8 undef = x8
                generalize a.tmps.getD 9 undef = x9
                generalize a.tmps.getD 10 undef = x10
                generalize a.tmps.getD 11 undef = x11
                generalize a.tmps.getD 12 undef = x12
                generalize a.tmps.getD 13 undef = x13
                generalize a.tmps.getD 14 undef = x14
                generalize a.tmps.getD 15 undef = x15
                generalize a.tmps.getD 16 undef = x16
                generalize a.tmps.getD 17 undef = x17
                generalize a.tmps.getD 18 undef = x18
                generalize a.tmps.getD 19 undef = x19
                generalize a.tmps.getD 20 undef = x20
                generalize a.tmps.getD 21 undef = x21
                generalize a.tmps.getD 22 undef = x22
                generalize a.tmps.getD 23 undef = x23
                generalize a.tmps.getD 24 undef = x24
                generalize a.tmps.getD 25 undef = x25
                generalize a.tmps.getD 26 undef = x26
                generalize a.tmps.getD 27 undef = x27
                generalize a.tmps.getD 28 undef = x28
                generalize a.tmps.getD 29 undef = x29
                generalize a.tmps.getD 30 undef = x30
                generalize a.tmps.getD 31 undef = x31
                generalize a.tmps.getD 32 undef = x32
                generalize a.tmps.getD 33 undef = x33
                generalize a.tmps.getD 34 undef = x34
                generalize a.tmps.getD 35 undef = x35
                generalize a.tmps.getD 36 undef = x36
                generalize a.tmps.getD 37 undef = x37
                generalize a.tmps.getD 38 undef = x38
                generalize a.tmps.getD 39 undef = x39
                generalize a.tmps.getD 40 undef = x40
                generalize a.tmps.getD 41 undef = x41
                generalize a.tmps.getD 42 undef = x42
                generalize a.tmps.getD 43 undef = x43
                generalize a.tmps.getD 44 undef = x44
                generalize a.tmps.getD 45 undef = x45
                generalize a.tmps.getD 46 undef = x46
                generalize a.tmps.getD 47 undef = x47
                generalize a.tmps.getD 48 undef = x48
                generalize a.tmps.getD 49 undef = x49
                generalize a.tmps.getD 50 undef = x50
                generalize a.tmps.getD 51 undef = x51
                generalize a.tmps.getD 52 undef = x52
                generalize a.tmps.getD 53 undef = x53
                generalize a.tmps.getD 54 undef = x54
                generalize a.tmps.getD 55 undef = x55
                generalize a.tmps.getD 56 undef = x56
                generalize a.tmps.getD 57 undef = x57
                have HW := Lib.hid (gtrans HL.out hl)
                clear hl
                go_wp2_with fail
                go_ret
                exact ⟨rfl, HW.out⟩
            | true =>
              have HV : f = true := by rw [HF.out]; simp_all
              subst HV
              have HL := HL4
              have HA := HA4
              have HB := HB4
              clear HL4 HA4 HB4 HF
              go_wp2_with fail
              refine region_each (SVx D E c d m true) (by kernel_rfl) (by kernel_rfl) (SVx.later D E c d m true) ?_ ?_
              · intro i hi
                match i with
                | 0 =>
                  intro o ho
                  simp only [List.getElem?_toArray, List.getElem?_cons_zero, Option.some.injEq] at ho
                  subst ho
                  intro a W hl hold hdep
                  refine ite_yes rfl ?_
                  clear hold hdep
                  unfold Oper.wp
                  go_simp
                  refine (KA.out _).mono ?_
                  rintro e w1 ⟨rfl, hg1⟩
                  exact ⟨_, rfl, rfl, hg1⟩
                | 1 =>
                  intro o ho
                  simp only [List.getElem?_toArray, List.getElem?_cons_zero, List.getElem?_cons_succ, Option.some.injEq] at ho
                  subst ho
                  intro a W hl hold hdep
                  refine ite_yes rfl ?_
                  obtain ⟨_, h37, rfl⟩ := hdep 0 (by decide) _ _ rfl rfl
                  clear hold hdep
                  unfold Oper.wp
                  go_simp
                  exact ⟨_, rfl, rfl, Later.refl _⟩
                | 2 =>
                  intro o ho
                  simp only [List.getElem?_toArray, List.getElem?_cons_zero, List.getElem?_cons_succ, Option.some.injEq] at ho
                  subst ho
                  intro a W hl hold hdep
                  obtain ⟨_, h38, rfl⟩ := hdep 1 (by decide) _ _ rfl rfl
                  refine ite_yes ((want_of rfl rfl rfl h38).trans rfl) ?_
                  have h2 : a.tmps[2]? = some (.pointer (some ⟨w.heap.size, 0, none⟩)) := hold 2 (free_of (by kernel_rfl))
                  clear hold hdep
                  exact wp_load_cfg D HZ.out W w.heap.size (HA.out.later hl) (.tmp 2) rfl (ev h2) ⟨_, rfl, rfl, Later.refl _⟩
                | 3 =>
                  intro o ho
                  simp only [List.getElem?_toArray, List.getElem?_cons_zero, List.getElem?_cons_succ, Option.some.injEq] at ho
                  subst ho
                  intro a W hl hold hdep
                  obtain ⟨_, h38, rfl⟩ := hdep 1 (by decide) _ _ rfl rfl
                  refine ite_yes ((want_of rfl rfl rfl h38).trans rfl) ?_
                  obtain ⟨_, h39, rfl⟩ := hdep 2 (by decide) _ _ rfl rfl
                  clear hold hdep
                  unfold Oper.wp
                  go_simp
                  refine (KO.out _ (gtrans HL.out hl) e1).mono ?_
                  rintro e w1 ⟨F, rfl, ho, hg1⟩
                  exact ⟨_, rfl, ⟨F, rfl, ho.is⟩, hg1⟩
                | 4 =>
                  intro o ho
                  simp only [List.getElem?_toArray, List.getElem?_cons_zero, List.getElem?_cons_succ, Option.some.injEq] at ho
                  subst ho
                  intro a W hl hold hdep
                  obtain ⟨_, h38, rfl⟩ := hdep 1 (by decide) _ _ rfl rfl
                  refine ite_yes ((want_of rfl rfl rfl h38).trans rfl) ?_
                  have h3 : a.tmps[3]? = some (.pointer (some ⟨w.heap.size + 1, 0, none⟩)) := hold 3 (free_of (by kernel_rfl))
                  clear hold hdep
                  exact wp_load_cfg E HY.out W (w.heap.size + 1) (HB.out.later hl) (.tmp 3) rfl (ev h3) ⟨_, rfl, rfl, Later.refl _⟩
                | 5 =>
                  intro o ho
                  simp only [List.getElem?_toArray, List.getElem?_cons_zero, List.getElem?_cons_succ, Option.some.injEq] at ho
                  subst ho
                  intro a W hl hold hdep
                  obtain ⟨_, h38, rfl⟩ := hdep 1 (by decide) _ _ rfl rfl
                  refine ite_yes ((want_of rfl rfl rfl h38).trans rfl) ?_
                  obtain ⟨_, h41, rfl⟩ := hdep 4 (by decide) _ _ rfl rfl
                  clear hold hdep
                  unfold Oper.wp
                  go_simp
                  refine (KP.out _ (gtrans HL.out hl) e2).mono ?_
                  rintro e w1 ⟨F, rfl, ho, hg1⟩
                  exact ⟨_, rfl, ⟨F, rfl, ho.is⟩, hg1⟩
                | 6 =>
                  intro o ho
                  simp only [List.getElem?_toArray, List.getElem?_cons_zero, List.getElem?_cons_succ, Option.some.injEq] at ho
                  subst ho
                  intro a W hl hold hdep
                  obtain ⟨_, h38, rfl⟩ := hdep 1 (by decide) _ _ rfl rfl
                  refine ite_yes ((want_of rfl rfl rfl h38).trans rfl) ?_
                  obtain ⟨_, h40, ⟨F40, rfl, hF40⟩⟩ := hdep 3 (by decide) _ _ rfl rfl
                  obtain ⟨_, h42, ⟨F42, rfl, hF42⟩⟩ := hdep 5 (by decide) _ _ rfl rfl
                  clear hold hdep
                  unfold Oper.wp
                  go_simp
                  refine (KS.out _ _ _ hF40 hF42).mono ?_
                  rintro e w1 ⟨rfl, hg1⟩
                  exact ⟨_, rfl, rfl, hg1⟩
                | 7 =>
                  intro o ho
                  simp only [List.getElem?_toArray, List.getElem?_cons_zero, List.getElem?_cons_succ, Option.some.injEq] at ho
                  subst ho
                  intro a W hl hold hdep
                  obtain ⟨_, h38, rfl⟩ := hdep 1 (by decide) _ _ rfl rfl
                  refine ite_yes ((want_of rfl rfl rfl h38).trans rfl) ?_
                  have h2 : a.tmps[2]? = some (.pointer (some ⟨w.heap.size, 0, none⟩)) := hold 2 (free_of (by kernel_rfl))
                  clear hold hdep
                  exact wp_load_cfg D HZ.out W w.heap.size (HA.out.later hl) (.tmp 2) rfl (ev h2) ⟨_, rfl, rfl, Later.refl _⟩
                | 8 =>
                  intro o ho
                  simp only [List.getElem?_toArray, List.getElem?_cons_zero, List.getElem?_cons_succ, Option.some.injEq] at ho
                  subst ho
                  intro a W hl hold hdep
                  obtain ⟨_, h38, rfl⟩ := hdep 1 (by decide) _ _ rfl rfl
                  refine ite_yes ((want_of rfl rfl rfl h38).trans rfl) ?_
                  have h3 : a.tmps[3]? = some (.pointer (some ⟨w.heap.size + 1, 0, none⟩)) := hold 3 (free_of (by kernel_rfl))
                  clear hold hdep
                  exact wp_load_cfg E HY.out W (w.heap.size + 1) (HB.out.later hl) (.tmp 3) rfl (ev h3) ⟨_, rfl, rfl, Later.refl _⟩
                | 9 =>
                  intro o ho
                  simp only [List.getElem?_toArray, List.getElem?_cons_zero, List.getElem?_cons_succ, Option.some.injEq] at ho
                  subst ho
                  intro a W hl hold hdep
                  obtain ⟨_, h38, rfl⟩ := hdep 1 (by decide) _ _ rfl rfl
                  refine ite_yes ((want_of rfl rfl rfl h38).trans rfl) ?_
                  obtain ⟨_, h44, rfl⟩ := hdep 7 (by decide) _ _ rfl rfl
                  obtain ⟨_, h45, rfl⟩ := hdep 8 (by decide) _ _ rfl rfl
                  clear hold hdep
                  unfold Oper.wp
                  go_simp
                  refine (KT.out _ (gtrans HL.out hl)).mono ?_
                  rintro e w1 ⟨rfl, hg1⟩
                  exact ⟨_, rfl, rfl, hg1⟩
                | 10 =>
                  intro o ho
                  simp only [List.getElem?_toArray, List.getElem?_cons_zero, List.getElem?_cons_succ, Option.some.injEq] at ho
                  subst ho
                  intro a W hl hold hdep
                  obtain ⟨_, h38, rfl⟩ := hdep 1 (by decide) _ _ rfl rfl
                  refine ite_yes ((want_of rfl rfl rfl h38).trans rfl) ?_
                  obtain ⟨_, h43, rfl⟩ := hdep 6 (by decide) _ _ rfl rfl
                  obtain ⟨_, h46, rfl⟩ := hdep 9 (by decide) _ _ rfl rfl
                  clear hold hdep
                  unfold Oper.wp
                  go_simp
                  exact ⟨_, rfl, rfl, Later.refl _⟩
                | 11 =>
                  intro o ho
                  simp only [List.getElem?_toArray, List.getElem?_cons_zero, List.getElem?_cons_succ, Option.some.injEq] at ho
                  subst ho
                  intro a W hl hold hdep
                  refine ite_yes rfl ?_
                  obtain ⟨_, h38, rfl⟩ := hdep 1 (by decide) _ _ rfl rfl
                  obtain ⟨_, h47, rfl⟩ := hdep 10 (by decide) _ _ rfl rfl
                  clear hold hdep
                  unfold Oper.wp
                  go_simp
                  exact ⟨_, rfl, rfl, Later.refl _⟩
                | 12 =>
                  intro o ho
                  simp only [List.getElem?_toArray, List.getElem?_cons_zero, List.getElem?_cons_succ, Option.some.injEq] at ho
                  subst ho
                  intro a W hl hold hdep
                  refine ite_yes rfl ?_
                  obtain ⟨_, h48, rfl⟩ := hdep 11 (by decide) _ _ rfl rfl
                  clear hold hdep
                  unfold Oper.wp
                  go_simp
                  exact ⟨_, rfl, rfl, Later.refl _⟩
                | 13 =>
                  intro o ho
                  simp only [List.getElem?_toArray, List.getElem?_cons_zero, List.getElem?_cons_succ, Option.some.injEq] at ho
                  subst ho
                  intro a W hl hold hdep
                  obtain ⟨_, h49, rfl⟩ := hdep 12 (by decide) _ _ rfl rfl
                  refine ite_yes ((want_of rfl rfl rfl h49).trans rfl) ?_
                  have h2 : a.tmps[2]? = some (.pointer (some ⟨w.heap.size, 0, none⟩)) := hold 2 (free_of (by kernel_rfl))
                  clear hold hdep
                  exact wp_load_cfg D HZ.out W w.heap.size (HA.out.later hl) (.tmp 2) rfl (ev h2) ⟨_, rfl, rfl, Later.refl _⟩
                | 14 =>
                  intro o ho
                  simp only [List.getElem?_toArray, List.getElem?_cons_zero, List.getElem?_cons_succ, Option.some.injEq] at ho
                  subst ho
                  intro a W hl hold hdep
                  obtain ⟨_, h49, rfl⟩ := hdep 12 (by decide) _ _ rfl rfl
                  refine ite_yes ((want_of rfl rfl rfl h49).trans rfl) ?_
                  obtain ⟨_, h50, rfl⟩ := hdep 13 (by decide) _ _ rfl rfl
                  clear hold hdep
                  unfold Oper.wp
                  go_simp
                  refine (KO.out _ (gtrans HL.out hl) e1).mono ?_
                  rintro e w1 ⟨F, rfl, ho, hg1⟩
                  exact ⟨_, rfl, ⟨F, rfl, ho.is⟩, hg1⟩
                | 15 =>
                  intro o ho
                  simp only [List.getElem?_toArray, List.getElem?_cons_zero, List.getElem?_cons_succ, Option.some.injEq] at ho
                  subst ho
                  intro a W hl hold hdep
                  obtain ⟨_, h49, rfl⟩ := hdep 12 (by decide) _ _ rfl rfl
                  refine ite_yes ((want_of rfl rfl rfl h49).trans rfl) ?_
                  have h3 : a.tmps[3]? = some (.pointer (some ⟨w.heap.size + 1, 0, none⟩)) := hold 3 (free_of (by kernel_rfl))
                  clear hold hdep
                  exact wp_load_cfg E HY.out W (w.heap.size + 1) (HB.out.later hl) (.tmp 3) rfl (ev h3) ⟨_, rfl, rfl, Later.refl _⟩
                | 16 =>
                  intro o ho
                  simp only [List.getElem?_toArray, List.getElem?_cons_zero, List.getElem?_cons_succ, Option.some.injEq] at ho
                  subst ho
                  intro a W hl hold hdep
                  obtain ⟨_, h49, rfl⟩ := hdep 12 (by decide) _ _ rfl rfl
                  refine ite_yes ((want_of rfl rfl rfl h49).trans rfl) ?_
                  obtain ⟨_, h52, rfl⟩ := hdep 15 (by decide) _ _ rfl rfl
                  clear hold hdep
                  unfold Oper.wp
                  go_simp
                  refine (KP.out _ (gtrans HL.out hl) e2).mono ?_
                  rintro e w1 ⟨F, rfl, ho, hg1⟩
                  exact ⟨_, rfl, ⟨F, rfl, ho.is⟩, hg1⟩
                | 17 =>
                  intro o ho
                  simp only [List.getElem?_toArray, List.getElem?_cons_zero, List.getElem?_cons_succ, Option.some.injEq] at ho
                  subst ho
                  intro a W hl hold hdep
                  obtain ⟨_, h49, rfl⟩ := hdep 12 (by decide) _ _ rfl rfl
                  refine ite_yes ((want_of rfl rfl rfl h49).trans rfl) ?_
                  obtain ⟨_, h51, ⟨F51, rfl, hF51⟩⟩ := hdep 14 (by decide) _ _ rfl rfl
                  obtain ⟨_, h53, ⟨F53, rfl, hF53⟩⟩ := hdep 16 (by decide) _ _ rfl rfl
                  clear hold hdep
                  unfold Oper.wp
                  go_simp
                  refine (KG.out _ _ _ hF51 hF53).mono ?_
                  rintro e w1 ⟨rfl, hg1⟩
                  exact ⟨_, rfl, rfl, hg1⟩
                | 18 =>
                  intro o ho
                  simp only [List.getElem?_toArray, List.getElem?_cons_zero, List.getElem?_cons_succ, Option.some.injEq] at ho
                  subst ho
                  intro a W hl hold hdep
                  obtain ⟨_, h49, rfl⟩ := hdep 12 (by decide) _ _ rfl rfl
                  refine ite_yes ((want_of rfl rfl rfl h49).trans rfl) ?_
                  have h5 : a.tmps[5]? = some (.bool true) := hold 5 (free_of (by kernel_rfl))
                  clear hold hdep
                  unfold Oper.wp
                  go_simp
                  exact ⟨_, rfl, rfl, Later.refl _⟩
                | 19 =>
                  intro o ho
                  simp only [List.getElem?_toArray, List.getElem?_cons_zero, List.getElem?_cons_succ, Option.some.injEq] at ho
                  subst ho
                  intro a W hl hold hdep
                  obtain ⟨_, h49, rfl⟩ := hdep 12 (by decide) _ _ rfl rfl
                  refine ite_yes ((want_of rfl rfl rfl h49).trans rfl) ?_
                  obtain ⟨_, h54, rfl⟩ := hdep 17 (by decide) _ _ rfl rfl
                  obtain ⟨_, h55, rfl⟩ := hdep 18 (by decide) _ _ rfl rfl
                  clear hold hdep
                  unfold Oper.wp
                  go_simp
                  exact ⟨_, rfl, rfl, Later.refl _⟩
                | 20 =>
                  intro o ho
                  simp only [List.getElem?_toArray, List.getElem?_cons_zero, List.getElem?_cons_succ, Option.some.injEq] at ho
                  subst ho
                  intro a W hl hold hdep
                  refine ite_yes rfl ?_
                  obtain ⟨_, h49, rfl⟩ := hdep 12 (by decide) _ _ rfl rfl
                  obtain ⟨_, h56, rfl⟩ := hdep 19 (by decide) _ _ rfl rfl
                  clear hold hdep
                  unfold Oper.wp
                  go_simp
                  exact ⟨_, rfl, rfl, Later.refl _⟩
                | 21 =>
                  intro o ho
                  simp only [List.getElem?_toArray, List.getElem?_cons_zero, List.getElem?_cons_succ, Option.some.injEq] at ho
                  subst ho
                  intro a W hl hold hdep
                  refine ite_yes rfl ?_
                  obtain ⟨_, h57, rfl⟩ := hdep 20 (by decide) _ _ rfl rfl
                  clear hold hdep
                  unfold Oper.wp
                  go_simp
                  exact ⟨_, rfl, rfl, Later.refl _⟩
                | k + 22 => exact absurd hi (by simp)
              · intro a W hl hd hz hold hall
                obtain ⟨_, k4, rfl⟩ := hall 21 _ _ rfl rfl
                have ha := act_eta a 58 [] hz hd
                rw [show (List.range 58).map (fun s => a.tmps.getD s undef) = [a.tmps.getD 0 undef, a.tmps.getD 1 undef, a.tmps.getD 2 undef, a.tmps.getD 3 undef, a.tmps.getD 4 undef, a.tmps.getD 5 undef, a.tmps.getD 6 undef, a.tmps.getD 7 undef, a.tmps.getD 8 undef, a.tmps.getD 9 undef, a.tmps.getD 10 undef, a.tmps.getD 11 undef, a.tmps.getD 12 undef, a.tmps.getD 13 undef, a.tmps.getD 14 undef, a.tmps.getD 15 undef, a.tmps.getD 16 undef, a.tmps.getD 17 undef, a.tmps.getD 18 undef, a.tmps.getD 19 undef, a.tmps.getD 20 undef, a.tmps.getD 21 undef, a.tmps.getD 22 undef, a.tmps.getD 23 undef, a.tmps.getD 24 undef, a.tmps.getD 25 undef, a.tmps.getD 26 undef, a.tmps.getD 27 undef, a.tmps.getD 28 undef, a.tmps.getD 29 undef, a.tmps.getD 30 undef, a.tmps.getD 31 undef, a.tmps.getD 32 undef, a.tmps.getD 33 undef, a.tmps.getD 34 undef, a.tmps.getD 35 undef, a.tmps.getD 36 undef, a.tmps.getD 37 undef, a.tmps.getD 38 undef, a.tmps.getD 39 undef, a.tmps.getD 40 undef, a.tmps.getD 41 undef, a.tmps.getD 42 undef, a.tmps.getD 43 undef, a.tmps.getD 44 undef, a.tmps.getD 45 undef, a.tmps.getD 46 undef, a.tmps.getD 47 undef, a.tmps.getD 48 undef, a.tmps.getD 49 undef, a.tmps.getD 50 undef, a.tmps.getD 51 undef, a.tmps.getD 52 undef, a.tmps.getD 53 undef, a.tmps.getD 54 undef, a.tmps.getD 55 undef, a.tmps.getD 56 undef, a.tmps.getD 57 undef] from rfl, getD_of k4] at ha
                rw [ha]
                clear hall hold hz hd ha k4
                generalize a.tmps.getD 0 undef = x0
                generalize a.tmps.getD 1 undef = x1
                generalize a.tmps.getD 2 undef = x2
                generalize a.tmps.getD 3 undef = x3
                generalize a.tmps.getD 5 undef = x5
                generalize a.tmps.getD 6 undef = x6
                generalize a.tmps.getD 7 undef = x7
                generalize a.tmps.getD 8 undef = x8
                generalize a.tmps.getD 9 undef = x9
                generalize a.tmps.getD 10 undef = x10
                generalize a.tmps.getD 11 undef = x11
                generalize a.tmps.getD 12 undef = x12
                generalize a.tmps.getD 13 undef = x13
                generalize a.tmps.getD 14 undef = x14
                generalize a.tmps.getD 15 undef = x15
                generalize a.tmps.getD 16 undef = x16
                generalize a.tmps.getD 17 undef = x17
                generalize a.tmps.getD 18 undef = x18
                generalize a.tmps.getD 19 undef = x19
                generalize a.tmps.getD 20 undef = x20
                generalize a.tmps.getD 21 undef = x21
                generalize a.tmps.getD 22 undef = x22
                generalize a.tmps.getD 23 undef = x23
                generalize a.tmps.getD 24 undef = x24
                generalize a.tmps.getD 25 undef = x25
                generalize a.tmps.getD 26 undef = x26
                generalize a.tmps.getD 27 undef = x27
                generalize a.tmps.getD 28 undef = x28
                generalize a.tmps.getD 29 undef = x29
                generalize a.tmps.getD 30 undef = x30
                generalize a.tmps.getD 31 undef = x31
                generalize a.tmps.getD 32 undef = x32
                generalize a.tmps.getD 33 undef = x33
                generalize a.tmps.getD 34 undef = x34
                generalize a.tmps.getD 35 undef = x35
                generalize a.tmps.getD 36 undef = x36
                generalize a.tmps.getD 37 undef = x37
                generalize a.tmps.getD 38 undef = x38
                generalize a.tmps.getD 39 undef = x39
                generalize a.tmps.getD 40 undef = x40
                generalize a.tmps.getD 41 undef = x41
                generalize a.tmps.getD 42 undef = x42
                generalize a.tmps.getD 43 undef = x43
                generalize a.tmps.getD 44 undef = x44
                generalize a.tmps.getD 45 undef = x45
                generalize a.tmps.getD 46 undef = x46
                generalize a.tmps.getD 47 undef = x47
                generalize a.tmps.getD 48 undef = x48
                generalize a.tmps.getD 49 undef = x49
                generalize a.tmps.getD 50 undef = x50
                generalize a.tmps.getD 51 undef = x51
                generalize a.tmps.getD 52 undef = x52
                generalize a.tmps.getD 53 undef = x53
                generalize a.tmps.getD 54 undef = x54
                generalize a.tmps.getD 55 undef = x55
                generalize a.tmps.getD 56 undef = x56
                generalize a.tmps.getD 57 undef = x57
                have HW := Lib.hid (gtrans HL.out hl)
                clear hl
                go_wp2_with fail
                go_ret
                exact ⟨rfl, HW.out⟩

end Go.Proofs.Ythbgllbbliijlaa.Conf
