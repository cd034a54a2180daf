/-
  With a window less a configuration may be, and cars go on; with one stop alone it may not. No condition but those that each theorem states.
-/
import Derived.Test.YthbgllbbliijlaaDp
namespace Go.Proofs.Ythbgllbbliijlaa.Conf
open Go.ChangeShapes Go.WideShapes Go.ChangeAt Go.RowKit
open Go.Proofs.Ythbgllbbliijlaa.Divs Go.Proofs.Ythbgllbbliijlaa.Grow Go.Proofs.Ythbgllbbliijlaa.Zone
open Go.Proofs.Ythbgllbbliijlaa.By (Sk SL bool_no bool_yes)
open Go.Proofs.Ythbgllbbliijlaa.Each
open Go.Proofs.Ythbgllbbliijlaa.Zo Go.Proofs.Ythbgllbbliijlaa.Su Go.Proofs.Ythbgllbbliijlaa.Cf

theorem Is.wins' {W : World} {D : Array Value} {c : Cg} (h : Is W D c) : ∃ ad cap, D[36]? = some (.slice ad c.ws.length cap) := by
  obtain ⟨u, v, rfl, hu, hv⟩ := h
  obtain ⟨ad, cap, rfl, h1, h2⟩ := wk_form hv
  exact ⟨ad, cap, rfl⟩

theorem one_stop (c : Cg) (g : ce c = 0) : ce (ct c (c.st.take 1)) = 101 :=
  ce_stop c _ ((ce_ok _).mp g).1 (by rw [List.length_take]; exact Nat.lt_of_le_of_lt (Nat.min_le_left _ _) (by decide))

theorem cut_check {W : World} {E : Array Value} {c : Cg} (h : Is W E (ct c (c.st.take 1))) (g : ce c = 0) : Calls Try.prog 12 #[.agg E] W fun e w' => e = .returned (.int .i64 101) ∧ Later W w' := by
  have := check_of h
  rwa [one_stop c g] at this

theorem cut_fits {W : World} {D E : Array Value} {d c : Cg} (hd : Is W D d) (h : Is W E (ct c (c.st.take 1))) (g : ce c = 0) : Calls Try.prog 18 #[.agg D, .agg E] W fun e w' => e = .returned (.bool false) ∧ Later W w' := by
  have := fits_of hd h
  rwa [ft_not _ _ (by rw [one_stop c g]; decide)] at this

def FV (w : World) (D G : Array Value) (ad : Option Addr) (k n cap : Nat) (b : Bool) : Nat → Value → World → Prop
  | 0, v, _ => v = .agg G
  | 1, v, _ => v = .int .i64 0
  | 2, v, _ => v = .bool false
  | 3, v, _ => v = .bool false
  | 4, v, _ => v = .agg D
  | 5, v, _ => v = .agg G
  | 6, v, _ => v = .bool true
  | 7, v, _ => v = .bool false
  | 8, v, _ => v = .bool false
  | 9, v, _ => v = .bool false
  | 10, v, _ => v = .agg D
  | 11, v, _ => v = .agg G
  | 12, v, _ => v = .bool b
  | 13, v, _ => v = .int .i64 (k : Int)
  | 14, v, _ => v = .pointer (some ⟨w.heap.size, 36, none⟩)
  | 15, v, _ => v = .slice ad n cap
  | 16, v, _ => v = .int .i64 (n : Int)
  | 17, v, _ => v = .bool b
  | 18, v, _ => v = .bool false
  | 19, v, _ => v = .bool false
  | _, _, _ => True

theorem FV.later (w : World) (D G : Array Value) (ad : Option Addr) (k n cap : Nat) (b : Bool) (i : Nat) (v : Value) (W W' : World) (h : FV w D G ad k n cap b i v W) (_g : Later W W') : FV w D G ad k n cap b i v W' := by
  unfold FV at *
  split at h <;> try exact h

set_option maxHeartbeats 8000000 in
theorem fewer_core (w : World) (D : Array Value) (c : Cg) (hc : Is w D c) (a : Int) (_ha : -9223372036854775808 ≤ a ∧ a ≤ 9223372036854775807) : Calls Try.prog 6 #[.agg D, .int .i64 a] w fun e w' => e = .returned (.bool true) ∧ Later w w' := by
  have KF := Lib.hid (fun W (g : Later w W) => few_of (hc.later g))
  have KO := Lib.hid (fun W (g : Later w W) hf => own_of (hc.later g) hf)
  have KC := Lib.hid (fun W E (h : Is W E c) => check_of h)
  have KX := Lib.hid (fun l W E (h : Is W E (cw c l)) => check_of h)
  have KY := Lib.hid (fun l W E (g : Later w W) (h : Is W E (cw c l)) => fits_of (hc.later g) h)
  have KZ := Lib.hid (fun l W E (g : Later w W) (h : Is W E (cw c l)) => by have := same_of (hc.later g) h; rwa [same_cw] at this)
  have KV := Lib.hid (fun l W E (g : Later w W) (h : Is W E (ct (cw c l) ((cw c l).st.take 1))) h0 => cut_fits (hc.later g) h h0)
  have KA := Lib.hid awake_any
  have HZ := Lib.hid hc.size
  have HL0 := Lib.hid ((Later.refl w).alloc D 33)
  have HA0 := Lib.hid (At.new w D 33)
  obtain ⟨ad, cap, d36⟩ := hc.wins'
  have D36 := Lib.hid d36
  clear hc d36
  go_enter Try.func6, Try.ntmps6
  go_wp2_with (refine load_at D HZ.out rfl (.tmp 2) rfl w.heap.size rfl HA0.out ?_)
  refine (KF.out _ HL0.out).mono ?_
  rintro e w1 ⟨rfl, hg1⟩
  have HL1 := Lib.hid (gtrans HL0.out hg1)
  have HA1 := Lib.hid (HA0.out.later hg1)
  clear hg1 HA0
  cases e1 : fw c with
  | false =>
    go_wp2_with fail
    refine (KA.out _).mono ?_
    rintro e w2 ⟨rfl, hg2⟩
    have HL2 := Lib.hid (gtrans HL1.out hg2)
    clear hg2
    go_wp2_with fail
    go_ret
    exact ⟨rfl, HL2.out⟩
  | true =>
    have HT := Lib.hid ((fw_iff c).mp e1)
    go_wp2_with (refine load_in D HZ.out (by rfl) (.tmp 2) rfl w.heap.size rfl HA1.out ?_)
    refine (KO.out _ HL1.out e1).mono ?_
    rintro e w2 ⟨E, rfl, ho, hg2⟩
    have HL2 := Lib.hid (gtrans HL1.out hg2)
    have HA2 := Lib.hid (HA1.out.later hg2)
    have HI := Lib.hid ho.is
    clear hg2 ho HA1
    go_wp2_with fail
    refine (KC.out _ _ HI.out).mono ?_
    rintro e w3 ⟨rfl, hg3⟩
    have HL3 := Lib.hid (gtrans HL2.out hg3)
    have HA3 := Lib.hid (HA2.out.later hg3)
    clear hg3 HI HA2
    cases e2 : (ce c == 0) with
    | false =>
      have e2' : (ce c != 0) = true := by rw [bne, e2]; rfl
      go_wp2_with fail
      refine (KA.out _).mono ?_
      rintro e w4 ⟨rfl, hg4⟩
      have HL4 := Lib.hid (gtrans HL3.out hg4)
      clear hg4
      go_wp2_with fail
      go_ret
      exact ⟨rfl, HL4.out⟩
    | true =>
      have e2' : (ce c != 0) = false := by rw [bne, e2]; rfl
      have h0 : ce c = 0 := by simpa using e2
      have HH := Lib.hid h0
      clear h0
      by_cases hn : a < 0
      · have e3 : decide (a < 0) = true := by simpa using hn
        clear hn
        go_wp2_with fail
        refine (KA.out _).mono ?_
        rintro e w4 ⟨rfl, hg4⟩
        have HL4 := Lib.hid (gtrans HL3.out hg4)
        clear hg4
        go_wp2_with fail
        go_ret
        exact ⟨rfl, HL4.out⟩
      · obtain ⟨k, rfl⟩ : ∃ k : Nat, a = (k : Int) := ⟨a.toNat, by omega⟩
        have e3 : decide ((k : Int) < 0) = false := by simp
        clear hn
        have HS2 := Lib.hid ((to_iff c).mp ((ce_ok c).mp HH.out).2.1).1
        obtain ⟨n, hn⟩ : ∃ n, c.ws.length = n := ⟨_, rfl⟩
        rw [hn] at D36
        have Hn := Lib.hid hn
        clear hn
        go_wp2_with (refine load_at D HZ.out rfl (.tmp 2) rfl w.heap.size rfl HA3.out ?_)
        refine (KO.out _ HL3.out e1).mono ?_
        rintro e w4 ⟨F, rfl, ho, hg4⟩
        have HL4 := Lib.hid (gtrans HL3.out hg4)
        have HA4 := Lib.hid (HA3.out.later hg4)
        have HSZ := Lib.hid hg4.size
        have HG4 := Lib.hid hg4
        have F37 := Lib.hid ho.is.size
        have F1 := Lib.hid ho.is.one
        have HO4 := Lib.hid ho
        clear hg4 ho
        by_cases hk : k < n
        · have e4 : decide ((k : Int) < (n : Int)) = true := by simpa using hk
          go_wp2_with (refine store_row rfl (.tmp 5) (.tmp 21) rfl w4.heap.size rfl F F37.out F1.out rfl _ rfl (Row.new _ _ _) w4 ((Later.refl _).alloc _ _) (Nat.le_refl _) ?_; intro W5 hR5 hL5 _; have c36 := HA4.out.later hL5 36 _ D36.out; have HR5 := Lib.hid hR5; have HL5 := Lib.hid hL5; clear hR5 hL5)
          obtain ⟨l, hl⟩ : ∃ l, l = c.ws.take k ++ c.ws.drop (k + 1) := ⟨_, rfl⟩
          obtain ⟨u, v, hF, hs, hw⟩ := HO4.out.later HL5.out
          obtain ⟨g, q, rfl, hq1, hq2, hcut, hcell⟩ := hw.cuts (by rw [Hn.out]; omega)
          rw [Hn.out] at hF hw hq1
          have F36 : F[36]? = some (.slice (some ⟨g, 0, none⟩) n q) := by rw [hF]; rfl
          have HLn : Hid (l.length + 1 = n) := Lib.hid (by rw [hl, List.length_append, List.length_take, List.length_drop, Hn.out]; omega)
          have a36 : W5.drew.cell? ⟨w4.heap.size, 36, none⟩ = _ := HR5.out.cell 36 F36
          obtain ⟨A, hA, hnews⟩ : ∃ A : Addr, (if q = k + 1 then some (⟨g, 0, none⟩ : Addr) else some ⟨g, (k + 1) * 7, none⟩) = some A ∧ Hid (∀ j u, (fl (c.ws.drop (k + 1)))[j]? = some u → W5.drew.cell? (A.add j) = some u) := by
            by_cases h : q = k + 1
            · refine ⟨⟨g, 0, none⟩, by simp [h], fun j u hu => ?_⟩
              have : c.ws.drop (k + 1) = [] := List.drop_of_length_le (by rw [Hn.out]; omega)
              rw [this] at hu
              simp [fl] at hu
            · refine ⟨⟨g, (k + 1) * 7, none⟩, by simp [h], fun j u hu => ?_⟩
              rw [Addr.add_lit]
              exact hcell _ _ (fl_rest _ _ _ _ hu)
          have hwr : IntKind.i64.wrap ((k : Int) + 1) = (k : Int) + 1 := by rw [IntKind.wrap_i64]; omega
          have hp0 : (0 : Int) ≤ (k : Int) + 1 := by omega
          have hp1 : (k : Int) + 1 ≤ (n : Int) := by omega
          have hp2 : ((k : Int) + 1).toNat = k + 1 := by omega
          have hp3 : k ≤ q := by omega
          have HC1 := Lib.hid (hcut k (by rw [Hn.out]; omega))
          have HDN := Lib.hid (fun (W' : World) (v' : Value) (h1 : WL W' w3.heap.size v' l) (h2 : W5.drew.grownBy W' (some g)) => append_done (W := W5.drew) (v := .slice (some ⟨g, 0, none⟩) n q) hF hs hw HR5.out (gtrans HG4.out HL5.out) rfl HSZ.out h1 h2)
          have HLd := Lib.hid hl
          have HN1 : Hid ((c.ws.drop (k + 1)).length = n - (k + 1)) := Lib.hid (by rw [List.length_drop, Hn.out])
          have HN2 : Hid ((c.ws.take k).length + (c.ws.drop (k + 1)).length ≤ 100000) := Lib.hid (by have := HT.out.2; rw [List.length_take, List.length_drop]; omega)
          clear hl hF hs hw hcut hcell
          go_region_law (refine step_append_wins rfl (.tmp 30) (.tmp 35) rfl w3.heap.size (.slice (some ⟨g, 0, none⟩) k q) A (n - (k + 1)) (q - (k + 1)) (c.ws.take k) (c.ws.drop (k + 1)) (by simp [Act.eval, Act.put]) (by simp [Act.eval, Act.put]) HC1.out hnews.out HN1.out HN2.out (gtrans HG4.out HL5.out).size ?_; intro v' w6 hv6 hg6; rw [← HLd.out] at hv6; obtain ⟨d3, q3, rfl, _, _⟩ := wk_form (WL.wk hv6); obtain ⟨hR6, hR7, hO7, hL7⟩ := HDN.out w6 _ hv6 hg6; have b36 := hR6.cell 36 F36; have z36 := hR6.frozen 36; have HR7 := Lib.hid hR7; have HO7 := Lib.hid hO7; have HL7 := Lib.hid hL7; clear hR6 hR7 hO7 hL7 hv6 hg6)
          all_goals
            clear a36 c36 hwr hp0 hp1 hp2 hp3 b36 z36 HC1 HDN hnews hA
            generalize w6.setCell ⟨w4.heap.size, 36, none⟩ (.slice d3 l.length q3) = W7 at *
            generalize F.setIfInBounds 36 (.slice d3 l.length q3) = G at *
            have HO := Lib.hid HO7.out
            have HR := Lib.hid HR7.out
            have HL := Lib.hid (gtrans HL3.out HL7.out)
            have HA := Lib.hid (HA3.out.later HL7.out)
            have G37 := Lib.hid HO.out.is.size
            have HC : Hid (ce (cw c l) = 0) := Lib.hid (ce_less c l HH.out (by have := HLn.out; rw [Hn.out]; omega) (fun x hx => by rw [HLd.out, List.mem_append] at hx; rcases hx with h | h; exact List.mem_of_mem_take h; exact List.mem_of_mem_drop h))
            have HGE : Hid (decide (n ≤ k) = false) := Lib.hid (by simpa using hk)
            have KL : Hid (∀ W E, Is W E (cw c l) → Calls Try.prog 12 #[.agg E] W fun e w' => e = .returned (.int .i64 0) ∧ Later W w') := Lib.hid (fun W E h => by have := KX.out l W E h; rwa [HC.out] at this)
            have KG : Hid (∀ W E, Later w W → Is W E (cw c l) → Calls Try.prog 18 #[.agg D, .agg E] W fun e w' => e = .returned (.bool true) ∧ Later W w') := Lib.hid (fun W E g h => by have := KY.out l W E g h; rwa [ft_cw c l HH.out HC.out] at this)
            have KS : Hid (∀ W E, Later w W → Is W E (cw c l) → Calls Try.prog 16 #[.agg D, .agg E] W fun e w' => e = .returned (.bool false) ∧ Later W w') := Lib.hid (fun W E g h => by have := KZ.out l W E g h; rwa [show decide (c.ws = l) = false by exact decide_eq_false (fun e => by have := HLn.out; rw [← e, Hn.out] at this; omega)] at this)
            have HLG := Lib.hid HL7.out
            clear HO7 HR7 HL7 HL4 HA4 HO4
            go_wp2_with fail
            refine region_each (FV w D G ad k n cap false) (by kernel_rfl) (by kernel_rfl) (FV.later w D G ad k n cap false) ?_ ?_
            · intro i hi
              match i with
              | 0 =>
                intro o ho
                simp only [List.getElem?_toArray, List.getElem?_cons_zero, Option.some.injEq] at ho
                subst ho
                intro a W hl hold hdep
                refine ite_yes rfl ?_
                have h5 : a.tmps[5]? = some (.pointer (some ⟨w4.heap.size, 0, none⟩)) := hold 5 (free_of (by kernel_rfl))
                clear hold hdep
                exact wp_load_cfg G G37.out W w4.heap.size (HR.out.at.later hl) (.tmp 5) rfl (ev h5) ⟨_, rfl, rfl, Later.refl _⟩
              | 1 =>
                intro o ho
                simp only [List.getElem?_toArray, List.getElem?_cons_zero, List.getElem?_cons_succ, Option.some.injEq] at ho
                subst ho
                intro a W hl hold hdep
                refine ite_yes rfl ?_
                obtain ⟨_, h38, rfl⟩ := hdep 0 (by decide) _ _ rfl rfl
                clear hold hdep
                unfold Oper.wp
                go_simp
                refine (KL.out _ _ (HO.out.is.later hl)).mono ?_
                rintro e w1 ⟨rfl, hg1⟩
                exact ⟨_, rfl, rfl, hg1⟩
              | 2 =>
                intro o ho
                simp only [List.getElem?_toArray, List.getElem?_cons_zero, List.getElem?_cons_succ, Option.some.injEq] at ho
                subst ho
                intro a W hl hold hdep
                refine ite_yes rfl ?_
                obtain ⟨_, h39, rfl⟩ := hdep 1 (by decide) _ _ rfl rfl
                clear hold hdep
                unfold Oper.wp
                go_simp
                exact ⟨_, rfl, rfl, Later.refl _⟩
              | 3 =>
                intro o ho
                simp only [List.getElem?_toArray, List.getElem?_cons_zero, List.getElem?_cons_succ, Option.some.injEq] at ho
                subst ho
                intro a W hl hold hdep
                refine ite_yes rfl ?_
                obtain ⟨_, h40, rfl⟩ := hdep 2 (by decide) _ _ rfl rfl
                clear hold hdep
                unfold Oper.wp
                go_simp
                exact ⟨_, rfl, rfl, Later.refl _⟩
              | 4 =>
                intro o ho
                simp only [List.getElem?_toArray, List.getElem?_cons_zero, List.getElem?_cons_succ, Option.some.injEq] at ho
                subst ho
                intro a W hl hold hdep
                obtain ⟨_, h41, rfl⟩ := hdep 3 (by decide) _ _ rfl rfl
                refine ite_yes ((want_of rfl rfl rfl h41).trans rfl) ?_
                have h2 : a.tmps[2]? = some (.pointer (some ⟨w.heap.size, 0, none⟩)) := hold 2 (free_of (by kernel_rfl))
                clear hold hdep
                exact wp_load_cfg D HZ.out W w.heap.size (HA.out.later hl) (.tmp 2) rfl (ev h2) ⟨_, rfl, rfl, Later.refl _⟩
              | 5 =>
                intro o ho
                simp only [List.getElem?_toArray, List.getElem?_cons_zero, List.getElem?_cons_succ, Option.some.injEq] at ho
                subst ho
                intro a W hl hold hdep
                obtain ⟨_, h41, rfl⟩ := hdep 3 (by decide) _ _ rfl rfl
                refine ite_yes ((want_of rfl rfl rfl h41).trans rfl) ?_
                have h5 : a.tmps[5]? = some (.pointer (some ⟨w4.heap.size, 0, none⟩)) := hold 5 (free_of (by kernel_rfl))
                clear hold hdep
                exact wp_load_cfg G G37.out W w4.heap.size (HR.out.at.later hl) (.tmp 5) rfl (ev h5) ⟨_, rfl, rfl, Later.refl _⟩
              | 6 =>
                intro o ho
                simp only [List.getElem?_toArray, List.getElem?_cons_zero, List.getElem?_cons_succ, Option.some.injEq] at ho
                subst ho
                intro a W hl hold hdep
                obtain ⟨_, h41, rfl⟩ := hdep 3 (by decide) _ _ rfl rfl
                refine ite_yes ((want_of rfl rfl rfl h41).trans rfl) ?_
                obtain ⟨_, h42, rfl⟩ := hdep 4 (by decide) _ _ rfl rfl
                obtain ⟨_, h43, rfl⟩ := hdep 5 (by decide) _ _ rfl rfl
                clear hold hdep
                unfold Oper.wp
                go_simp
                refine (KG.out _ _ (gtrans HL.out hl) (HO.out.is.later hl)).mono ?_
                rintro e w1 ⟨rfl, hg1⟩
                exact ⟨_, rfl, rfl, hg1⟩
              | 7 =>
                intro o ho
                simp only [List.getElem?_toArray, List.getElem?_cons_zero, List.getElem?_cons_succ, Option.some.injEq] at ho
                subst ho
                intro a W hl hold hdep
                obtain ⟨_, h41, rfl⟩ := hdep 3 (by decide) _ _ rfl rfl
                refine ite_yes ((want_of rfl rfl rfl h41).trans rfl) ?_
                obtain ⟨_, h44, rfl⟩ := hdep 6 (by decide) _ _ rfl rfl
                clear hold hdep
                unfold Oper.wp
                go_simp
                exact ⟨_, rfl, rfl, Later.refl _⟩
              | 8 =>
                intro o ho
                simp only [List.getElem?_toArray, List.getElem?_cons_zero, List.getElem?_cons_succ, Option.some.injEq] at ho
                subst ho
                intro a W hl hold hdep
                refine ite_yes rfl ?_
                obtain ⟨_, h41, rfl⟩ := hdep 3 (by decide) _ _ rfl rfl
                obtain ⟨_, h45, rfl⟩ := hdep 7 (by decide) _ _ rfl rfl
                clear hold hdep
                unfold Oper.wp
                go_simp
                exact ⟨_, rfl, rfl, Later.refl _⟩
              | 9 =>
                intro o ho
                simp only [List.getElem?_toArray, List.getElem?_cons_zero, List.getElem?_cons_succ, Option.some.injEq] at ho
                subst ho
                intro a W hl hold hdep
                refine ite_yes rfl ?_
                obtain ⟨_, h46, rfl⟩ := hdep 8 (by decide) _ _ rfl rfl
                clear hold hdep
                unfold Oper.wp
                go_simp
                exact ⟨_, rfl, rfl, Later.refl _⟩
              | 10 =>
                intro o ho
                simp only [List.getElem?_toArray, List.getElem?_cons_zero, List.getElem?_cons_succ, Option.some.injEq] at ho
                subst ho
                intro a W hl hold hdep
                obtain ⟨_, h47, rfl⟩ := hdep 9 (by decide) _ _ rfl rfl
                refine ite_yes ((want_of rfl rfl rfl h47).trans rfl) ?_
                have h2 : a.tmps[2]? = some (.pointer (some ⟨w.heap.size, 0, none⟩)) := hold 2 (free_of (by kernel_rfl))
                clear hold hdep
                exact wp_load_cfg D HZ.out W w.heap.size (HA.out.later hl) (.tmp 2) rfl (ev h2) ⟨_, rfl, rfl, Later.refl _⟩
              | 11 =>
                intro o ho
                simp only [List.getElem?_toArray, List.getElem?_cons_zero, List.getElem?_cons_succ, Option.some.injEq] at ho
                subst ho
                intro a W hl hold hdep
                obtain ⟨_, h47, rfl⟩ := hdep 9 (by decide) _ _ rfl rfl
                refine ite_yes ((want_of rfl rfl rfl h47).trans rfl) ?_
                have h5 : a.tmps[5]? = some (.pointer (some ⟨w4.heap.size, 0, none⟩)) := hold 5 (free_of (by kernel_rfl))
                clear hold hdep
                exact wp_load_cfg G G37.out W w4.heap.size (HR.out.at.later hl) (.tmp 5) rfl (ev h5) ⟨_, rfl, rfl, Later.refl _⟩
              | 12 =>
                intro o ho
                simp only [List.getElem?_toArray, List.getElem?_cons_zero, List.getElem?_cons_succ, Option.some.injEq] at ho
                subst ho
                intro a W hl hold hdep
                obtain ⟨_, h47, rfl⟩ := hdep 9 (by decide) _ _ rfl rfl
                refine ite_yes ((want_of rfl rfl rfl h47).trans rfl) ?_
                obtain ⟨_, h48, rfl⟩ := hdep 10 (by decide) _ _ rfl rfl
                obtain ⟨_, h49, rfl⟩ := hdep 11 (by decide) _ _ rfl rfl
                clear hold hdep
                unfold Oper.wp
                go_simp
                refine (KS.out _ _ (gtrans HL.out hl) (HO.out.is.later hl)).mono ?_
                rintro e w1 ⟨rfl, hg1⟩
                exact ⟨_, rfl, rfl, hg1⟩
              | 13 =>
                intro o ho
                simp only [List.getElem?_toArray, List.getElem?_cons_zero, List.getElem?_cons_succ, Option.some.injEq] at ho
                subst ho
                intro a W hl hold hdep
                obtain ⟨_, h47, rfl⟩ := hdep 9 (by decide) _ _ rfl rfl
                refine ite_yes ((want_of rfl rfl rfl h47).trans rfl) ?_
                have h1 : a.tmps[1]? = some (.int .i64 (k : Int)) := hold 1 (free_of (by kernel_rfl))
                clear hold hdep
                unfold Oper.wp
                go_simp
                exact ⟨_, rfl, rfl, Later.refl _⟩
              | 14 =>
                intro o ho
                simp only [List.getElem?_toArray, List.getElem?_cons_zero, List.getElem?_cons_succ, Option.some.injEq] at ho
                subst ho
                intro a W hl hold hdep
                obtain ⟨_, h47, rfl⟩ := hdep 9 (by decide) _ _ rfl rfl
                refine ite_yes ((want_of rfl rfl rfl h47).trans rfl) ?_
                have h2 : a.tmps[2]? = some (.pointer (some ⟨w.heap.size, 0, none⟩)) := hold 2 (free_of (by kernel_rfl))
                clear hold hdep
                unfold Oper.wp
                go_simp
                exact ⟨_, rfl, rfl, Later.refl _⟩
              | 15 =>
                intro o ho
                simp only [List.getElem?_toArray, List.getElem?_cons_zero, List.getElem?_cons_succ, Option.some.injEq] at ho
                subst ho
                intro a W hl hold hdep
                obtain ⟨_, h47, rfl⟩ := hdep 9 (by decide) _ _ rfl rfl
                refine ite_yes ((want_of rfl rfl rfl h47).trans rfl) ?_
                obtain ⟨_, h52, rfl⟩ := hdep 14 (by decide) _ _ rfl rfl
                have e0 := HA.out.later hl 36 _ D36.out
                clear hold hdep
                unfold Oper.wp
                go_simp
                exact ⟨_, rfl, rfl, Later.refl _⟩
              | 16 =>
                intro o ho
                simp only [List.getElem?_toArray, List.getElem?_cons_zero, List.getElem?_cons_succ, Option.some.injEq] at ho
                subst ho
                intro a W hl hold hdep
                obtain ⟨_, h47, rfl⟩ := hdep 9 (by decide) _ _ rfl rfl
                refine ite_yes ((want_of rfl rfl rfl h47).trans rfl) ?_
                obtain ⟨_, h53, rfl⟩ := hdep 15 (by decide) _ _ rfl rfl
                clear hold hdep
                unfold Oper.wp
                go_simp
                exact ⟨_, rfl, rfl, Later.refl _⟩
              | 17 =>
                intro o ho
                simp only [List.getElem?_toArray, List.getElem?_cons_zero, List.getElem?_cons_succ, Option.some.injEq] at ho
                subst ho
                intro a W hl hold hdep
                obtain ⟨_, h47, rfl⟩ := hdep 9 (by decide) _ _ rfl rfl
                refine ite_yes ((want_of rfl rfl rfl h47).trans rfl) ?_
                obtain ⟨_, h51, rfl⟩ := hdep 13 (by decide) _ _ rfl rfl
                obtain ⟨_, h54, rfl⟩ := hdep 16 (by decide) _ _ rfl rfl
                have e0 := HGE.out
                clear hold hdep
                unfold Oper.wp
                go_simp
                exact ⟨_, rfl, rfl, Later.refl _⟩
              | 18 =>
                intro o ho
                simp only [List.getElem?_toArray, List.getElem?_cons_zero, List.getElem?_cons_succ, Option.some.injEq] at ho
                subst ho
                intro a W hl hold hdep
                obtain ⟨_, h47, rfl⟩ := hdep 9 (by decide) _ _ rfl rfl
                refine ite_yes ((want_of rfl rfl rfl h47).trans rfl) ?_
                obtain ⟨_, h50, rfl⟩ := hdep 12 (by decide) _ _ rfl rfl
                obtain ⟨_, h55, rfl⟩ := hdep 17 (by decide) _ _ rfl rfl
                clear hold hdep
                unfold Oper.wp
                go_simp
                exact ⟨_, rfl, rfl, Later.refl _⟩
              | 19 =>
                intro o ho
                simp only [List.getElem?_toArray, List.getElem?_cons_zero, List.getElem?_cons_succ, Option.some.injEq] at ho
                subst ho
                intro a W hl hold hdep
                refine ite_yes rfl ?_
                obtain ⟨_, h47, rfl⟩ := hdep 9 (by decide) _ _ rfl rfl
                obtain ⟨_, h56, rfl⟩ := hdep 18 (by decide) _ _ rfl rfl
                clear hold hdep
                unfold Oper.wp
                go_simp
                exact ⟨_, rfl, rfl, Later.refl _⟩
              | k + 20 => exact absurd hi (by simp)
            · intro a W hl hd hz hold hall
              obtain ⟨_, k57, rfl⟩ := hall 19 _ _ rfl rfl
              have k2 : a.tmps[2]? = some (.pointer (some ⟨w.heap.size, 0, none⟩)) := hold 2 (free_of (by kernel_rfl))
              have k5 : a.tmps[5]? = some (.pointer (some ⟨w4.heap.size, 0, none⟩)) := hold 5 (free_of (by kernel_rfl))
              have ha := act_eta a 74 [] hz hd
              rw [show (List.range 74).map (fun s => a.tmps.getD s undef) = [a.tmps.getD 0 undef, a.tmps.getD 1 undef, a.tmps.getD 2 undef, a.tmps.getD 3 undef, a.tmps.getD 4 undef, a.tmps.getD 5 undef, a.tmps.getD 6 undef, a.tmps.getD 7 undef, a.tmps.getD 8 undef, a.tmps.getD 9 undef, a.tmps.getD 10 undef, a.tmps.getD 11 undef, a.tmps.getD 12 undef, a.tmps.getD 13 undef, a.tmps.getD 14 undef, a.tmps.getD 15 undef, a.tmps.getD 16 undef, a.tmps.getD 17 undef, a.tmps.getD 18 undef, a.tmps.getD 19 undef, a.tmps.getD 20 undef, a.tmps.getD 21 undef, a.tmps.getD 22 undef, a.tmps.getD 23 undef, a.tmps.getD 24 undef, a.tmps.getD 25 undef, a.tmps.getD 26 undef, a.tmps.getD 27 undef, a.tmps.getD 28 undef, a.tmps.getD 29 undef, a.tmps.getD 30 undef, a.tmps.getD 31 undef, a.tmps.getD 32 undef, a.tmps.getD 33 undef, a.tmps.getD 34 undef, a.tmps.getD 35 undef, a.tmps.getD 36 undef, a.tmps.getD 37 undef, a.tmps.getD 38 undef, a.tmps.getD 39 undef, a.tmps.getD 40 undef, a.tmps.getD 41 undef, a.tmps.getD 42 undef, a.tmps.getD 43 undef, a.tmps.getD 44 undef, a.tmps.getD 45 undef, a.tmps.getD 46 undef, a.tmps.getD 47 undef, a.tmps.getD 48 undef, a.tmps.getD 49 undef, a.tmps.getD 50 undef, a.tmps.getD 51 undef, a.tmps.getD 52 undef, a.tmps.getD 53 undef, a.tmps.getD 54 undef, a.tmps.getD 55 undef, a.tmps.getD 56 undef, a.tmps.getD 57 undef, a.tmps.getD 58 undef, a.tmps.getD 59 undef, a.tmps.getD 60 undef, a.tmps.getD 61 undef, a.tmps.getD 62 undef, a.tmps.getD 63 undef, a.tmps.getD 64 undef, a.tmps.getD 65 undef, a.tmps.getD 66 undef, a.tmps.getD 67 undef, a.tmps.getD 68 undef, a.tmps.getD 69 undef, a.tmps.getD 70 undef, a.tmps.getD 71 undef, a.tmps.getD 72 undef, a.tmps.getD 73 undef] from rfl, getD_of k57, getD_of k2, getD_of k5] at ha
              rw [ha]
              clear hall hold hz hd ha k57 k2 k5
              generalize a.tmps.getD 0 undef = x0
              generalize a.tmps.getD 1 undef = x1
              generalize a.tmps.getD 3 undef = x3
              generalize a.tmps.getD 4 undef = x4
              generalize a.tmps.getD 6 undef = x6
              generalize a.tmps.getD 7 undef = x7
              generalize a.tmps.getD 8 undef = x8
              generalize a.tmps.getD 9 undef = x9
              generalize a.tmps.getD 10 undef = x10
              generalize a.tmps.getD 11 undef = x11
              generalize a.tmps.getD 12 undef = x12
              generalize a.tmps.getD 13 undef = x13
              generalize a.tmps.getD 14 undef = x14
              generalize a.tmps.getD 15 undef = x15
              generalize a.tmps.getD 16 undef = x16
              generalize a.tmps.getD 17 undef = x17
              generalize a.tmps.getD 18 undef = x18
              generalize a.tmps.getD 19 undef = x19
              generalize a.tmps.getD 20 undef = x20
              generalize a.tmps.getD 21 undef = x21
              generalize a.tmps.getD 22 undef = x22
              generalize a.tmps.getD 23 undef = x23
              generalize a.tmps.getD 24 undef = x24
              generalize a.tmps.getD 25 undef = x25
              generalize a.tmps.getD 26 undef = x26
              generalize a.tmps.getD 27 undef = x27
              generalize a.tmps.getD 28 undef = x28
              generalize a.tmps.getD 29 undef = x29
              generalize a.tmps.getD 30 undef = x30
              generalize a.tmps.getD 31 undef = x31
              generalize a.tmps.getD 32 undef = x32
              generalize a.tmps.getD 33 undef = x33
              generalize a.tmps.getD 34 undef = x34
              generalize a.tmps.getD 35 undef = x35
              generalize a.tmps.getD 36 undef = x36
              generalize a.tmps.getD 37 undef = x37
              generalize a.tmps.getD 38 undef = x38
              generalize a.tmps.getD 39 undef = x39
              generalize a.tmps.getD 40 undef = x40
              generalize a.tmps.getD 41 undef = x41
              generalize a.tmps.getD 42 undef = x42
              generalize a.tmps.getD 43 undef = x43
              generalize a.tmps.getD 44 undef = x44
              generalize a.tmps.getD 45 undef = x45
              generalize a.tmps.getD 46 undef = x46
              generalize a.tmps.getD 47 undef = x47
              generalize a.tmps.getD 48 undef = x48
              generalize a.tmps.getD 49 undef = x49
              generalize a.tmps.getD 50 undef = x50
              generalize a.tmps.getD 51 undef = x51
              generalize a.tmps.getD 52 undef = x52
              generalize a.tmps.getD 53 undef = x53
              generalize a.tmps.getD 54 undef = x54
              generalize a.tmps.getD 55 undef = x55
              generalize a.tmps.getD 56 undef = x56
              generalize a.tmps.getD 58 undef = x58
              generalize a.tmps.getD 59 undef = x59
              generalize a.tmps.getD 60 undef = x60
              generalize a.tmps.getD 61 undef = x61
              generalize a.tmps.getD 62 undef = x62
              generalize a.tmps.getD 63 undef = x63
              generalize a.tmps.getD 64 undef = x64
              generalize a.tmps.getD 65 undef = x65
              generalize a.tmps.getD 66 undef = x66
              generalize a.tmps.getD 67 undef = x67
              generalize a.tmps.getD 68 undef = x68
              generalize a.tmps.getD 69 undef = x69
              generalize a.tmps.getD 70 undef = x70
              generalize a.tmps.getD 71 undef = x71
              generalize a.tmps.getD 72 undef = x72
              generalize a.tmps.getD 73 undef = x73
              have HLr := Lib.hid hl
              clear hl
              obtain ⟨u, v, hG, hs, hw⟩ := HO.out.later HLr.out
              obtain ⟨g1, q1, hu, hq1, hq2, hcut⟩ := ints_cuts hs (by have := HS2.out; show 0 < (cw c l).st.length; exact Nat.lt_of_lt_of_le (by decide) this)
              obtain ⟨hR9, hO9, hL9⟩ := cut_done hG (hcut 1 (by have := HS2.out; show 1 ≤ c.st.length; omega)) hw (HR.out.later HLr.out) (gtrans HLG.out HLr.out) HSZ.out
              obtain ⟨m1, hm1⟩ : ∃ m, (cw c l).st.length = m := ⟨_, rfl⟩
              have hm2 : 2 ≤ m1 := by rw [← hm1]; exact HS2.out
              rw [hm1] at hu hq1
              have G3 : G[3]? = some (.slice (some ⟨g1, 0, none⟩) m1 q1) := by rw [hG, hu]; rfl
              have a3 := (HR.out.later HLr.out).cell 3 G3
              have z3 := (HR.out.later HLr.out).frozen 3
              have HR9 := Lib.hid hR9
              have HO9 := Lib.hid hO9
              have HL9 := Lib.hid hL9
              have HQ1 : Hid (1 ≤ q1) := Lib.hid (by omega)
              have t1 : (1 : Int) ≤ (q1 : Int) := by omega
              have t2 : 1 ≤ q1 := by omega
              have t3 : (q1 : Int) ≤ 9223372036854775807 := by omega
              obtain ⟨H, hH⟩ : ∃ H, H = G.setIfInBounds 3 (.slice (some ⟨g1, 0, none⟩) 1 q1) := ⟨_, rfl⟩
              have H37 : Hid (H.size = 37) := Lib.hid (by rw [hH]; simpa using G37.out)
              rw [← hH] at HR9 HO9
              have KM := Lib.hid (fun W E (h : Is W E (ct (cw c l) ((cw c l).st.take 1))) => cut_check h HC.out)
              have KN := Lib.hid (fun W E (g : Later w W) (h : Is W E (ct (cw c l) ((cw c l).st.take 1))) => KV.out l W E g h HC.out)
              clear hG hs hw hu hcut hR9 hO9 hL9 hm1 hH hq1 hq2 G3 hm2
              go_wp2_with fail
              refine (KA.out _).mono ?_
              rintro e w5 ⟨rfl, hg5⟩
              have HR5 := Lib.hid (HR9.out.later hg5)
              have HO5 := Lib.hid (HO9.out.later hg5)
              have HL5 := Lib.hid (gtrans HL3.out (gtrans HL9.out hg5))
              have HA5 := Lib.hid (HA3.out.later (gtrans HL9.out hg5))
              clear hg5 a3 z3
              go_wp2_with (refine load_in H H37.out (by rfl) (.tmp 5) rfl w4.heap.size rfl HR5.out.at ?_)
              refine (KM.out _ _ HO5.out.is).mono ?_
              rintro e w6 ⟨rfl, hg6⟩
              have HR6 := Lib.hid (HR5.out.later hg6)
              have HO6 := Lib.hid (HO5.out.later hg6)
              have HL6 := Lib.hid (gtrans HL5.out hg6)
              have HA6 := Lib.hid (HA5.out.later hg6)
              clear hg6
              go_wp2_with (first | refine load_in D HZ.out (by rfl) (.tmp 2) rfl w.heap.size rfl HA6.out ?_ | refine load_in H H37.out (by rfl) (.tmp 5) rfl w4.heap.size rfl HR6.out.at ?_)
              refine (KN.out _ _ HL6.out HO6.out.is).mono ?_
              rintro e w7 ⟨rfl, hg7⟩
              have HL7 := Lib.hid (gtrans HL6.out hg7)
              clear hg7
              go_wp2_with fail
              go_ret
              exact ⟨rfl, HL7.out⟩
        · have e4 : decide ((k : Int) < (n : Int)) = false := by simpa using hk
          go_wp2_with (refine store_row rfl (.tmp 5) (.tmp 21) rfl w4.heap.size rfl F F37.out F1.out rfl _ rfl (Row.new _ _ _) w4 ((Later.refl _).alloc _ _) (Nat.le_refl _) ?_; intro W5 hR5 hL5 _; have c36 := HA4.out.later hL5 36 _ D36.out; have HR5 := Lib.hid hR5; have HL5 := Lib.hid hL5; clear hR5 hL5)
          clear c36
          obtain ⟨l, hl⟩ : ∃ l, l = c.ws := ⟨_, rfl⟩
          have HO7 : Hid (Own W5 w3.heap.size F (cw c l)) := Lib.hid (by rw [hl]; exact HO4.out.later HL5.out)
          have HL7 := Lib.hid (gtrans HG4.out HL5.out)
          have HR7 := Lib.hid HR5.out
          generalize F = G at *
          have HO := Lib.hid HO7.out
          have HR := Lib.hid HR7.out
          have HL := Lib.hid (gtrans HL3.out HL7.out)
          have HA := Lib.hid (HA3.out.later HL7.out)
          have G37 := Lib.hid HO.out.is.size
          have HC : Hid (ce (cw c l) = 0) := Lib.hid (by rw [hl]; exact HH.out)
          have HGE : Hid (decide (n ≤ k) = true) := Lib.hid (by simpa using hk)
          have KL : Hid (∀ W E, Is W E (cw c l) → Calls Try.prog 12 #[.agg E] W fun e w' => e = .returned (.int .i64 0) ∧ Later W w') := Lib.hid (fun W E h => by have := KX.out l W E h; rwa [HC.out] at this)
          have KG : Hid (∀ W E, Later w W → Is W E (cw c l) → Calls Try.prog 18 #[.agg D, .agg E] W fun e w' => e = .returned (.bool true) ∧ Later W w') := Lib.hid (fun W E g h => by have := KY.out l W E g h; rwa [ft_cw c l HH.out HC.out] at this)
          have KS : Hid (∀ W E, Later w W → Is W E (cw c l) → Calls Try.prog 16 #[.agg D, .agg E] W fun e w' => e = .returned (.bool true) ∧ Later W w') := Lib.hid (fun W E g h => by have := KZ.out l W E g h; rwa [show decide (c.ws = l) = true by exact decide_eq_true hl.symm] at this)
          have HLG := Lib.hid HL7.out
          clear HO7 HR7 HL7 HL4 HA4 HO4 HR5 HL5
          go_wp2_with fail
          refine region_each (FV w D G ad k n cap true) (by kernel_rfl) (by kernel_rfl) (FV.later w D G ad k n cap true) ?_ ?_
          · intro i hi
            match i with
            | 0 =>
              intro o ho
              simp only [List.getElem?_toArray, List.getElem?_cons_zero, Option.some.injEq] at ho
              subst ho
              intro a W hl hold hdep
              refine ite_yes rfl ?_
              have h5 : a.tmps[5]? = some (.pointer (some ⟨w4.heap.size, 0, none⟩)) := hold 5 (free_of (by kernel_rfl))
              clear hold hdep
              exact wp_load_cfg G G37.out W w4.heap.size (HR.out.at.later hl) (.tmp 5) rfl (ev h5) ⟨_, rfl, rfl, Later.refl _⟩
            | 1 =>
              intro o ho
              simp only [List.getElem?_toArray, List.getElem?_cons_zero, List.getElem?_cons_succ, Option.some.injEq] at ho
              subst ho
              intro a W hl hold hdep
              refine ite_yes rfl ?_
              obtain ⟨_, h38, rfl⟩ := hdep 0 (by decide) _ _ rfl rfl
              clear hold hdep
              unfold Oper.wp
              go_simp
              refine (KL.out _ _ (HO.out.is.later hl)).mono ?_
              rintro e w1 ⟨rfl, hg1⟩
              exact ⟨_, rfl, rfl, hg1⟩
            | 2 =>
              intro o ho
              simp only [List.getElem?_toArray, List.getElem?_cons_zero, List.getElem?_cons_succ, Option.some.injEq] at ho
              subst ho
              intro a W hl hold hdep
              refine ite_yes rfl ?_
              obtain ⟨_, h39, rfl⟩ := hdep 1 (by decide) _ _ rfl rfl
              clear hold hdep
              unfold Oper.wp
              go_simp
              exact ⟨_, rfl, rfl, Later.refl _⟩
            | 3 =>
              intro o ho
              simp only [List.getElem?_toArray, List.getElem?_cons_zero, List.getElem?_cons_succ, Option.some.injEq] at ho
              subst ho
              intro a W hl hold hdep
              refine ite_yes rfl ?_
              obtain ⟨_, h40, rfl⟩ := hdep 2 (by decide) _ _ rfl rfl
              clear hold hdep
              unfold Oper.wp
              go_simp
              exact ⟨_, rfl, rfl, Later.refl _⟩
            | 4 =>
              intro o ho
              simp only [List.getElem?_toArray, List.getElem?_cons_zero, List.getElem?_cons_succ, Option.some.injEq] at ho
              subst ho
              intro a W hl hold hdep
              obtain ⟨_, h41, rfl⟩ := hdep 3 (by decide) _ _ rfl rfl
              refine ite_yes ((want_of rfl rfl rfl h41).trans rfl) ?_
              have h2 : a.tmps[2]? = some (.pointer (some ⟨w.heap.size, 0, none⟩)) := hold 2 (free_of (by kernel_rfl))
              clear hold hdep
              exact wp_load_cfg D HZ.out W w.heap.size (HA.out.later hl) (.tmp 2) rfl (ev h2) ⟨_, rfl, rfl, Later.refl _⟩
            | 5 =>
              intro o ho
              simp only [List.getElem?_toArray, List.getElem?_cons_zero, List.getElem?_cons_succ, Option.some.injEq] at ho
              subst ho
              intro a W hl hold hdep
              obtain ⟨_, h41, rfl⟩ := hdep 3 (by decide) _ _ rfl rfl
              refine ite_yes ((want_of rfl rfl rfl h41).trans rfl) ?_
              have h5 : a.tmps[5]? = some (.pointer (some ⟨w4.heap.size, 0, none⟩)) := hold 5 (free_of (by kernel_rfl))
              clear hold hdep
              exact wp_load_cfg G G37.out W w4.heap.size (HR.out.at.later hl) (.tmp 5) rfl (ev h5) ⟨_, rfl, rfl, Later.refl _⟩
            | 6 =>
              intro o ho
              simp only [List.getElem?_toArray, List.getElem?_cons_zero, List.getElem?_cons_succ, Option.some.injEq] at ho
              subst ho
              intro a W hl hold hdep
              obtain ⟨_, h41, rfl⟩ := hdep 3 (by decide) _ _ rfl rfl
              refine ite_yes ((want_of rfl rfl rfl h41).trans rfl) ?_
              obtain ⟨_, h42, rfl⟩ := hdep 4 (by decide) _ _ rfl rfl
              obtain ⟨_, h43, rfl⟩ := hdep 5 (by decide) _ _ rfl rfl
              clear hold hdep
              unfold Oper.wp
              go_simp
              refine (KG.out _ _ (gtrans HL.out hl) (HO.out.is.later hl)).mono ?_
              rintro e w1 ⟨rfl, hg1⟩
              exact ⟨_, rfl, rfl, hg1⟩
            | 7 =>
              intro o ho
              simp only [List.getElem?_toArray, List.getElem?_cons_zero, List.getElem?_cons_succ, Option.some.injEq] at ho
              subst ho
              intro a W hl hold hdep
              obtain ⟨_, h41, rfl⟩ := hdep 3 (by decide) _ _ rfl rfl
              refine ite_yes ((want_of rfl rfl rfl h41).trans rfl) ?_
              obtain ⟨_, h44, rfl⟩ := hdep 6 (by decide) _ _ rfl rfl
              clear hold hdep
              unfold Oper.wp
              go_simp
              exact ⟨_, rfl, rfl, Later.refl _⟩
            | 8 =>
              intro o ho
              simp only [List.getElem?_toArray, List.getElem?_cons_zero, List.getElem?_cons_succ, Option.some.injEq] at ho
              subst ho
              intro a W hl hold hdep
              refine ite_yes rfl ?_
              obtain ⟨_, h41, rfl⟩ := hdep 3 (by decide) _ _ rfl rfl
              obtain ⟨_, h45, rfl⟩ := hdep 7 (by decide) _ _ rfl rfl
              clear hold hdep
              unfold Oper.wp
              go_simp
              exact ⟨_, rfl, rfl, Later.refl _⟩
            | 9 =>
              intro o ho
              simp only [List.getElem?_toArray, List.getElem?_cons_zero, List.getElem?_cons_succ, Option.some.injEq] at ho
              subst ho
              intro a W hl hold hdep
              refine ite_yes rfl ?_
              obtain ⟨_, h46, rfl⟩ := hdep 8 (by decide) _ _ rfl rfl
              clear hold hdep
              unfold Oper.wp
              go_simp
              exact ⟨_, rfl, rfl, Later.refl _⟩
            | 10 =>
              intro o ho
              simp only [List.getElem?_toArray, List.getElem?_cons_zero, List.getElem?_cons_succ, Option.some.injEq] at ho
              subst ho
              intro a W hl hold hdep
              obtain ⟨_, h47, rfl⟩ := hdep 9 (by decide) _ _ rfl rfl
              refine ite_yes ((want_of rfl rfl rfl h47).trans rfl) ?_
              have h2 : a.tmps[2]? = some (.pointer (some ⟨w.heap.size, 0, none⟩)) := hold 2 (free_of (by kernel_rfl))
              clear hold hdep
              exact wp_load_cfg D HZ.out W w.heap.size (HA.out.later hl) (.tmp 2) rfl (ev h2) ⟨_, rfl, rfl, Later.refl _⟩
            | 11 =>
              intro o ho
              simp only [List.getElem?_toArray, List.getElem?_cons_zero, List.getElem?_cons_succ, Option.some.injEq] at ho
              subst ho
              intro a W hl hold hdep
              obtain ⟨_, h47, rfl⟩ := hdep 9 (by decide) _ _ rfl rfl
              refine ite_yes ((want_of rfl rfl rfl h47).trans rfl) ?_
              have h5 : a.tmps[5]? = some (.pointer (some ⟨w4.heap.size, 0, none⟩)) := hold 5 (free_of (by kernel_rfl))
              clear hold hdep
              exact wp_load_cfg G G37.out W w4.heap.size (HR.out.at.later hl) (.tmp 5) rfl (ev h5) ⟨_, rfl, rfl, Later.refl _⟩
            | 12 =>
              intro o ho
              simp only [List.getElem?_toArray, List.getElem?_cons_zero, List.getElem?_cons_succ, Option.some.injEq] at ho
              subst ho
              intro a W hl hold hdep
              obtain ⟨_, h47, rfl⟩ := hdep 9 (by decide) _ _ rfl rfl
              refine ite_yes ((want_of rfl rfl rfl h47).trans rfl) ?_
              obtain ⟨_, h48, rfl⟩ := hdep 10 (by decide) _ _ rfl rfl
              obtain ⟨_, h49, rfl⟩ := hdep 11 (by decide) _ _ rfl rfl
              clear hold hdep
              unfold Oper.wp
              go_simp
              refine (KS.out _ _ (gtrans HL.out hl) (HO.out.is.later hl)).mono ?_
              rintro e w1 ⟨rfl, hg1⟩
              exact ⟨_, rfl, rfl, hg1⟩
            | 13 =>
              intro o ho
              simp only [List.getElem?_toArray, List.getElem?_cons_zero, List.getElem?_cons_succ, Option.some.injEq] at ho
              subst ho
              intro a W hl hold hdep
              obtain ⟨_, h47, rfl⟩ := hdep 9 (by decide) _ _ rfl rfl
              refine ite_yes ((want_of rfl rfl rfl h47).trans rfl) ?_
              have h1 : a.tmps[1]? = some (.int .i64 (k : Int)) := hold 1 (free_of (by kernel_rfl))
              clear hold hdep
              unfold Oper.wp
              go_simp
              exact ⟨_, rfl, rfl, Later.refl _⟩
            | 14 =>
              intro o ho
              simp only [List.getElem?_toArray, List.getElem?_cons_zero, List.getElem?_cons_succ, Option.some.injEq] at ho
              subst ho
              intro a W hl hold hdep
              obtain ⟨_, h47, rfl⟩ := hdep 9 (by decide) _ _ rfl rfl
              refine ite_yes ((want_of rfl rfl rfl h47).trans rfl) ?_
              have h2 : a.tmps[2]? = some (.pointer (some ⟨w.heap.size, 0, none⟩)) := hold 2 (free_of (by kernel_rfl))
              clear hold hdep
              unfold Oper.wp
              go_simp
              exact ⟨_, rfl, rfl, Later.refl _⟩
            | 15 =>
              intro o ho
              simp only [List.getElem?_toArray, List.getElem?_cons_zero, List.getElem?_cons_succ, Option.some.injEq] at ho
              subst ho
              intro a W hl hold hdep
              obtain ⟨_, h47, rfl⟩ := hdep 9 (by decide) _ _ rfl rfl
              refine ite_yes ((want_of rfl rfl rfl h47).trans rfl) ?_
              obtain ⟨_, h52, rfl⟩ := hdep 14 (by decide) _ _ rfl rfl
              have e0 := HA.out.later hl 36 _ D36.out
              clear hold hdep
              unfold Oper.wp
              go_simp
              exact ⟨_, rfl, rfl, Later.refl _⟩
            | 16 =>
              intro o ho
              simp only [List.getElem?_toArray, List.getElem?_cons_zero, List.getElem?_cons_succ, Option.some.injEq] at ho
              subst ho
              intro a W hl hold hdep
              obtain ⟨_, h47, rfl⟩ := hdep 9 (by decide) _ _ rfl rfl
              refine ite_yes ((want_of rfl rfl rfl h47).trans rfl) ?_
              obtain ⟨_, h53, rfl⟩ := hdep 15 (by decide) _ _ rfl rfl
              clear hold hdep
              unfold Oper.wp
              go_simp
              exact ⟨_, rfl, rfl, Later.refl _⟩
            | 17 =>
              intro o ho
              simp only [List.getElem?_toArray, List.getElem?_cons_zero, List.getElem?_cons_succ, Option.some.injEq] at ho
              subst ho
              intro a W hl hold hdep
              obtain ⟨_, h47, rfl⟩ := hdep 9 (by decide) _ _ rfl rfl
              refine ite_yes ((want_of rfl rfl rfl h47).trans rfl) ?_
              obtain ⟨_, h51, rfl⟩ := hdep 13 (by decide) _ _ rfl rfl
              obtain ⟨_, h54, rfl⟩ := hdep 16 (by decide) _ _ rfl rfl
              have e0 := HGE.out
              clear hold hdep
              unfold Oper.wp
              go_simp
              exact ⟨_, rfl, rfl, Later.refl _⟩
            | 18 =>
              intro o ho
              simp only [List.getElem?_toArray, List.getElem?_cons_zero, List.getElem?_cons_succ, Option.some.injEq] at ho
              subst ho
              intro a W hl hold hdep
              obtain ⟨_, h47, rfl⟩ := hdep 9 (by decide) _ _ rfl rfl
              refine ite_yes ((want_of rfl rfl rfl h47).trans rfl) ?_
              obtain ⟨_, h50, rfl⟩ := hdep 12 (by decide) _ _ rfl rfl
              obtain ⟨_, h55, rfl⟩ := hdep 17 (by decide) _ _ rfl rfl
              clear hold hdep
              unfold Oper.wp
              go_simp
              exact ⟨_, rfl, rfl, Later.refl _⟩
            | 19 =>
              intro o ho
              simp only [List.getElem?_toArray, List.getElem?_cons_zero, List.getElem?_cons_succ, Option.some.injEq] at ho
              subst ho
              intro a W hl hold hdep
              refine ite_yes rfl ?_
              obtain ⟨_, h47, rfl⟩ := hdep 9 (by decide) _ _ rfl rfl
              obtain ⟨_, h56, rfl⟩ := hdep 18 (by decide) _ _ rfl rfl
              clear hold hdep
              unfold Oper.wp
              go_simp
              exact ⟨_, rfl, rfl, Later.refl _⟩
            | k + 20 => exact absurd hi (by simp)
          · intro a W hl hd hz hold hall
            obtain ⟨_, k57, rfl⟩ := hall 19 _ _ rfl rfl
            have k2 : a.tmps[2]? = some (.pointer (some ⟨w.heap.size, 0, none⟩)) := hold 2 (free_of (by kernel_rfl))
            have k5 : a.tmps[5]? = some (.pointer (some ⟨w4.heap.size, 0, none⟩)) := hold 5 (free_of (by kernel_rfl))
            have ha := act_eta a 74 [] hz hd
            rw [show (List.range 74).map (fun s => a.tmps.getD s undef) = [a.tmps.getD 0 undef, a.tmps.getD 1 undef, a.tmps.getD 2 undef, a.tmps.getD 3 undef, a.tmps.getD 4 undef, a.tmps.getD 5 undef, a.tmps.getD 6 undef, a.tmps.getD 7 undef, a.tmps.getD 8 undef, a.tmps.getD 9 undef, a.tmps.getD 10 undef, a.tmps.getD 11 undef, a.tmps.getD 12 undef, a.tmps.getD 13 undef, a.tmps.getD 14 undef, a.tmps.getD 15 undef, a.tmps.getD 16 undef, a.tmps.getD 17 undef, a.tmps.getD 18 undef, a.tmps.getD 19 undef, a.tmps.getD 20 undef, a.tmps.getD 21 undef, a.tmps.getD 22 undef, a.tmps.getD 23 undef, a.tmps.getD 24 undef, a.tmps.getD 25 undef, a.tmps.getD 26 undef, a.tmps.getD 27 undef, a.tmps.getD 28 undef, a.tmps.getD 29 undef, a.tmps.getD 30 undef, a.tmps.getD 31 undef, a.tmps.getD 32 undef, a.tmps.getD 33 undef, a.tmps.getD 34 undef, a.tmps.getD 35 undef, a.tmps.getD 36 undef, a.tmps.getD 37 undef, a.tmps.getD 38 undef, a.tmps.getD 39 undef, a.tmps.getD 40 undef, a.tmps.getD 41 undef, a.tmps.getD 42 undef, a.tmps.getD 43 undef, a.tmps.getD 44 undef, a.tmps.getD 45 undef, a.tmps.getD 46 undef, a.tmps.getD 47 undef, a.tmps.getD 48 undef, a.tmps.getD 49 undef, a.tmps.getD 50 undef, a.tmps.getD 51 undef, a.tmps.getD 52 undef, a.tmps.getD 53 undef, a.tmps.getD 54 undef, a.tmps.getD 55 undef, a.tmps.getD 56 undef, a.tmps.getD 57 undef, a.tmps.getD 58 undef, a.tmps.getD 59 undef, a.tmps.getD 60 undef, a.tmps.getD 61 undef, a.tmps.getD 62 undef, a.tmps.getD 63 undef, a.tmps.getD 64 undef, a.tmps.getD 65 undef, a.tmps.getD 66 undef, a.tmps.getD 67 undef, a.tmps.getD 68 undef, a.tmps.getD 69 undef, a.tmps.getD 70 undef, a.tmps.getD 71 undef, a.tmps.getD 72 undef, a.tmps.getD 73 undef] from rfl, getD_of k57, getD_of k2, getD_of k5] at ha
            rw [ha]
            clear hall hold hz hd ha k57 k2 k5
            generalize a.tmps.getD 0 undef = x0
            generalize a.tmps.getD 1 undef = x1
            generalize a.tmps.getD 3 undef = x3
            generalize a.tmps.getD 4 undef = x4
            generalize a.tmps.getD 6 undef = x6
            generalize a.tmps.getD 7 undef = x7
            generalize a.tmps.getD 8 undef = x8
            generalize a.tmps.getD 9 undef = x9
            generalize a.tmps.getD 10 undef = x10
            generalize a.tmps.getD 11 undef = x11
            generalize a.tmps.getD 12 undef = x12
            generalize a.tmps.getD 13 undef = x13
            generalize a.tmps.getD 14 undef = x14
            generalize a.tmps.getD 15 undef = x15
            generalize a.tmps.getD 16 undef = x16
            generalize a.tmps.getD 17 undef = x17
            generalize a.tmps.getD 18 undef = x18
            generalize a.tmps.getD 19 undef = x19
            generalize a.tmps.getD 20 undef = x20
            generalize a.tmps.getD 21 undef = x21
            generalize a.tmps.getD 22 undef = x22
            generalize a.tmps.getD 23 undef = x23
            generalize a.tmps.getD 24 undef = x24
            generalize a.tmps.getD 25 undef = x25
            generalize a.tmps.getD 26 undef = x26
            generalize a.tmps.getD 27 undef = x27
            generalize a.tmps.getD 28 undef = x28
            generalize a.tmps.getD 29 undef = x29
            generalize a.tmps.getD 30 undef = x30
            generalize a.tmps.getD 31 undef = x31
            generalize a.tmps.getD 32 undef = x32
            generalize a.tmps.getD 33 undef = x33
            generalize a.tmps.getD 34 undef = x34
            generalize a.tmps.getD 35 undef = x35
            generalize a.tmps.getD 36 undef = x36
            generalize a.tmps.getD 37 undef = x37
            generalize a.tmps.getD 38 undef = x38
            generalize a.tmps.getD 39 undef = x39
            generalize a.tmps.getD 40 undef = x40
            generalize a.tmps.getD 41 undef = x41
            generalize a.tmps.getD 42 undef = x42
            generalize a.tmps.getD 43 undef = x43
            generalize a.tmps.getD 44 undef = x44
            generalize a.tmps.getD 45 undef = x45
            generalize a.tmps.getD 46 undef = x46
            generalize a.tmps.getD 47 undef = x47
            generalize a.tmps.getD 48 undef = x48
            generalize a.tmps.getD 49 undef = x49
            generalize a.tmps.getD 50 undef = x50
            generalize a.tmps.getD 51 undef = x51
            generalize a.tmps.getD 52 undef = x52
            generalize a.tmps.getD 53 undef = x53
            generalize a.tmps.getD 54 undef = x54
            generalize a.tmps.getD 55 undef = x55
            generalize a.tmps.getD 56 undef = x56
            generalize a.tmps.getD 58 undef = x58
            generalize a.tmps.getD 59 undef = x59
            generalize a.tmps.getD 60 undef = x60
            generalize a.tmps.getD 61 undef = x61
            generalize a.tmps.getD 62 undef = x62
            generalize a.tmps.getD 63 undef = x63
            generalize a.tmps.getD 64 undef = x64
            generalize a.tmps.getD 65 undef = x65
            generalize a.tmps.getD 66 undef = x66
            generalize a.tmps.getD 67 undef = x67
            generalize a.tmps.getD 68 undef = x68
            generalize a.tmps.getD 69 undef = x69
            generalize a.tmps.getD 70 undef = x70
            generalize a.tmps.getD 71 undef = x71
            generalize a.tmps.getD 72 undef = x72
            generalize a.tmps.getD 73 undef = x73
            have HLr := Lib.hid hl
            clear hl
            obtain ⟨u, v, hG, hs, hw⟩ := HO.out.later HLr.out
            obtain ⟨g1, q1, hu, hq1, hq2, hcut⟩ := ints_cuts hs (by have := HS2.out; show 0 < (cw c l).st.length; exact Nat.lt_of_lt_of_le (by decide) this)
            obtain ⟨hR9, hO9, hL9⟩ := cut_done hG (hcut 1 (by have := HS2.out; show 1 ≤ c.st.length; omega)) hw (HR.out.later HLr.out) (gtrans HLG.out HLr.out) HSZ.out
            obtain ⟨m1, hm1⟩ : ∃ m, (cw c l).st.length = m := ⟨_, rfl⟩
            have hm2 : 2 ≤ m1 := by rw [← hm1]; exact HS2.out
            rw [hm1] at hu hq1
            have G3 : G[3]? = some (.slice (some ⟨g1, 0, none⟩) m1 q1) := by rw [hG, hu]; rfl
            have a3 := (HR.out.later HLr.out).cell 3 G3
            have z3 := (HR.out.later HLr.out).frozen 3
            have HR9 := Lib.hid hR9
            have HO9 := Lib.hid hO9
            have HL9 := Lib.hid hL9
            have HQ1 : Hid (1 ≤ q1) := Lib.hid (by omega)
            have t1 : (1 : Int) ≤ (q1 : Int) := by omega
            have t2 : 1 ≤ q1 := by omega
            have t3 : (q1 : Int) ≤ 9223372036854775807 := by omega
            obtain ⟨H, hH⟩ : ∃ H, H = G.setIfInBounds 3 (.slice (some ⟨g1, 0, none⟩) 1 q1) := ⟨_, rfl⟩
            have H37 : Hid (H.size = 37) := Lib.hid (by rw [hH]; simpa using G37.out)
            rw [← hH] at HR9 HO9
            have KM := Lib.hid (fun W E (h : Is W E (ct (cw c l) ((cw c l).st.take 1))) => cut_check h HC.out)
            have KN := Lib.hid (fun W E (g : Later w W) (h : Is W E (ct (cw c l) ((cw c l).st.take 1))) => KV.out l W E g h HC.out)
            clear hG hs hw hu hcut hR9 hO9 hL9 hm1 hH hq1 hq2 G3 hm2
            go_wp2_with fail
            refine (KA.out _).mono ?_
            rintro e w5 ⟨rfl, hg5⟩
            have HR5 := Lib.hid (HR9.out.later hg5)
            have HO5 := Lib.hid (HO9.out.later hg5)
            have HL5 := Lib.hid (gtrans HL3.out (gtrans HL9.out hg5))
            have HA5 := Lib.hid (HA3.out.later (gtrans HL9.out hg5))
            clear hg5 a3 z3
            go_wp2_with (refine load_in H H37.out (by rfl) (.tmp 5) rfl w4.heap.size rfl HR5.out.at ?_)
            refine (KM.out _ _ HO5.out.is).mono ?_
            rintro e w6 ⟨rfl, hg6⟩
            have HR6 := Lib.hid (HR5.out.later hg6)
            have HO6 := Lib.hid (HO5.out.later hg6)
            have HL6 := Lib.hid (gtrans HL5.out hg6)
            have HA6 := Lib.hid (HA5.out.later hg6)
            clear hg6
            go_wp2_with (first | refine load_in D HZ.out (by rfl) (.tmp 2) rfl w.heap.size rfl HA6.out ?_ | refine load_in H H37.out (by rfl) (.tmp 5) rfl w4.heap.size rfl HR6.out.at ?_)
            refine (KN.out _ _ HL6.out HO6.out.is).mono ?_
            rintro e w7 ⟨rfl, hg7⟩
            have HL7 := Lib.hid (gtrans HL6.out hg7)
            clear hg7
            go_wp2_with fail
            go_ret
            exact ⟨rfl, HL7.out⟩

end Go.Proofs.Ythbgllbbliijlaa.Conf
