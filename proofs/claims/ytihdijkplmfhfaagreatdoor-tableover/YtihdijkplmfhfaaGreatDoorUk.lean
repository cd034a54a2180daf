/-
  A week that is weightier than all else is in its mode, whole; behind it it is as without it: the walk. Condition: the table of months lies where the program lays it.
-/
import Derived.Test.YtihdijkplmfhfaaGreatDoorM26
namespace Go.Proofs.YtihdijkplmfhfaaGreatDoor.Table
set_option maxRecDepth 100000
open Go.ChangeShapes Go.WideShapes Go.ChangeAt Go.RowKit
open Go.Proofs.YtihdijkplmfhfaaGreatDoor.Divs Go.Proofs.YtihdijkplmfhfaaGreatDoor.Grow
open Go.Proofs.YtihdijkplmfhfaaGreatDoor.Greg (Laid)
open Go.Proofs.YtihdijkplmfhfaaGreatDoor.Zo Go.Proofs.YtihdijkplmfhfaaGreatDoor.Win Go.Proofs.YtihdijkplmfhfaaGreatDoor.Tab
open Go.Proofs.YtihdijkplmfhfaaGreatDoor.Cal (yr om od)
open Go.Proofs.YtihdijkplmfhfaaGreatDoor.Cf (Cg Wn ce wo)
open Go.Proofs.YtihdijkplmfhfaaGreatDoor.Conf (wc cc Is)
open Go.Proofs.YtihdijkplmfhfaaGreatDoor.Zone (Zat zc lD lM sE sE_ok)
open Go.Proofs.YtihdijkplmfhfaaGreatDoor.Span (Ws WL sc)
open Go.Proofs.YtihdijkplmfhfaaGreatDoor.Window (RA)
open Go.Proofs.YtihdijkplmfhfaaGreatDoor.Sp (cu)
open Go.Proofs.YtihdijkplmfhfaaGreatDoor.Eachn
set_option linter.unusedVariables false

open Go.Proofs.YtihdijkplmfhfaaGreatDoor.Sp (best md)

theorem last_at {W : World} {b : Nat} {v : Value} {XS : List Sp.Sp} {s : Sp.Sp} (h : WL W b v (XS ++ [s])) : ∃ B off cap p, v = .slice (some ⟨B, off, none⟩) (p + 1) cap ∧ p + 1 ≤ 9223372036854775807 ∧ Span.At W B (off + p * 4) s := by
  obtain ⟨B, off, cap, e, h1, h2, _, hat⟩ := h.ws.has (by simp)
  refine ⟨B, off, cap, XS.length, by rw [e]; simp, by simp at h1; omega, hat _ _ (by simp)⟩

set_option maxHeartbeats 4000000 in
theorem over_core (w : World) (hL : Laid w) (D : Array Value) (c : Cg) (hc : Is w D c) (d : Int) (hd : -9223372036854775808 ≤ d ∧ d ≤ 9223372036854775807) (b : Int) (hb : -9223372036854775808 ≤ b ∧ b ≤ 9223372036854775807) : Calls Tryz.prog 8 #[.agg D, .int .i64 d, .int .i64 b] w fun e w' => e = .returned (.bool true) ∧ Later w w' := by
  have A := Lib.hid (fun W (hW : Laid W) => awake_any W hW)
  have KF := Lib.hid (fun W (g : Later w W) => Conf.few_of (hc.later g))
  have KO := Lib.hid (fun W (g : Later w W) hf => Conf.own_of (hc.later g) hf)
  have KC := Lib.hid (fun W (g : Later w W) => Conf.rcheck_of (hc.later g))
  have HZ := Lib.hid hc.size
  have HG0 := Lib.hid ((Later.refl w).alloc D 33)
  have HA0 := Lib.hid (Conf.At.new w D 33)
  have LL := Lib.hid (fun W (g : Later w W) => hL.grown g)
  have hb' := hb
  clear hb
  by_cases hce : ce c = 0
  · rw [hce] at KC
    obtain ⟨ad, cap, h36, hq0, _⟩ := is_slice hc
    obtain ⟨q, hq⟩ : ∃ q, c.ws.length = q := ⟨_, rfl⟩
    rw [hq] at h36 hq0
    have H36 := Lib.hid h36
    have HQ := Lib.hid hq
    have HI := Lib.hid hc
    clear h36 hq
    have six : (15 < q) ∨ (¬ 15 < q ∧ d < 700000) ∨ (¬ 15 < q ∧ ¬ d < 700000 ∧ 870000 < d) ∨ (¬ 15 < q ∧ ¬ d < 700000 ∧ ¬ 870000 < d ∧ b < 0) ∨ (¬ 15 < q ∧ ¬ d < 700000 ∧ ¬ 870000 < d ∧ ¬ b < 0 ∧ 10079 < b) ∨ (¬ 15 < q ∧ ¬ d < 700000 ∧ ¬ 870000 < d ∧ ¬ b < 0 ∧ ¬ 10079 < b) := by omega
    rcases six with g | ⟨g, g1⟩ | ⟨g, g1, g2⟩ | ⟨g, g1, g2, g3⟩ | ⟨g, g1, g2, g3, g4⟩ | ⟨g, g1, g2, g3, g4⟩
    · have gz : (15 : Int) < (q : Int) := by omega
      clear hL hc hce
      go_enter Tryz.func8, Tryz.ntmps8
      go_wp2_with (refine Conf.load_at D HZ.out rfl (.tmp 3) rfl w.heap.size rfl HA0.out ?_)
      refine (KF.out _ HG0.out).mono ?_
      rintro e w1 ⟨rfl, hg1⟩
      have HG1 := Lib.hid (gtrans HG0.out hg1)
      have HA1 := Lib.hid (HA0.out.later hg1)
      clear hg1
      cases e1 : Conf.fw c with
      | false =>
        go_wp2_with (fail)
        refine (A.out _ (LL.out _ HG1.out)).mono ?_
        rintro e w2 ⟨rfl, hg2⟩
        have HG2 := Lib.hid (gtrans HG1.out hg2)
        have HA2 := Lib.hid (HA1.out.later hg2)
        clear hg2
        go_wp2_with fail
        go_ret
        exact ⟨rfl, HG2.out⟩
      | true =>
        have KO1 := Lib.hid (fun W (g : Later w W) => KO.out W g e1)
        clear KO
        go_wp2_with (refine load_at_g D HZ.out ((want_of rfl rfl rfl rfl).trans rfl) (.tmp 3) rfl w.heap.size rfl HA1.out ?_)
        refine (KC.out _ HG1.out).mono ?_
        rintro e w2 ⟨rfl, hg2⟩
        have HG2 := Lib.hid (gtrans HG1.out hg2)
        have HA2 := Lib.hid (HA1.out.later hg2)
        clear hg2
        have c36 := HA2.out 36 _ H36.out
        go_wp2_with (fail)
        refine (A.out _ (LL.out _ HG2.out)).mono ?_
        rintro e w3 ⟨rfl, hg3⟩
        have HG3 := Lib.hid (gtrans HG2.out hg3)
        have HA3 := Lib.hid (HA2.out.later hg3)
        clear hg3
        go_wp2_with fail
        go_ret
        exact ⟨rfl, HG3.out⟩
    · have gz : ¬ (15 : Int) < (q : Int) := by omega
      clear hL hc hce
      go_enter Tryz.func8, Tryz.ntmps8
      go_wp2_with (refine Conf.load_at D HZ.out rfl (.tmp 3) rfl w.heap.size rfl HA0.out ?_)
      refine (KF.out _ HG0.out).mono ?_
      rintro e w1 ⟨rfl, hg1⟩
      have HG1 := Lib.hid (gtrans HG0.out hg1)
      have HA1 := Lib.hid (HA0.out.later hg1)
      clear hg1
      cases e1 : Conf.fw c with
      | false =>
        go_wp2_with (fail)
        refine (A.out _ (LL.out _ HG1.out)).mono ?_
        rintro e w2 ⟨rfl, hg2⟩
        have HG2 := Lib.hid (gtrans HG1.out hg2)
        have HA2 := Lib.hid (HA1.out.later hg2)
        clear hg2
        go_wp2_with fail
        go_ret
        exact ⟨rfl, HG2.out⟩
      | true =>
        have KO1 := Lib.hid (fun W (g : Later w W) => KO.out W g e1)
        clear KO
        go_wp2_with (refine load_at_g D HZ.out ((want_of rfl rfl rfl rfl).trans rfl) (.tmp 3) rfl w.heap.size rfl HA1.out ?_)
        refine (KC.out _ HG1.out).mono ?_
        rintro e w2 ⟨rfl, hg2⟩
        have HG2 := Lib.hid (gtrans HG1.out hg2)
        have HA2 := Lib.hid (HA1.out.later hg2)
        clear hg2
        have c36 := HA2.out 36 _ H36.out
        go_wp2_with (fail)
        refine (A.out _ (LL.out _ HG2.out)).mono ?_
        rintro e w3 ⟨rfl, hg3⟩
        have HG3 := Lib.hid (gtrans HG2.out hg3)
        have HA3 := Lib.hid (HA2.out.later hg3)
        clear hg3
        go_wp2_with fail
        go_ret
        exact ⟨rfl, HG3.out⟩
    · have gz : ¬ (15 : Int) < (q : Int) := by omega
      clear hL hc hce
      go_enter Tryz.func8, Tryz.ntmps8
      go_wp2_with (refine Conf.load_at D HZ.out rfl (.tmp 3) rfl w.heap.size rfl HA0.out ?_)
      refine (KF.out _ HG0.out).mono ?_
      rintro e w1 ⟨rfl, hg1⟩
      have HG1 := Lib.hid (gtrans HG0.out hg1)
      have HA1 := Lib.hid (HA0.out.later hg1)
      clear hg1
      cases e1 : Conf.fw c with
      | false =>
        go_wp2_with (fail)
        refine (A.out _ (LL.out _ HG1.out)).mono ?_
        rintro e w2 ⟨rfl, hg2⟩
        have HG2 := Lib.hid (gtrans HG1.out hg2)
        have HA2 := Lib.hid (HA1.out.later hg2)
        clear hg2
        go_wp2_with fail
        go_ret
        exact ⟨rfl, HG2.out⟩
      | true =>
        have KO1 := Lib.hid (fun W (g : Later w W) => KO.out W g e1)
        clear KO
        go_wp2_with (refine load_at_g D HZ.out ((want_of rfl rfl rfl rfl).trans rfl) (.tmp 3) rfl w.heap.size rfl HA1.out ?_)
        refine (KC.out _ HG1.out).mono ?_
        rintro e w2 ⟨rfl, hg2⟩
        have HG2 := Lib.hid (gtrans HG1.out hg2)
        have HA2 := Lib.hid (HA1.out.later hg2)
        clear hg2
        have c36 := HA2.out 36 _ H36.out
        go_wp2_with (fail)
        refine (A.out _ (LL.out _ HG2.out)).mono ?_
        rintro e w3 ⟨rfl, hg3⟩
        have HG3 := Lib.hid (gtrans HG2.out hg3)
        have HA3 := Lib.hid (HA2.out.later hg3)
        clear hg3
        go_wp2_with fail
        go_ret
        exact ⟨rfl, HG3.out⟩
    · have gz : ¬ (15 : Int) < (q : Int) := by omega
      clear hL hc hce
      go_enter Tryz.func8, Tryz.ntmps8
      go_wp2_with (refine Conf.load_at D HZ.out rfl (.tmp 3) rfl w.heap.size rfl HA0.out ?_)
      refine (KF.out _ HG0.out).mono ?_
      rintro e w1 ⟨rfl, hg1⟩
      have HG1 := Lib.hid (gtrans HG0.out hg1)
      have HA1 := Lib.hid (HA0.out.later hg1)
      clear hg1
      cases e1 : Conf.fw c with
      | false =>
        go_wp2_with (fail)
        refine (A.out _ (LL.out _ HG1.out)).mono ?_
        rintro e w2 ⟨rfl, hg2⟩
        have HG2 := Lib.hid (gtrans HG1.out hg2)
        have HA2 := Lib.hid (HA1.out.later hg2)
        clear hg2
        go_wp2_with fail
        go_ret
        exact ⟨rfl, HG2.out⟩
      | true =>
        have KO1 := Lib.hid (fun W (g : Later w W) => KO.out W g e1)
        clear KO
        go_wp2_with (refine load_at_g D HZ.out ((want_of rfl rfl rfl rfl).trans rfl) (.tmp 3) rfl w.heap.size rfl HA1.out ?_)
        refine (KC.out _ HG1.out).mono ?_
        rintro e w2 ⟨rfl, hg2⟩
        have HG2 := Lib.hid (gtrans HG1.out hg2)
        have HA2 := Lib.hid (HA1.out.later hg2)
        clear hg2
        have c36 := HA2.out 36 _ H36.out
        go_wp2_with (fail)
        refine (A.out _ (LL.out _ HG2.out)).mono ?_
        rintro e w3 ⟨rfl, hg3⟩
        have HG3 := Lib.hid (gtrans HG2.out hg3)
        have HA3 := Lib.hid (HA2.out.later hg3)
        clear hg3
        go_wp2_with fail
        go_ret
        exact ⟨rfl, HG3.out⟩
    · have gz : ¬ (15 : Int) < (q : Int) := by omega
      clear hL hc hce
      go_enter Tryz.func8, Tryz.ntmps8
      go_wp2_with (refine Conf.load_at D HZ.out rfl (.tmp 3) rfl w.heap.size rfl HA0.out ?_)
      refine (KF.out _ HG0.out).mono ?_
      rintro e w1 ⟨rfl, hg1⟩
      have HG1 := Lib.hid (gtrans HG0.out hg1)
      have HA1 := Lib.hid (HA0.out.later hg1)
      clear hg1
      cases e1 : Conf.fw c with
      | false =>
        go_wp2_with (fail)
        refine (A.out _ (LL.out _ HG1.out)).mono ?_
        rintro e w2 ⟨rfl, hg2⟩
        have HG2 := Lib.hid (gtrans HG1.out hg2)
        have HA2 := Lib.hid (HA1.out.later hg2)
        clear hg2
        go_wp2_with fail
        go_ret
        exact ⟨rfl, HG2.out⟩
      | true =>
        have KO1 := Lib.hid (fun W (g : Later w W) => KO.out W g e1)
        clear KO
        go_wp2_with (refine load_at_g D HZ.out ((want_of rfl rfl rfl rfl).trans rfl) (.tmp 3) rfl w.heap.size rfl HA1.out ?_)
        refine (KC.out _ HG1.out).mono ?_
        rintro e w2 ⟨rfl, hg2⟩
        have HG2 := Lib.hid (gtrans HG1.out hg2)
        have HA2 := Lib.hid (HA1.out.later hg2)
        clear hg2
        have c36 := HA2.out 36 _ H36.out
        go_wp2_with (fail)
        refine (A.out _ (LL.out _ HG2.out)).mono ?_
        rintro e w3 ⟨rfl, hg3⟩
        have HG3 := Lib.hid (gtrans HG2.out hg3)
        have HA3 := Lib.hid (HA2.out.later hg3)
        clear hg3
        go_wp2_with fail
        go_ret
        exact ⟨rfl, HG3.out⟩
    · obtain ⟨hz, _⟩ := ce_parts c hce
      have hbd := mv_bd c.z hz (d * 1440) (by omega) (by omega)
      have hcm : ce (cm c (Tab.wk d)) = 0 := ce_cm hce (by have := HQ.out; omega) (Tab.wk d) (wk_may d (by omega) (by omega))
      have hdd : dy d d = true := (dy_iff d d).2 ⟨by omega, by omega, by omega, by omega⟩
      have KS := Lib.hid (fun W E (hW : Laid W) (h : Is W E (cm c (Tab.wk d))) => spans_yes E (cm c (Tab.wk d)) d d 1 W hW h hcm hdd (by omega))
      rw [over_last] at KS
      have HIN := Lib.hid (fun (hp : ∀ x ∈ c.ws, ¬ x.p = 99) => over_in hce hp (day := d) (t := mv c.z (d * 1440) + b) (by omega) (by omega) (by omega) (by omega))
      have HOUT := Lib.hid (fun (hp : ∀ x ∈ c.ws, ¬ x.p = 99) => over_out hce hp (day := d) (t := mv c.z (d * 1440) + 10080) (by omega) (by omega) rfl)
      have KM := Lib.hid (fun t W E (hW : Laid W) (h : Is W E (cm c (Tab.wk d))) => mode_yes E (cm c (Tab.wk d)) t W hW h hcm)
      have KN := Lib.hid (fun t W E (hW : Laid W) (h : Is W E c) => mode_yes E c t W hW h hce)
      generalize mv c.z (d * 1440) = t0 at *
      have t0a : 0 ≤ t0 := by omega
      have t0b : t0 ≤ 2000000000 := by omega
      obtain ⟨XS, hXS⟩ : ∃ XS, dw c d c.ws = XS := ⟨_, rfl⟩
      rw [hXS] at KS
      have gz : ¬ (15 : Int) < (q : Int) := by omega
      clear hL hc hce hz hbd hcm hdd hXS
      go_enter Tryz.func8, Tryz.ntmps8
      go_wp2_with (refine Conf.load_at D HZ.out rfl (.tmp 3) rfl w.heap.size rfl HA0.out ?_)
      refine (KF.out _ HG0.out).mono ?_
      rintro e w1 ⟨rfl, hg1⟩
      have HG1 := Lib.hid (gtrans HG0.out hg1)
      have HA1 := Lib.hid (HA0.out.later hg1)
      clear hg1
      cases e1 : Conf.fw c with
      | false =>
        go_wp2_with (fail)
        refine (A.out _ (LL.out _ HG1.out)).mono ?_
        rintro e w2 ⟨rfl, hg2⟩
        have HG2 := Lib.hid (gtrans HG1.out hg2)
        have HA2 := Lib.hid (HA1.out.later hg2)
        clear hg2
        go_wp2_with fail
        go_ret
        exact ⟨rfl, HG2.out⟩
      | true =>
        have KO1 := Lib.hid (fun W (g : Later w W) => KO.out W g e1)
        clear KO
        have HLT := Lib.hid ((Conf.fw_iff c).mp e1).2
        go_wp2_with (refine load_at_g D HZ.out ((want_of rfl rfl rfl rfl).trans rfl) (.tmp 3) rfl w.heap.size rfl HA1.out ?_)
        refine (KC.out _ HG1.out).mono ?_
        rintro e w2 ⟨rfl, hg2⟩
        have HG2 := Lib.hid (gtrans HG1.out hg2)
        have HA2 := Lib.hid (HA1.out.later hg2)
        clear hg2
        have c36 := HA2.out 36 _ H36.out
        go_wp2_with fail
        go_loop [7] (fun i => ∃ k : Nat, k ≤ q ∧ i = .int .i64 (k : Int) ∧ ∀ j x, j < k → c.ws[j]? = some x → ¬ x.p = 99) (fun i => q - (intOf i).toNat)
        case atStart => exact ⟨0, by omega, rfl, by omega⟩
        case round =>
          obtain ⟨k, hk, rfl, hj⟩ := hrel
          have HJ := Lib.hid hj
          clear hj
          by_cases hlt : k < q
          · obtain ⟨x, hx⟩ : ∃ x, c.ws[k]? = some x := ⟨_, List.getElem?_eq_getElem (by rw [HQ.out]; exact hlt)⟩
            obtain ⟨B, off, rfl, hr⟩ := is_wins (HI.out.later HG2.out) H36.out hx
            have c2 := hr 2 _ rfl
            have HX := Lib.hid hx
            clear hr hx
            have adB : ∀ j, (⟨B, off, none⟩ : Addr).add j = ⟨B, off + j, none⟩ := Addr.add_mid B off
            have hjz : (k : Int) < (q : Int) := by omega
            by_cases hp : x.p = 99
            · have hpd : (x.p == 99) = true := by simpa using hp
              clear hp
              go_wp2_with (fail)
              refine (A.out _ (LL.out _ HG2.out)).mono ?_
              rintro e w3 ⟨rfl, hg3⟩
              have HG3 := Lib.hid (gtrans HG2.out hg3)
              have HA3 := Lib.hid (HA2.out.later hg3)
              clear hg3
              go_wp2_with fail
              go_ret
              exact ⟨rfl, HG3.out⟩
            · have hpd : (x.p == 99) = false := by simpa using hp
              have HN : Hid (∀ j y, j < k + 1 → c.ws[j]? = some y → ¬ y.p = 99) := Lib.hid (fun j y hj hy => by
                by_cases e : j = k
                · subst e
                  rw [HX.out] at hy
                  obtain rfl := Option.some.inj hy
                  exact hp
                · exact HJ.out j y (by omega) hy)
              clear hp
              go_wp2_with fail
              go_round
              case rel => exact ⟨k + 1, by omega, by go_num, HN.out⟩
              case measure => simp [intOf]; omega
          · have hjz : ¬ (k : Int) < (q : Int) := by omega
            have hp : ∀ x ∈ c.ws, ¬ x.p = 99 := fun x hx => by
              obtain ⟨i, hi⟩ := List.mem_iff_getElem?.1 hx
              exact HJ.out i x (by have h1 := (List.getElem?_eq_some_iff.1 hi).1; have h2 := HQ.out; omega) hi
            have K1 := Lib.hid (KM.out (t0 + b))
            rw [HIN.out hp] at K1
            have K2 := Lib.hid (KM.out (t0 + 10080))
            rw [HOUT.out hp] at K2
            have K3 := Lib.hid (KN.out (t0 + 10080))
            generalize mS (cm c (Tab.wk d)) (t0 + b) = S1 at *
            generalize mS (cm c (Tab.wk d)) (t0 + 10080) = S2 at *
            generalize mS c (t0 + 10080) = S3 at *
            generalize mM c (t0 + 10080) = M2 at *
            clear hp HIN HOUT KM KN HJ
            go_wp2_with (refine Conf.load_at D HZ.out rfl (.tmp 3) rfl w.heap.size rfl HA2.out ?_)
            refine (KO1.out _ HG2.out).mono ?_
            rintro e w3 ⟨F, rfl, ho, hg3⟩
            have F37 := Lib.hid ho.is.size
            have F1 := Lib.hid ho.is.one
            have HL4 := Lib.hid hg3
            obtain ⟨u, v, hF, hs, hw⟩ := ho
            obtain ⟨d2, q2, rfl, _, _⟩ := Conf.wk_form (Conf.WL.wk hw)
            rw [HQ.out] at hF hw
            have F36 : Hid (F[36]? = some (.slice d2 q q2)) := Lib.hid (by rw [hF]; rfl)
            have HF := Lib.hid hF
            have HS := Lib.hid hs
            have HW := Lib.hid hw
            have HX : Hid ((c.ws ++ [Tab.wk d]).length = q + 1) := Lib.hid (by rw [List.length_append, HQ.out]; rfl)
            clear hg3 hF hs hw c36 hjz hlt hk
            go_wp2_with (first
              | (refine Conf.store_row rfl (.tmp 8) (.tmp 68) rfl w3.heap.size rfl F F37.out F1.out rfl _ rfl (Conf.Row.new _ _ _) w3 ((Later.refl _).alloc _ _) (Nat.le_refl _) ?_; intro W5 hR5 hL5 _; have a36 := hR5.cell 36 F36.out; have HR5 := Lib.hid hR5; have HL5 := Lib.hid hL5; clear hR5 hL5)
              | (at_builtin; refine Conf.append_wins_g rfl _ _ rfl w2.heap.size (by have := HL4.out.size; have := HL5.out.size; simp; omega) _ c.ws rfl ((HW.out.later HL5.out).later ((Later.refl _).alloc _ _)) _ [Tab.wk d] rfl (Conf.wk_new _ (Tab.wk d) _ (by simp)) (by have := HLT.out; simp; omega) ?_; intro v' w6 hv6 hg6
                 obtain ⟨hR6, hRG, hOG, hLG⟩ := Conf.append_done HF.out ((HS.out.later HL5.out).later ((Later.refl _).alloc _ _)) ((HW.out.later HL5.out).later ((Later.refl _).alloc _ _)) (HR5.out.later ((Later.refl _).alloc _ _)) (gtrans HL4.out (gtrans HL5.out ((Later.refl _).alloc _ _))) rfl HL4.out.size hv6 hg6
                 obtain ⟨d3, q3, rfl, _, _⟩ := Conf.wk_form (Conf.WL.wk hv6)
                 rw [HX.out] at hRG hOG hLG
                 have b36 := hR6.cell 36 F36.out
                 have z36 := hR6.frozen 36
                 have HRG := Lib.hid hRG
                 have HOG := Lib.hid hOG
                 have HLG := Lib.hid hLG
                 rw [HX.out]
                 clear hR6 hRG hOG hLG hv6 hg6 a36
                 obtain ⟨G, hG⟩ : ∃ G, G = F.setIfInBounds 36 (.slice d3 (q + 1) q3) := ⟨_, rfl⟩
                 rw [← hG] at HRG HOG
                 have HIG := Lib.hid HOG.out.is
                 have G37 := Lib.hid HIG.out.size
                 clear hG)
              | (refine Conf.load_at G G37.out rfl (.tmp 8) rfl w3.heap.size rfl HRG.out.at ?_))
            clear b36 z36
            refine (KS.out _ _ (LL.out _ (gtrans HG2.out HLG.out)) HIG.out).mono ?_
            rintro e w8 ⟨vs, rfl, hvs, hg8⟩
            have HG8 := Lib.hid (gtrans HG2.out (gtrans HLG.out hg8))
            have HA8 := Lib.hid (HA2.out.later (gtrans HLG.out hg8))
            have HD8 := Lib.hid (HRG.out.at.later hg8)
            have HJ8 := Lib.hid (HIG.out.later hg8)
            obtain ⟨Bv, ov, cv, p, rfl, hpm, c0, c1, c2, c3⟩ := last_at hvs
            clear hg8 hvs
            have adV : ∀ j, (⟨Bv, ov, none⟩ : Addr).add j = ⟨Bv, ov + j, none⟩ := Addr.add_mid Bv ov
            have r1 : IntKind.i64.wrap ((p : Int) + 1 - 1) = (p : Int) := by rw [IntKind.wrap_i64]; omega
            have r2 : IntKind.i64.wrap (p : Int) = (p : Int) := by rw [IntKind.wrap_i64]; omega
            have ez : ((p : Int)).toNat = p := by omega
            have pz : (0 : Int) ≤ (p : Int) := by omega
            have nz : ¬ ((p : Int) < 0) := by omega
            have lz : (p : Int) < (p : Int) + 1 := by omega
            have l2 : ¬ (p : Int) + 1 = 0 := by omega
            have l2d : ((p : Int) + 1 == 0) = false := by simpa using l2
            have x1 : IntKind.i64.wrap (t0 + b) = t0 + b := by rw [IntKind.wrap_i64]; omega
            have x2 : IntKind.i64.wrap (t0 + 10080) = t0 + 10080 := by rw [IntKind.wrap_i64]; omega
            go_wp2_with (refine Conf.load_at G G37.out rfl (.tmp 8) rfl w3.heap.size rfl HD8.out ?_)
            refine (K1.out _ _ (LL.out _ HG8.out) HJ8.out).mono ?_
            rintro e w9 ⟨rfl, hg9⟩
            have HG9 := Lib.hid (gtrans HG8.out hg9)
            have HA9 := Lib.hid (HA8.out.later hg9)
            have HD9 := Lib.hid (HD8.out.later hg9)
            have HJ9 := Lib.hid (HJ8.out.later hg9)
            clear hg9 c0 c1 c2 c3
            go_wp2_with (refine Conf.load_at G G37.out rfl (.tmp 8) rfl w3.heap.size rfl HD9.out ?_)
            refine (K2.out _ _ (LL.out _ HG9.out) HJ9.out).mono ?_
            rintro e w10 ⟨rfl, hg10⟩
            have HG10 := Lib.hid (gtrans HG9.out hg10)
            have HA10 := Lib.hid (HA9.out.later hg10)
            have HD10 := Lib.hid (HD9.out.later hg10)
            have HJ10 := Lib.hid (HJ9.out.later hg10)
            clear hg10
            go_wp2_with (refine Conf.load_at D HZ.out rfl (.tmp 3) rfl w.heap.size rfl HA10.out ?_)
            refine (KO1.out _ HG10.out).mono ?_
            rintro e w11 ⟨E11, rfl, ho, hg11⟩
            have HG11 := Lib.hid (gtrans HG10.out hg11)
            have HA11 := Lib.hid (HA10.out.later hg11)
            have HD11 := Lib.hid (HD10.out.later hg11)
            have HJ11 := Lib.hid (HJ10.out.later hg11)
            have HE11 := Lib.hid ho.is
            clear hg11 ho
            go_wp2_with fail
            refine (K3.out _ _ (LL.out _ HG11.out) HE11.out).mono ?_
            rintro e w12 ⟨rfl, hg12⟩
            have HG12 := Lib.hid (gtrans HG11.out hg12)
            have HA12 := Lib.hid (HA11.out.later hg12)
            have HD12 := Lib.hid (HD11.out.later hg12)
            have HJ12 := Lib.hid (HJ11.out.later hg12)
            clear hg12
            go_wp2_with (fail)
            refine (A.out _ (LL.out _ HG12.out)).mono ?_
            rintro e w13 ⟨rfl, hg13⟩
            have HG13 := Lib.hid (gtrans HG12.out hg13)
            have HA13 := Lib.hid (HA12.out.later hg13)
            clear hg13
            go_wp2_with fail
            go_ret
            exact ⟨rfl, HG13.out⟩
  · have e0 : (ce c != 0) = true := by simpa using hce
    clear hL hc hce
    generalize ce c = k at *
    go_enter Tryz.func8, Tryz.ntmps8
    go_wp2_with (refine Conf.load_at D HZ.out rfl (.tmp 3) rfl w.heap.size rfl HA0.out ?_)
    refine (KF.out _ HG0.out).mono ?_
    rintro e w1 ⟨rfl, hg1⟩
    have HG1 := Lib.hid (gtrans HG0.out hg1)
    have HA1 := Lib.hid (HA0.out.later hg1)
    clear hg1
    cases e1 : Conf.fw c with
    | false =>
      go_wp2_with (fail)
      refine (A.out _ (LL.out _ HG1.out)).mono ?_
      rintro e w2 ⟨rfl, hg2⟩
      have HG2 := Lib.hid (gtrans HG1.out hg2)
      have HA2 := Lib.hid (HA1.out.later hg2)
      clear hg2
      go_wp2_with fail
      go_ret
      exact ⟨rfl, HG2.out⟩
    | true =>
      have KO1 := Lib.hid (fun W (g : Later w W) => KO.out W g e1)
      clear KO
      go_wp2_with (refine load_at_g D HZ.out ((want_of rfl rfl rfl rfl).trans rfl) (.tmp 3) rfl w.heap.size rfl HA1.out ?_)
      refine (KC.out _ HG1.out).mono ?_
      rintro e w2 ⟨rfl, hg2⟩
      have HG2 := Lib.hid (gtrans HG1.out hg2)
      have HA2 := Lib.hid (HA1.out.later hg2)
      clear hg2
      go_wp2_with (fail)
      refine (A.out _ (LL.out _ HG2.out)).mono ?_
      rintro e w3 ⟨rfl, hg3⟩
      have HG3 := Lib.hid (gtrans HG2.out hg3)
      have HA3 := Lib.hid (HA2.out.later hg3)
      clear hg3
      go_wp2_with fail
      go_ret
      exact ⟨rfl, HG3.out⟩

end Go.Proofs.YtihdijkplmfhfaaGreatDoor.Table
