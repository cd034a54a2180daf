/-
  Outside of the years that are served it is the lock's; within, without windows, the normal one: the walk. Condition: the table of months lies where the program lays it.
-/
import Derived.Test.YtihdijkplmfhfaaGreatDoorM26
namespace Go.Proofs.YtihdijkplmfhfaaGreatDoor.Table
set_option maxRecDepth 100000
open Go.ChangeShapes Go.WideShapes Go.ChangeAt Go.RowKit
open Go.Proofs.YtihdijkplmfhfaaGreatDoor.Divs Go.Proofs.YtihdijkplmfhfaaGreatDoor.Grow
open Go.Proofs.YtihdijkplmfhfaaGreatDoor.Greg (Laid)
open Go.Proofs.YtihdijkplmfhfaaGreatDoor.Zo Go.Proofs.YtihdijkplmfhfaaGreatDoor.Win Go.Proofs.YtihdijkplmfhfaaGreatDoor.Tab
open Go.Proofs.YtihdijkplmfhfaaGreatDoor.Cal (yr om od)
open Go.Proofs.YtihdijkplmfhfaaGreatDoor.Cf (Cg Wn ce wo)
open Go.Proofs.YtihdijkplmfhfaaGreatDoor.Conf (wc cc Is)
open Go.Proofs.YtihdijkplmfhfaaGreatDoor.Zone (Zat zc lD lM sE sE_ok)
open Go.Proofs.YtihdijkplmfhfaaGreatDoor.Span (Ws WL sc)
open Go.Proofs.YtihdijkplmfhfaaGreatDoor.Window (RA)
open Go.Proofs.YtihdijkplmfhfaaGreatDoor.Sp (cu)
open Go.Proofs.YtihdijkplmfhfaaGreatDoor.Eachn
set_option linter.unusedVariables false

open Go.Proofs.YtihdijkplmfhfaaGreatDoor.Sp (best md)

set_option maxHeartbeats 4000000 in
theorem far_core (w : World) (hL : Laid w) (D : Array Value) (c : Cg) (hc : Is w D c) (t : Int) (ht : -9223372036854775808 ≤ t ∧ t ≤ 9223372036854775807) : Calls Tryz.prog 7 #[.agg D, .int .i64 t] w fun e w' => e = .returned (.bool true) ∧ Later w w' := by
  have A := Lib.hid (fun W (hW : Laid W) => awake_any W hW)
  have KF := Lib.hid (fun W (g : Later w W) => Conf.few_of (hc.later g))
  have KO := Lib.hid (fun W (g : Later w W) hf => Conf.own_of (hc.later g) hf)
  have KC := Lib.hid (fun W (g : Later w W) => Conf.rcheck_of (hc.later g))
  have HZ := Lib.hid hc.size
  have HG0 := Lib.hid ((Later.refl w).alloc D 33)
  have HA0 := Lib.hid (Conf.At.new w D 33)
  have LL := Lib.hid (fun W (g : Later w W) => hL.grown g)
  by_cases hce : ce c = 0
  · rw [hce] at KC
    obtain ⟨hz, _⟩ := ce_parts c hce
    have KM := Lib.hid (fun W E (hW : Laid W) (h : Is W E c) => mode_yes E c t W hW h hce)
    have KA := Lib.hid (fun W (hW : Laid W) => Greg.day_yes 1900 1 1 W hW (by omega) (by omega) (by omega) (by omega) (by omega) (by decide))
    have KB := Lib.hid (fun W (hW : Laid W) => Greg.day_yes 2400 1 1 W hW (by omega) (by omega) (by omega) (by omega) (by omega) (by decide))
    rw [show Cal.dn 1900 1 1 = 693596 by decide] at KA
    rw [show Cal.dn 2400 1 1 = 876217 by decide] at KB
    have h13 : D[13]? = some (.int .i64 c.z.b) := by
      obtain ⟨u, v, rfl, _, _⟩ := hc
      rfl
    obtain ⟨ad, cap, h36, hq0, _⟩ := is_slice hc
    have hsv := sv_iff c.z hz t
    have hz' := hz
    unfold May at hz'
    obtain ⟨z0, z1, _⟩ := hz'
    have hfar := mM_far c t
    have hnone := mM_none c t
    obtain ⟨q, hq⟩ : ∃ q, c.ws.length = q := ⟨_, rfl⟩
    rw [hq] at h36 hq0
    have hnone2 : q = 0 → sv c.z t = true → mM c t = 0 ∧ mS c t = 0 := fun e h => hnone (List.length_eq_zero_iff.1 (hq.trans e)) h
    clear hL hc hce hz hnone hq
    generalize mM c t = M at *
    generalize mS c t = S at *
    generalize sv c.z t = V at *
    generalize c.z.b = zb at *
    have H13 := Lib.hid h13
    have H36 := Lib.hid h36
    clear h13 h36
    have four : (t < 693596 * 1440 - zb ∧ M = 3 ∧ S = 0) ∨ (¬ t < 693596 * 1440 - zb ∧ 876217 * 1440 - zb ≤ t ∧ M = 3 ∧ S = 0) ∨ (¬ t < 693596 * 1440 - zb ∧ ¬ 876217 * 1440 - zb ≤ t ∧ 0 < q) ∨ (¬ t < 693596 * 1440 - zb ∧ ¬ 876217 * 1440 - zb ≤ t ∧ q = 0 ∧ M = 0 ∧ S = 0) := by
      cases V with
      | false =>
        have k := hfar rfl
        have k2 : ¬ (693596 * 1440 ≤ t + zb ∧ t + zb < 876217 * 1440) := fun h => by have := hsv.2 h; cases this
        omega
      | true =>
        have k := hsv.1 rfl
        by_cases g : q = 0
        · have k2 := hnone2 g rfl
          omega
        · omega
    clear hfar hnone2 hsv
    rcases four with ⟨g, rfl, rfl⟩ | ⟨g, g1, rfl, rfl⟩ | ⟨g, g1, g2⟩ | ⟨g, g1, rfl, rfl, rfl⟩
    · go_enter Tryz.func7, Tryz.ntmps7
      go_wp2_with (refine Conf.load_at D HZ.out rfl (.tmp 2) rfl w.heap.size rfl HA0.out ?_)
      refine (KF.out _ HG0.out).mono ?_
      rintro e w1 ⟨rfl, hg1⟩
      have HG1 := Lib.hid (gtrans HG0.out hg1)
      have HA1 := Lib.hid (HA0.out.later hg1)
      clear hg1
      cases e1 : Conf.fw c with
      | false =>
        go_wp2_with (fail)
        refine (A.out _ (LL.out _ HG1.out)).mono ?_
        rintro e w2 ⟨rfl, hg2⟩
        have HG2 := Lib.hid (gtrans HG1.out hg2)
        have HA2 := Lib.hid (HA1.out.later hg2)
        clear hg2
        go_wp2_with fail
        go_ret
        exact ⟨rfl, HG2.out⟩
      | true =>
        have KO1 := Lib.hid (fun W (g : Later w W) => KO.out W g e1)
        clear KO
        go_wp2_with (refine load_at_g D HZ.out ((want_of rfl rfl rfl rfl).trans rfl) (.tmp 2) rfl w.heap.size rfl HA1.out ?_)
        refine (KC.out _ HG1.out).mono ?_
        rintro e w2 ⟨rfl, hg2⟩
        have HG2 := Lib.hid (gtrans HG1.out hg2)
        have HA2 := Lib.hid (HA1.out.later hg2)
        clear hg2
        go_wp2_with (refine Conf.load_at D HZ.out rfl (.tmp 2) rfl w.heap.size rfl HA2.out ?_)
        refine (KO1.out _ HG2.out).mono ?_
        rintro e w3 ⟨E3, rfl, ho, hg3⟩
        have HG3 := Lib.hid (gtrans HG2.out hg3)
        have HA3 := Lib.hid (HA2.out.later hg3)
        have HE3 := Lib.hid ho.is
        clear ho
        clear hg3
        go_wp2_with (fail)
        refine (KM.out _ _ (LL.out _ HG3.out) HE3.out).mono ?_
        rintro e w4 ⟨rfl, hg4⟩
        have HG4 := Lib.hid (gtrans HG3.out hg4)
        have HA4 := Lib.hid (HA3.out.later hg4)
        clear hg4
        go_wp2_with (fail)
        refine (KA.out _ (LL.out _ HG4.out)).mono ?_
        rintro e w5 ⟨rfl, hg5⟩
        have HG5 := Lib.hid (gtrans HG4.out hg5)
        have HA5 := Lib.hid (HA4.out.later hg5)
        clear hg5
        go_wp2_with (fail)
        refine (KB.out _ (LL.out _ HG5.out)).mono ?_
        rintro e w6 ⟨rfl, hg6⟩
        have HG6 := Lib.hid (gtrans HG5.out hg6)
        have HA6 := Lib.hid (HA5.out.later hg6)
        clear hg6
        have c13 := HA6.out 13 _ H13.out
        go_wp2_with (fail)
        refine (A.out _ (LL.out _ HG6.out)).mono ?_
        rintro e w7 ⟨rfl, hg7⟩
        have HG7 := Lib.hid (gtrans HG6.out hg7)
        have HA7 := Lib.hid (HA6.out.later hg7)
        have c36 := (HA6.out.later hg7) 36 _ H36.out
        clear hg7
        go_wp2_with fail
        go_ret
        exact ⟨rfl, HG7.out⟩
    · go_enter Tryz.func7, Tryz.ntmps7
      go_wp2_with (refine Conf.load_at D HZ.out rfl (.tmp 2) rfl w.heap.size rfl HA0.out ?_)
      refine (KF.out _ HG0.out).mono ?_
      rintro e w1 ⟨rfl, hg1⟩
      have HG1 := Lib.hid (gtrans HG0.out hg1)
      have HA1 := Lib.hid (HA0.out.later hg1)
      clear hg1
      cases e1 : Conf.fw c with
      | false =>
        go_wp2_with (fail)
        refine (A.out _ (LL.out _ HG1.out)).mono ?_
        rintro e w2 ⟨rfl, hg2⟩
        have HG2 := Lib.hid (gtrans HG1.out hg2)
        have HA2 := Lib.hid (HA1.out.later hg2)
        clear hg2
        go_wp2_with fail
        go_ret
        exact ⟨rfl, HG2.out⟩
      | true =>
        have KO1 := Lib.hid (fun W (g : Later w W) => KO.out W g e1)
        clear KO
        go_wp2_with (refine load_at_g D HZ.out ((want_of rfl rfl rfl rfl).trans rfl) (.tmp 2) rfl w.heap.size rfl HA1.out ?_)
        refine (KC.out _ HG1.out).mono ?_
        rintro e w2 ⟨rfl, hg2⟩
        have HG2 := Lib.hid (gtrans HG1.out hg2)
        have HA2 := Lib.hid (HA1.out.later hg2)
        clear hg2
        go_wp2_with (refine Conf.load_at D HZ.out rfl (.tmp 2) rfl w.heap.size rfl HA2.out ?_)
        refine (KO1.out _ HG2.out).mono ?_
        rintro e w3 ⟨E3, rfl, ho, hg3⟩
        have HG3 := Lib.hid (gtrans HG2.out hg3)
        have HA3 := Lib.hid (HA2.out.later hg3)
        have HE3 := Lib.hid ho.is
        clear ho
        clear hg3
        go_wp2_with (fail)
        refine (KM.out _ _ (LL.out _ HG3.out) HE3.out).mono ?_
        rintro e w4 ⟨rfl, hg4⟩
        have HG4 := Lib.hid (gtrans HG3.out hg4)
        have HA4 := Lib.hid (HA3.out.later hg4)
        clear hg4
        go_wp2_with (fail)
        refine (KA.out _ (LL.out _ HG4.out)).mono ?_
        rintro e w5 ⟨rfl, hg5⟩
        have HG5 := Lib.hid (gtrans HG4.out hg5)
        have HA5 := Lib.hid (HA4.out.later hg5)
        clear hg5
        go_wp2_with (fail)
        refine (KB.out _ (LL.out _ HG5.out)).mono ?_
        rintro e w6 ⟨rfl, hg6⟩
        have HG6 := Lib.hid (gtrans HG5.out hg6)
        have HA6 := Lib.hid (HA5.out.later hg6)
        clear hg6
        have c13 := HA6.out 13 _ H13.out
        go_wp2_with (fail)
        refine (A.out _ (LL.out _ HG6.out)).mono ?_
        rintro e w7 ⟨rfl, hg7⟩
        have HG7 := Lib.hid (gtrans HG6.out hg7)
        have HA7 := Lib.hid (HA6.out.later hg7)
        have c36 := (HA6.out.later hg7) 36 _ H36.out
        clear hg7
        go_wp2_with fail
        go_ret
        exact ⟨rfl, HG7.out⟩
    · go_enter Tryz.func7, Tryz.ntmps7
      go_wp2_with (refine Conf.load_at D HZ.out rfl (.tmp 2) rfl w.heap.size rfl HA0.out ?_)
      refine (KF.out _ HG0.out).mono ?_
      rintro e w1 ⟨rfl, hg1⟩
      have HG1 := Lib.hid (gtrans HG0.out hg1)
      have HA1 := Lib.hid (HA0.out.later hg1)
      clear hg1
      cases e1 : Conf.fw c with
      | false =>
        go_wp2_with (fail)
        refine (A.out _ (LL.out _ HG1.out)).mono ?_
        rintro e w2 ⟨rfl, hg2⟩
        have HG2 := Lib.hid (gtrans HG1.out hg2)
        have HA2 := Lib.hid (HA1.out.later hg2)
        clear hg2
        go_wp2_with fail
        go_ret
        exact ⟨rfl, HG2.out⟩
      | true =>
        have KO1 := Lib.hid (fun W (g : Later w W) => KO.out W g e1)
        clear KO
        go_wp2_with (refine load_at_g D HZ.out ((want_of rfl rfl rfl rfl).trans rfl) (.tmp 2) rfl w.heap.size rfl HA1.out ?_)
        refine (KC.out _ HG1.out).mono ?_
        rintro e w2 ⟨rfl, hg2⟩
        have HG2 := Lib.hid (gtrans HG1.out hg2)
        have HA2 := Lib.hid (HA1.out.later hg2)
        clear hg2
        go_wp2_with (refine Conf.load_at D HZ.out rfl (.tmp 2) rfl w.heap.size rfl HA2.out ?_)
        refine (KO1.out _ HG2.out).mono ?_
        rintro e w3 ⟨E3, rfl, ho, hg3⟩
        have HG3 := Lib.hid (gtrans HG2.out hg3)
        have HA3 := Lib.hid (HA2.out.later hg3)
        have HE3 := Lib.hid ho.is
        clear ho
        clear hg3
        go_wp2_with (fail)
        refine (KM.out _ _ (LL.out _ HG3.out) HE3.out).mono ?_
        rintro e w4 ⟨rfl, hg4⟩
        have HG4 := Lib.hid (gtrans HG3.out hg4)
        have HA4 := Lib.hid (HA3.out.later hg4)
        clear hg4
        go_wp2_with (fail)
        refine (KA.out _ (LL.out _ HG4.out)).mono ?_
        rintro e w5 ⟨rfl, hg5⟩
        have HG5 := Lib.hid (gtrans HG4.out hg5)
        have HA5 := Lib.hid (HA4.out.later hg5)
        clear hg5
        go_wp2_with (fail)
        refine (KB.out _ (LL.out _ HG5.out)).mono ?_
        rintro e w6 ⟨rfl, hg6⟩
        have HG6 := Lib.hid (gtrans HG5.out hg6)
        have HA6 := Lib.hid (HA5.out.later hg6)
        clear hg6
        have c13 := HA6.out 13 _ H13.out
        go_wp2_with (fail)
        refine (A.out _ (LL.out _ HG6.out)).mono ?_
        rintro e w7 ⟨rfl, hg7⟩
        have HG7 := Lib.hid (gtrans HG6.out hg7)
        have HA7 := Lib.hid (HA6.out.later hg7)
        have c36 := (HA6.out.later hg7) 36 _ H36.out
        clear hg7
        go_wp2_with fail
        go_ret
        exact ⟨rfl, HG7.out⟩
    · go_enter Tryz.func7, Tryz.ntmps7
      go_wp2_with (refine Conf.load_at D HZ.out rfl (.tmp 2) rfl w.heap.size rfl HA0.out ?_)
      refine (KF.out _ HG0.out).mono ?_
      rintro e w1 ⟨rfl, hg1⟩
      have HG1 := Lib.hid (gtrans HG0.out hg1)
      have HA1 := Lib.hid (HA0.out.later hg1)
      clear hg1
      cases e1 : Conf.fw c with
      | false =>
        go_wp2_with (fail)
        refine (A.out _ (LL.out _ HG1.out)).mono ?_
        rintro e w2 ⟨rfl, hg2⟩
        have HG2 := Lib.hid (gtrans HG1.out hg2)
        have HA2 := Lib.hid (HA1.out.later hg2)
        clear hg2
        go_wp2_with fail
        go_ret
        exact ⟨rfl, HG2.out⟩
      | true =>
        have KO1 := Lib.hid (fun W (g : Later w W) => KO.out W g e1)
        clear KO
        go_wp2_with (refine load_at_g D HZ.out ((want_of rfl rfl rfl rfl).trans rfl) (.tmp 2) rfl w.heap.size rfl HA1.out ?_)
        refine (KC.out _ HG1.out).mono ?_
        rintro e w2 ⟨rfl, hg2⟩
        have HG2 := Lib.hid (gtrans HG1.out hg2)
        have HA2 := Lib.hid (HA1.out.later hg2)
        clear hg2
        go_wp2_with (refine Conf.load_at D HZ.out rfl (.tmp 2) rfl w.heap.size rfl HA2.out ?_)
        refine (KO1.out _ HG2.out).mono ?_
        rintro e w3 ⟨E3, rfl, ho, hg3⟩
        have HG3 := Lib.hid (gtrans HG2.out hg3)
        have HA3 := Lib.hid (HA2.out.later hg3)
        have HE3 := Lib.hid ho.is
        clear ho
        clear hg3
        go_wp2_with (fail)
        refine (KM.out _ _ (LL.out _ HG3.out) HE3.out).mono ?_
        rintro e w4 ⟨rfl, hg4⟩
        have HG4 := Lib.hid (gtrans HG3.out hg4)
        have HA4 := Lib.hid (HA3.out.later hg4)
        clear hg4
        go_wp2_with (fail)
        refine (KA.out _ (LL.out _ HG4.out)).mono ?_
        rintro e w5 ⟨rfl, hg5⟩
        have HG5 := Lib.hid (gtrans HG4.out hg5)
        have HA5 := Lib.hid (HA4.out.later hg5)
        clear hg5
        go_wp2_with (fail)
        refine (KB.out _ (LL.out _ HG5.out)).mono ?_
        rintro e w6 ⟨rfl, hg6⟩
        have HG6 := Lib.hid (gtrans HG5.out hg6)
        have HA6 := Lib.hid (HA5.out.later hg6)
        clear hg6
        have c13 := HA6.out 13 _ H13.out
        go_wp2_with (fail)
        refine (A.out _ (LL.out _ HG6.out)).mono ?_
        rintro e w7 ⟨rfl, hg7⟩
        have HG7 := Lib.hid (gtrans HG6.out hg7)
        have HA7 := Lib.hid (HA6.out.later hg7)
        have c36 := (HA6.out.later hg7) 36 _ H36.out
        clear hg7
        go_wp2_with fail
        go_ret
        exact ⟨rfl, HG7.out⟩
  · have e0 : (ce c != 0) = true := by simpa using hce
    clear hL hc hce
    generalize ce c = k at *
    go_enter Tryz.func7, Tryz.ntmps7
    go_wp2_with (refine Conf.load_at D HZ.out rfl (.tmp 2) rfl w.heap.size rfl HA0.out ?_)
    refine (KF.out _ HG0.out).mono ?_
    rintro e w1 ⟨rfl, hg1⟩
    have HG1 := Lib.hid (gtrans HG0.out hg1)
    have HA1 := Lib.hid (HA0.out.later hg1)
    clear hg1
    cases e1 : Conf.fw c with
    | false =>
      go_wp2_with (fail)
      refine (A.out _ (LL.out _ HG1.out)).mono ?_
      rintro e w2 ⟨rfl, hg2⟩
      have HG2 := Lib.hid (gtrans HG1.out hg2)
      have HA2 := Lib.hid (HA1.out.later hg2)
      clear hg2
      go_wp2_with fail
      go_ret
      exact ⟨rfl, HG2.out⟩
    | true =>
      have KO1 := Lib.hid (fun W (g : Later w W) => KO.out W g e1)
      clear KO
      go_wp2_with (refine load_at_g D HZ.out ((want_of rfl rfl rfl rfl).trans rfl) (.tmp 2) rfl w.heap.size rfl HA1.out ?_)
      refine (KC.out _ HG1.out).mono ?_
      rintro e w2 ⟨rfl, hg2⟩
      have HG2 := Lib.hid (gtrans HG1.out hg2)
      have HA2 := Lib.hid (HA1.out.later hg2)
      clear hg2
      go_wp2_with (fail)
      refine (A.out _ (LL.out _ HG2.out)).mono ?_
      rintro e w3 ⟨rfl, hg3⟩
      have HG3 := Lib.hid (gtrans HG2.out hg3)
      have HA3 := Lib.hid (HA2.out.later hg3)
      clear hg3
      go_wp2_with fail
      go_ret
      exact ⟨rfl, HG3.out⟩

end Go.Proofs.YtihdijkplmfhfaaGreatDoor.Table
