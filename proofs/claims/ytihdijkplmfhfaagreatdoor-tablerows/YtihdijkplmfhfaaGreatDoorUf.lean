/-
  The spans that begin on any days, and any day's row, are the document's: the walk. Condition: the table of months lies where the program lays it.
-/
import Derived.Test.YtihdijkplmfhfaaGreatDoorM26
namespace Go.Proofs.YtihdijkplmfhfaaGreatDoor.Table
set_option maxRecDepth 100000
open Go.ChangeShapes Go.WideShapes Go.ChangeAt Go.RowKit
open Go.Proofs.YtihdijkplmfhfaaGreatDoor.Divs Go.Proofs.YtihdijkplmfhfaaGreatDoor.Grow
open Go.Proofs.YtihdijkplmfhfaaGreatDoor.Greg (Laid)
open Go.Proofs.YtihdijkplmfhfaaGreatDoor.Zo Go.Proofs.YtihdijkplmfhfaaGreatDoor.Win Go.Proofs.YtihdijkplmfhfaaGreatDoor.Tab
open Go.Proofs.YtihdijkplmfhfaaGreatDoor.Cal (yr om od)
open Go.Proofs.YtihdijkplmfhfaaGreatDoor.Cf (Cg Wn ce wo)
open Go.Proofs.YtihdijkplmfhfaaGreatDoor.Conf (wc cc Is)
open Go.Proofs.YtihdijkplmfhfaaGreatDoor.Zone (Zat zc lD lM sE sE_ok)
open Go.Proofs.YtihdijkplmfhfaaGreatDoor.Span (Ws WL sc)
open Go.Proofs.YtihdijkplmfhfaaGreatDoor.Window (RA)
open Go.Proofs.YtihdijkplmfhfaaGreatDoor.Sp (cu)
open Go.Proofs.YtihdijkplmfhfaaGreatDoor.Eachn
set_option linter.unusedVariables false

open Go.Proofs.YtihdijkplmfhfaaGreatDoor.Sp (best md)

set_option maxHeartbeats 4000000 in
theorem rows_core (w : World) (hL : Laid w) (D : Array Value) (c : Cg) (hc : Is w D c) (a : Int) (ha : -9223372036854775808 ≤ a ∧ a ≤ 9223372036854775807) (b : Int) (hb : -9223372036854775808 ≤ b ∧ b ≤ 9223372036854775807) : Calls Tryz.prog 3 #[.agg D, .int .i64 a, .int .i64 b] w fun e w' => e = .returned (.bool true) ∧ Later w w' := by
  have A := Lib.hid (fun W (hW : Laid W) => awake_any W hW)
  have KF := Lib.hid (fun W (g : Later w W) => Conf.few_of (hc.later g))
  have KO := Lib.hid (fun W (g : Later w W) hf => Conf.own_of (hc.later g) hf)
  have KC := Lib.hid (fun W (g : Later w W) => Conf.rcheck_of (hc.later g))
  have HZ := Lib.hid hc.size
  have HG0 := Lib.hid ((Later.refl w).alloc D 33)
  have HA0 := Lib.hid (Conf.At.new w D 33)
  have LL := Lib.hid (fun W (g : Later w W) => hL.grown g)
  have a0 := ha.1
  have a1 := ha.2
  have b0 := hb.1
  have b1 := hb.2
  clear ha hb
  by_cases hce : ce c = 0
  · rw [hce] at KC
    by_cases r : 411 ≤ a ∧ a ≤ 3651988
    · obtain ⟨r0, r1⟩ := r
      cases hd : dy a b with
      | true =>
        have KR := Lib.hid (fun W E (hW : Laid W) (h : Is W E c) => row_yes E c a W hW h hce r0 r1)
        obtain ⟨m, hm⟩ : ∃ m : Nat, b = a + m - 1 := ⟨(b - a + 1).toNat, by have := (dy_iff a b).1 hd; omega⟩
        have KS := Lib.hid (fun W E (hW : Laid W) (h : Is W E c) => spans_yes E c a b m W hW h hce hd hm)
        have KRS := Lib.hid (fun W (g : Later w W) => (have q := (dy_iff a b).1 hd; rspans_any D c a b m W (hc.later g) hce q.1 (by omega) (by omega) hm))
        have KD := Lib.hid (fun W => rdays_any a b W a0 a1 b0 b1)
        rw [hd] at KD
        have KRR := Lib.hid (fun W (g : Later w W) => rrow_any D c a W (hc.later g) hce r0 r1)
        have s0 : ¬ a < 411 := by omega
        have s1 : ¬ 3651988 < a := by omega
        generalize cu (unc c a) (mv c.z (a * 1440)) (mv c.z ((a + 1) * 1440)) = XR at *
        generalize sps c a m = XS at *
        clear hm
        clear hL hc hce hd
        go_enter Tryz.func3, Tryz.ntmps3
        go_wp2_with (refine Conf.load_at D HZ.out rfl (.tmp 3) rfl w.heap.size rfl HA0.out ?_)
        refine (KF.out _ HG0.out).mono ?_
        rintro e w1 ⟨rfl, hg1⟩
        have HG1 := Lib.hid (gtrans HG0.out hg1)
        have HA1 := Lib.hid (HA0.out.later hg1)
        clear hg1
        cases e1 : Conf.fw c with
        | false =>
          go_wp2_with (fail)
          refine (A.out _ (LL.out _ HG1.out)).mono ?_
          rintro e w2 ⟨rfl, hg2⟩
          have HG2 := Lib.hid (gtrans HG1.out hg2)
          have HA2 := Lib.hid (HA1.out.later hg2)
          clear hg2
          go_wp2_with fail
          go_ret
          exact ⟨rfl, HG2.out⟩
        | true =>
          have KO1 := Lib.hid (fun W (g : Later w W) => KO.out W g e1)
          clear KO
          go_wp2_with (refine Conf.load_at D HZ.out rfl (.tmp 3) rfl w.heap.size rfl HA1.out ?_)
          refine (KO1.out _ HG1.out).mono ?_
          rintro e w2 ⟨E2, rfl, ho, hg2⟩
          have HG2 := Lib.hid (gtrans HG1.out hg2)
          have HA2 := Lib.hid (HA1.out.later hg2)
          have HE2 := Lib.hid ho.is
          clear ho
          clear hg2
          go_wp2_with (fail)
          refine (KR.out _ _ (LL.out _ HG2.out) HE2.out).mono ?_
          rintro e w3 ⟨vr, rfl, hvr, hg3⟩
          have HG3 := Lib.hid (gtrans HG2.out hg3)
          have HA3 := Lib.hid (HA2.out.later hg3)
          have HVR := Lib.hid hvr.ws
          clear hvr
          clear hg3
          go_wp2_with (refine Conf.load_at D HZ.out rfl (.tmp 3) rfl w.heap.size rfl HA3.out ?_)
          refine (KO1.out _ HG3.out).mono ?_
          rintro e w4 ⟨E4, rfl, ho, hg4⟩
          have HG4 := Lib.hid (gtrans HG3.out hg4)
          have HA4 := Lib.hid (HA3.out.later hg4)
          have HE4 := Lib.hid ho.is
          clear ho
          have HVR := Lib.hid (HVR.out.later hg4)
          clear hg4
          go_wp2_with (fail)
          refine (KS.out _ _ (LL.out _ HG4.out) HE4.out).mono ?_
          rintro e w5 ⟨vs, rfl, hvs, hg5⟩
          have HG5 := Lib.hid (gtrans HG4.out hg5)
          have HA5 := Lib.hid (HA4.out.later hg5)
          have HVR := Lib.hid (HVR.out.later hg5)
          have HVS := Lib.hid hvs.ws
          clear hvs
          clear hg5
          go_wp2_with (refine Conf.load_at D HZ.out rfl (.tmp 3) rfl w.heap.size rfl HA5.out ?_)
          refine (KC.out _ HG5.out).mono ?_
          rintro e w6 ⟨rfl, hg6⟩
          have HG6 := Lib.hid (gtrans HG5.out hg6)
          have HA6 := Lib.hid (HA5.out.later hg6)
          have HVR := Lib.hid (HVR.out.later hg6)
          have HVS := Lib.hid (HVS.out.later hg6)
          clear hg6
          go_wp2_with (fail)
          refine (KD.out _).mono ?_
          rintro e w7 ⟨rfl, hg7⟩
          have HG7 := Lib.hid (gtrans HG6.out hg7)
          have HA7 := Lib.hid (HA6.out.later hg7)
          have HVR := Lib.hid (HVR.out.later hg7)
          have HVS := Lib.hid (HVS.out.later hg7)
          clear hg7
          go_wp2_with (refine load_at_g D HZ.out ((want_of rfl rfl rfl rfl).trans rfl) (.tmp 3) rfl w.heap.size rfl HA7.out ?_)
          refine (KRS.out _ HG7.out).mono ?_
          rintro e w8 ⟨vt, rfl, hvt, hg8⟩
          have HG8 := Lib.hid (gtrans HG7.out hg8)
          have HA8 := Lib.hid (HA7.out.later hg8)
          have HVR := Lib.hid (HVR.out.later hg8)
          have HVS := Lib.hid (HVS.out.later hg8)
          have HVT := Lib.hid hvt.ws
          clear hvt
          clear hg8
          go_wp2_with (fail)
          refine (Span.same_any vs vt XS XS _ HVS.out HVT.out).mono ?_
          rintro e w9 ⟨rfl, hg9⟩
          have HG9 := Lib.hid (gtrans HG8.out hg9)
          have HA9 := Lib.hid (HA8.out.later hg9)
          have HVR := Lib.hid (HVR.out.later hg9)
          have HVS := Lib.hid (HVS.out.later hg9)
          clear hg9
          rw [decide_eq_true (rfl : XS = XS)]
          go_wp2_with (fail)
          refine (A.out _ (LL.out _ HG9.out)).mono ?_
          rintro e w10 ⟨rfl, hg10⟩
          have HG10 := Lib.hid (gtrans HG9.out hg10)
          have HA10 := Lib.hid (HA9.out.later hg10)
          have HVS := Lib.hid (HVS.out.later hg10)
          have HVR := Lib.hid (HVR.out.later hg10)
          clear hg10
          go_wp2_with (refine load_at_g D HZ.out ((want_of rfl rfl rfl rfl).trans rfl) (.tmp 3) rfl w.heap.size rfl HA10.out ?_)
          refine (KRR.out _ HG10.out).mono ?_
          rintro e w11 ⟨vu, rfl, hvu, hg11⟩
          have HG11 := Lib.hid (gtrans HG10.out hg11)
          have HA11 := Lib.hid (HA10.out.later hg11)
          have HVR := Lib.hid (HVR.out.later hg11)
          have HVS := Lib.hid (HVS.out.later hg11)
          have HVU := Lib.hid hvu.ws
          clear hvu
          clear hg11
          go_wp2_with (fail)
          refine (Span.same_any vr vu XR XR _ HVR.out HVU.out).mono ?_
          rintro e w12 ⟨rfl, hg12⟩
          have HG12 := Lib.hid (gtrans HG11.out hg12)
          have HA12 := Lib.hid (HA11.out.later hg12)
          have HVR := Lib.hid (HVR.out.later hg12)
          have HVS := Lib.hid (HVS.out.later hg12)
          clear hg12
          rw [decide_eq_true (rfl : XR = XR)]
          go_wp2_with fail
          go_ret
          exact ⟨rfl, HG12.out⟩
      | false =>
        have KR := Lib.hid (fun W E (hW : Laid W) (h : Is W E c) => row_yes E c a W hW h hce r0 r1)
        have KS := Lib.hid (fun W E (h : Is W E c) => spans_day E c a b W h hce a0 a1 b0 b1 hd)
        have KD := Lib.hid (fun W => rdays_any a b W a0 a1 b0 b1)
        rw [hd] at KD
        have KRR := Lib.hid (fun W (g : Later w W) => rrow_any D c a W (hc.later g) hce r0 r1)
        have s0 : ¬ a < 411 := by omega
        have s1 : ¬ 3651988 < a := by omega
        generalize cu (unc c a) (mv c.z (a * 1440)) (mv c.z ((a + 1) * 1440)) = XR at *
        clear hL hc hce hd
        go_enter Tryz.func3, Tryz.ntmps3
        go_wp2_with (refine Conf.load_at D HZ.out rfl (.tmp 3) rfl w.heap.size rfl HA0.out ?_)
        refine (KF.out _ HG0.out).mono ?_
        rintro e w1 ⟨rfl, hg1⟩
        have HG1 := Lib.hid (gtrans HG0.out hg1)
        have HA1 := Lib.hid (HA0.out.later hg1)
        clear hg1
        cases e1 : Conf.fw c with
        | false =>
          go_wp2_with (fail)
          refine (A.out _ (LL.out _ HG1.out)).mono ?_
          rintro e w2 ⟨rfl, hg2⟩
          have HG2 := Lib.hid (gtrans HG1.out hg2)
          have HA2 := Lib.hid (HA1.out.later hg2)
          clear hg2
          go_wp2_with fail
          go_ret
          exact ⟨rfl, HG2.out⟩
        | true =>
          have KO1 := Lib.hid (fun W (g : Later w W) => KO.out W g e1)
          clear KO
          go_wp2_with (refine Conf.load_at D HZ.out rfl (.tmp 3) rfl w.heap.size rfl HA1.out ?_)
          refine (KO1.out _ HG1.out).mono ?_
          rintro e w2 ⟨E2, rfl, ho, hg2⟩
          have HG2 := Lib.hid (gtrans HG1.out hg2)
          have HA2 := Lib.hid (HA1.out.later hg2)
          have HE2 := Lib.hid ho.is
          clear ho
          clear hg2
          go_wp2_with (fail)
          refine (KR.out _ _ (LL.out _ HG2.out) HE2.out).mono ?_
          rintro e w3 ⟨vr, rfl, hvr, hg3⟩
          have HG3 := Lib.hid (gtrans HG2.out hg3)
          have HA3 := Lib.hid (HA2.out.later hg3)
          have HVR := Lib.hid hvr.ws
          clear hvr
          clear hg3
          go_wp2_with (refine Conf.load_at D HZ.out rfl (.tmp 3) rfl w.heap.size rfl HA3.out ?_)
          refine (KO1.out _ HG3.out).mono ?_
          rintro e w4 ⟨E4, rfl, ho, hg4⟩
          have HG4 := Lib.hid (gtrans HG3.out hg4)
          have HA4 := Lib.hid (HA3.out.later hg4)
          have HE4 := Lib.hid ho.is
          clear ho
          have HVR := Lib.hid (HVR.out.later hg4)
          clear hg4
          go_wp2_with (fail)
          refine (KS.out _ _ HE4.out).mono ?_
          rintro e w5 ⟨rfl, hg5⟩
          have HG5 := Lib.hid (gtrans HG4.out hg5)
          have HA5 := Lib.hid (HA4.out.later hg5)
          have HVR := Lib.hid (HVR.out.later hg5)
          clear hg5
          go_wp2_with (refine Conf.load_at D HZ.out rfl (.tmp 3) rfl w.heap.size rfl HA5.out ?_)
          refine (KC.out _ HG5.out).mono ?_
          rintro e w6 ⟨rfl, hg6⟩
          have HG6 := Lib.hid (gtrans HG5.out hg6)
          have HA6 := Lib.hid (HA5.out.later hg6)
          have HVR := Lib.hid (HVR.out.later hg6)
          clear hg6
          go_wp2_with (fail)
          refine (KD.out _).mono ?_
          rintro e w7 ⟨rfl, hg7⟩
          have HG7 := Lib.hid (gtrans HG6.out hg7)
          have HA7 := Lib.hid (HA6.out.later hg7)
          have HVR := Lib.hid (HVR.out.later hg7)
          clear hg7
          go_wp2_with (fail)
          refine (A.out _ (LL.out _ HG7.out)).mono ?_
          rintro e w8 ⟨rfl, hg8⟩
          have HG8 := Lib.hid (gtrans HG7.out hg8)
          have HA8 := Lib.hid (HA7.out.later hg8)
          have HVR := Lib.hid (HVR.out.later hg8)
          clear hg8
          go_wp2_with (refine load_at_g D HZ.out ((want_of rfl rfl rfl rfl).trans rfl) (.tmp 3) rfl w.heap.size rfl HA8.out ?_)
          refine (KRR.out _ HG8.out).mono ?_
          rintro e w9 ⟨vu, rfl, hvu, hg9⟩
          have HG9 := Lib.hid (gtrans HG8.out hg9)
          have HA9 := Lib.hid (HA8.out.later hg9)
          have HVR := Lib.hid (HVR.out.later hg9)
          have HVU := Lib.hid hvu.ws
          clear hvu
          clear hg9
          go_wp2_with (fail)
          refine (Span.same_any vr vu XR XR _ HVR.out HVU.out).mono ?_
          rintro e w10 ⟨rfl, hg10⟩
          have HG10 := Lib.hid (gtrans HG9.out hg10)
          have HA10 := Lib.hid (HA9.out.later hg10)
          have HVR := Lib.hid (HVR.out.later hg10)
          clear hg10
          rw [decide_eq_true (rfl : XR = XR)]
          go_wp2_with fail
          go_ret
          exact ⟨rfl, HG10.out⟩
    · have r2 : a < 411 ∨ 3651988 < a := by omega
      clear r
      cases hd : dy a b with
      | true =>
        rcases (by omega : a < 411 ∨ (¬ a < 411 ∧ 3651988 < a)) with q0 | ⟨q0, q1⟩
        all_goals
          have KR := Lib.hid (fun W E (hW : Laid W) (h : Is W E c) => row_day E c a W h hce (by omega))
          obtain ⟨m, hm⟩ : ∃ m : Nat, b = a + m - 1 := ⟨(b - a + 1).toNat, by have := (dy_iff a b).1 hd; omega⟩
          have KS := Lib.hid (fun W E (hW : Laid W) (h : Is W E c) => spans_yes E c a b m W hW h hce hd hm)
          have KRS := Lib.hid (fun W (g : Later w W) => (have q := (dy_iff a b).1 hd; rspans_any D c a b m W (hc.later g) hce q.1 (by omega) (by omega) hm))
          have KD := Lib.hid (fun W => rdays_any a b W a0 a1 b0 b1)
          rw [hd] at KD
          generalize sps c a m = XS at *
          clear hm
          clear hL hc hce hd
          go_enter Tryz.func3, Tryz.ntmps3
          go_wp2_with (refine Conf.load_at D HZ.out rfl (.tmp 3) rfl w.heap.size rfl HA0.out ?_)
          refine (KF.out _ HG0.out).mono ?_
          rintro e w1 ⟨rfl, hg1⟩
          have HG1 := Lib.hid (gtrans HG0.out hg1)
          have HA1 := Lib.hid (HA0.out.later hg1)
          clear hg1
          cases e1 : Conf.fw c with
          | false =>
            go_wp2_with (fail)
            refine (A.out _ (LL.out _ HG1.out)).mono ?_
            rintro e w2 ⟨rfl, hg2⟩
            have HG2 := Lib.hid (gtrans HG1.out hg2)
            have HA2 := Lib.hid (HA1.out.later hg2)
            clear hg2
            go_wp2_with fail
            go_ret
            exact ⟨rfl, HG2.out⟩
          | true =>
            have KO1 := Lib.hid (fun W (g : Later w W) => KO.out W g e1)
            clear KO
            go_wp2_with (refine Conf.load_at D HZ.out rfl (.tmp 3) rfl w.heap.size rfl HA1.out ?_)
            refine (KO1.out _ HG1.out).mono ?_
            rintro e w2 ⟨E2, rfl, ho, hg2⟩
            have HG2 := Lib.hid (gtrans HG1.out hg2)
            have HA2 := Lib.hid (HA1.out.later hg2)
            have HE2 := Lib.hid ho.is
            clear ho
            clear hg2
            go_wp2_with (fail)
            refine (KR.out _ _ (LL.out _ HG2.out) HE2.out).mono ?_
            rintro e w3 ⟨rfl, hg3⟩
            have HG3 := Lib.hid (gtrans HG2.out hg3)
            have HA3 := Lib.hid (HA2.out.later hg3)
            clear hg3
            go_wp2_with (refine Conf.load_at D HZ.out rfl (.tmp 3) rfl w.heap.size rfl HA3.out ?_)
            refine (KO1.out _ HG3.out).mono ?_
            rintro e w4 ⟨E4, rfl, ho, hg4⟩
            have HG4 := Lib.hid (gtrans HG3.out hg4)
            have HA4 := Lib.hid (HA3.out.later hg4)
            have HE4 := Lib.hid ho.is
            clear ho
            clear hg4
            go_wp2_with (fail)
            refine (KS.out _ _ (LL.out _ HG4.out) HE4.out).mono ?_
            rintro e w5 ⟨vs, rfl, hvs, hg5⟩
            have HG5 := Lib.hid (gtrans HG4.out hg5)
            have HA5 := Lib.hid (HA4.out.later hg5)
            have HVS := Lib.hid hvs.ws
            clear hvs
            clear hg5
            go_wp2_with (refine Conf.load_at D HZ.out rfl (.tmp 3) rfl w.heap.size rfl HA5.out ?_)
            refine (KC.out _ HG5.out).mono ?_
            rintro e w6 ⟨rfl, hg6⟩
            have HG6 := Lib.hid (gtrans HG5.out hg6)
            have HA6 := Lib.hid (HA5.out.later hg6)
            have HVS := Lib.hid (HVS.out.later hg6)
            clear hg6
            go_wp2_with (fail)
            refine (KD.out _).mono ?_
            rintro e w7 ⟨rfl, hg7⟩
            have HG7 := Lib.hid (gtrans HG6.out hg7)
            have HA7 := Lib.hid (HA6.out.later hg7)
            have HVS := Lib.hid (HVS.out.later hg7)
            clear hg7
            go_wp2_with (refine load_at_g D HZ.out ((want_of rfl rfl rfl rfl).trans rfl) (.tmp 3) rfl w.heap.size rfl HA7.out ?_)
            refine (KRS.out _ HG7.out).mono ?_
            rintro e w8 ⟨vt, rfl, hvt, hg8⟩
            have HG8 := Lib.hid (gtrans HG7.out hg8)
            have HA8 := Lib.hid (HA7.out.later hg8)
            have HVS := Lib.hid (HVS.out.later hg8)
            have HVT := Lib.hid hvt.ws
            clear hvt
            clear hg8
            go_wp2_with (fail)
            refine (Span.same_any vs vt XS XS _ HVS.out HVT.out).mono ?_
            rintro e w9 ⟨rfl, hg9⟩
            have HG9 := Lib.hid (gtrans HG8.out hg9)
            have HA9 := Lib.hid (HA8.out.later hg9)
            have HVS := Lib.hid (HVS.out.later hg9)
            clear hg9
            rw [decide_eq_true (rfl : XS = XS)]
            go_wp2_with (fail)
            refine (A.out _ (LL.out _ HG9.out)).mono ?_
            rintro e w10 ⟨rfl, hg10⟩
            have HG10 := Lib.hid (gtrans HG9.out hg10)
            have HA10 := Lib.hid (HA9.out.later hg10)
            clear hg10
            go_wp2_with fail
            go_ret
            exact ⟨rfl, HG10.out⟩
      | false =>
        rcases (by omega : a < 411 ∨ (¬ a < 411 ∧ 3651988 < a)) with q0 | ⟨q0, q1⟩
        all_goals
          have KR := Lib.hid (fun W E (hW : Laid W) (h : Is W E c) => row_day E c a W h hce (by omega))
          have KS := Lib.hid (fun W E (h : Is W E c) => spans_day E c a b W h hce a0 a1 b0 b1 hd)
          have KD := Lib.hid (fun W => rdays_any a b W a0 a1 b0 b1)
          rw [hd] at KD
          clear hL hc hce hd
          go_enter Tryz.func3, Tryz.ntmps3
          go_wp2_with (refine Conf.load_at D HZ.out rfl (.tmp 3) rfl w.heap.size rfl HA0.out ?_)
          refine (KF.out _ HG0.out).mono ?_
          rintro e w1 ⟨rfl, hg1⟩
          have HG1 := Lib.hid (gtrans HG0.out hg1)
          have HA1 := Lib.hid (HA0.out.later hg1)
          clear hg1
          cases e1 : Conf.fw c with
          | false =>
            go_wp2_with (fail)
            refine (A.out _ (LL.out _ HG1.out)).mono ?_
            rintro e w2 ⟨rfl, hg2⟩
            have HG2 := Lib.hid (gtrans HG1.out hg2)
            have HA2 := Lib.hid (HA1.out.later hg2)
            clear hg2
            go_wp2_with fail
            go_ret
            exact ⟨rfl, HG2.out⟩
          | true =>
            have KO1 := Lib.hid (fun W (g : Later w W) => KO.out W g e1)
            clear KO
            go_wp2_with (refine Conf.load_at D HZ.out rfl (.tmp 3) rfl w.heap.size rfl HA1.out ?_)
            refine (KO1.out _ HG1.out).mono ?_
            rintro e w2 ⟨E2, rfl, ho, hg2⟩
            have HG2 := Lib.hid (gtrans HG1.out hg2)
            have HA2 := Lib.hid (HA1.out.later hg2)
            have HE2 := Lib.hid ho.is
            clear ho
            clear hg2
            go_wp2_with (fail)
            refine (KR.out _ _ (LL.out _ HG2.out) HE2.out).mono ?_
            rintro e w3 ⟨rfl, hg3⟩
            have HG3 := Lib.hid (gtrans HG2.out hg3)
            have HA3 := Lib.hid (HA2.out.later hg3)
            clear hg3
            go_wp2_with (refine Conf.load_at D HZ.out rfl (.tmp 3) rfl w.heap.size rfl HA3.out ?_)
            refine (KO1.out _ HG3.out).mono ?_
            rintro e w4 ⟨E4, rfl, ho, hg4⟩
            have HG4 := Lib.hid (gtrans HG3.out hg4)
            have HA4 := Lib.hid (HA3.out.later hg4)
            have HE4 := Lib.hid ho.is
            clear ho
            clear hg4
            go_wp2_with (fail)
            refine (KS.out _ _ HE4.out).mono ?_
            rintro e w5 ⟨rfl, hg5⟩
            have HG5 := Lib.hid (gtrans HG4.out hg5)
            have HA5 := Lib.hid (HA4.out.later hg5)
            clear hg5
            go_wp2_with (refine Conf.load_at D HZ.out rfl (.tmp 3) rfl w.heap.size rfl HA5.out ?_)
            refine (KC.out _ HG5.out).mono ?_
            rintro e w6 ⟨rfl, hg6⟩
            have HG6 := Lib.hid (gtrans HG5.out hg6)
            have HA6 := Lib.hid (HA5.out.later hg6)
            clear hg6
            go_wp2_with (fail)
            refine (KD.out _).mono ?_
            rintro e w7 ⟨rfl, hg7⟩
            have HG7 := Lib.hid (gtrans HG6.out hg7)
            have HA7 := Lib.hid (HA6.out.later hg7)
            clear hg7
            go_wp2_with (fail)
            refine (A.out _ (LL.out _ HG7.out)).mono ?_
            rintro e w8 ⟨rfl, hg8⟩
            have HG8 := Lib.hid (gtrans HG7.out hg8)
            have HA8 := Lib.hid (HA7.out.later hg8)
            clear hg8
            go_wp2_with fail
            go_ret
            exact ⟨rfl, HG8.out⟩
  · have e0 : (ce c != 0) = true := by simpa using hce
    have KR := Lib.hid (fun W E (h : Is W E c) => row_no E c a W h hce)
    have KS := Lib.hid (fun W E (h : Is W E c) => spans_no E c a b W h hce)
    clear hL hc hce
    generalize ce c = k at *
    go_enter Tryz.func3, Tryz.ntmps3
    go_wp2_with (refine Conf.load_at D HZ.out rfl (.tmp 3) rfl w.heap.size rfl HA0.out ?_)
    refine (KF.out _ HG0.out).mono ?_
    rintro e w1 ⟨rfl, hg1⟩
    have HG1 := Lib.hid (gtrans HG0.out hg1)
    have HA1 := Lib.hid (HA0.out.later hg1)
    clear hg1
    cases e1 : Conf.fw c with
    | false =>
      go_wp2_with (fail)
      refine (A.out _ (LL.out _ HG1.out)).mono ?_
      rintro e w2 ⟨rfl, hg2⟩
      have HG2 := Lib.hid (gtrans HG1.out hg2)
      have HA2 := Lib.hid (HA1.out.later hg2)
      clear hg2
      go_wp2_with fail
      go_ret
      exact ⟨rfl, HG2.out⟩
    | true =>
      have KO1 := Lib.hid (fun W (g : Later w W) => KO.out W g e1)
      clear KO
      go_wp2_with (refine Conf.load_at D HZ.out rfl (.tmp 3) rfl w.heap.size rfl HA1.out ?_)
      refine (KO1.out _ HG1.out).mono ?_
      rintro e w2 ⟨E2, rfl, ho, hg2⟩
      have HG2 := Lib.hid (gtrans HG1.out hg2)
      have HA2 := Lib.hid (HA1.out.later hg2)
      have HE2 := Lib.hid ho.is
      clear ho
      clear hg2
      go_wp2_with (fail)
      refine (KR.out _ _ HE2.out).mono ?_
      rintro e w3 ⟨rfl, hg3⟩
      have HG3 := Lib.hid (gtrans HG2.out hg3)
      have HA3 := Lib.hid (HA2.out.later hg3)
      clear hg3
      go_wp2_with (refine Conf.load_at D HZ.out rfl (.tmp 3) rfl w.heap.size rfl HA3.out ?_)
      refine (KO1.out _ HG3.out).mono ?_
      rintro e w4 ⟨E4, rfl, ho, hg4⟩
      have HG4 := Lib.hid (gtrans HG3.out hg4)
      have HA4 := Lib.hid (HA3.out.later hg4)
      have HE4 := Lib.hid ho.is
      clear ho
      clear hg4
      go_wp2_with (fail)
      refine (KS.out _ _ HE4.out).mono ?_
      rintro e w5 ⟨rfl, hg5⟩
      have HG5 := Lib.hid (gtrans HG4.out hg5)
      have HA5 := Lib.hid (HA4.out.later hg5)
      clear hg5
      go_wp2_with (refine Conf.load_at D HZ.out rfl (.tmp 3) rfl w.heap.size rfl HA5.out ?_)
      refine (KC.out _ HG5.out).mono ?_
      rintro e w6 ⟨rfl, hg6⟩
      have HG6 := Lib.hid (gtrans HG5.out hg6)
      have HA6 := Lib.hid (HA5.out.later hg6)
      clear hg6
      go_wp2_with (fail)
      refine (A.out _ (LL.out _ HG6.out)).mono ?_
      rintro e w7 ⟨rfl, hg7⟩
      have HG7 := Lib.hid (gtrans HG6.out hg7)
      have HA7 := Lib.hid (HA6.out.later hg7)
      clear hg7
      go_wp2_with fail
      go_ret
      exact ⟨rfl, HG7.out⟩

end Go.Proofs.YtihdijkplmfhfaaGreatDoor.Table
