/-
  The mode at an instant stands in its day's row: the walk. Condition: the table of months lies where the program lays it.
-/
import Derived.Test.YtihdijkplmfhfaaGreatDoorM26
namespace Go.Proofs.YtihdijkplmfhfaaGreatDoor.Table
set_option maxRecDepth 100000
open Go.ChangeShapes Go.WideShapes Go.ChangeAt Go.RowKit
open Go.Proofs.YtihdijkplmfhfaaGreatDoor.Divs Go.Proofs.YtihdijkplmfhfaaGreatDoor.Grow
open Go.Proofs.YtihdijkplmfhfaaGreatDoor.Greg (Laid)
open Go.Proofs.YtihdijkplmfhfaaGreatDoor.Zo Go.Proofs.YtihdijkplmfhfaaGreatDoor.Win Go.Proofs.YtihdijkplmfhfaaGreatDoor.Tab
open Go.Proofs.YtihdijkplmfhfaaGreatDoor.Cal (yr om od)
open Go.Proofs.YtihdijkplmfhfaaGreatDoor.Cf (Cg Wn ce wo)
open Go.Proofs.YtihdijkplmfhfaaGreatDoor.Conf (wc cc Is)
open Go.Proofs.YtihdijkplmfhfaaGreatDoor.Zone (Zat zc lD lM sE sE_ok)
open Go.Proofs.YtihdijkplmfhfaaGreatDoor.Span (Ws WL sc)
open Go.Proofs.YtihdijkplmfhfaaGreatDoor.Window (RA)
open Go.Proofs.YtihdijkplmfhfaaGreatDoor.Sp (cu)
open Go.Proofs.YtihdijkplmfhfaaGreatDoor.Eachn
set_option linter.unusedVariables false

open Go.Proofs.YtihdijkplmfhfaaGreatDoor.Sp (best md)

set_option maxHeartbeats 4000000 in
theorem day_core (w : World) (hL : Laid w) (D : Array Value) (c : Cg) (hc : Is w D c) (t : Int) (ht : -9223372036854775808 ≤ t ∧ t ≤ 9223372036854775807) : Calls Tryz.prog 5 #[.agg D, .int .i64 t] w fun e w' => e = .returned (.bool true) ∧ Later w w' := by
  have A := Lib.hid (fun W (hW : Laid W) => awake_any W hW)
  have KF := Lib.hid (fun W (g : Later w W) => Conf.few_of (hc.later g))
  have KO := Lib.hid (fun W (g : Later w W) hf => Conf.own_of (hc.later g) hf)
  have KC := Lib.hid (fun W (g : Later w W) => Conf.rcheck_of (hc.later g))
  have HZ := Lib.hid hc.size
  have HG0 := Lib.hid ((Later.refl w).alloc D 33)
  have HA0 := Lib.hid (Conf.At.new w D 33)
  have LL := Lib.hid (fun W (g : Later w W) => hL.grown g)
  by_cases hce : ce c = 0
  · rw [hce] at KC
    obtain ⟨hz, _⟩ := ce_parts c hce
    have KV := Lib.hid (fun W (g : Later w W) => rserved_any D c t W (hc.later g) hz)
    cases hs : sv c.z t with
    | false =>
      rw [hs] at KV
      clear hL hc hce hz hs
      go_enter Tryz.func5, Tryz.ntmps5
      go_wp2_with (refine Conf.load_at D HZ.out rfl (.tmp 2) rfl w.heap.size rfl HA0.out ?_)
      refine (KF.out _ HG0.out).mono ?_
      rintro e w1 ⟨rfl, hg1⟩
      have HG1 := Lib.hid (gtrans HG0.out hg1)
      have HA1 := Lib.hid (HA0.out.later hg1)
      clear hg1
      cases e1 : Conf.fw c with
      | false =>
        go_wp2_with (fail)
        refine (A.out _ (LL.out _ HG1.out)).mono ?_
        rintro e w2 ⟨rfl, hg2⟩
        have HG2 := Lib.hid (gtrans HG1.out hg2)
        have HA2 := Lib.hid (HA1.out.later hg2)
        clear hg2
        go_wp2_with fail
        go_ret
        exact ⟨rfl, HG2.out⟩
      | true =>
        have KO1 := Lib.hid (fun W (g : Later w W) => KO.out W g e1)
        clear KO
        go_wp2_with (refine load_at_g D HZ.out ((want_of rfl rfl rfl rfl).trans rfl) (.tmp 2) rfl w.heap.size rfl HA1.out ?_)
        refine (KC.out _ HG1.out).mono ?_
        rintro e w2 ⟨rfl, hg2⟩
        have HG2 := Lib.hid (gtrans HG1.out hg2)
        have HA2 := Lib.hid (HA1.out.later hg2)
        clear hg2
        go_wp2_with (refine load_at_g D HZ.out ((want_of rfl rfl rfl rfl).trans rfl) (.tmp 2) rfl w.heap.size rfl HA2.out ?_)
        refine (KV.out _ HG2.out).mono ?_
        rintro e w3 ⟨rfl, hg3⟩
        have HG3 := Lib.hid (gtrans HG2.out hg3)
        have HA3 := Lib.hid (HA2.out.later hg3)
        clear hg3
        go_wp2_with (fail)
        refine (A.out _ (LL.out _ HG3.out)).mono ?_
        rintro e w4 ⟨rfl, hg4⟩
        have HG4 := Lib.hid (gtrans HG3.out hg4)
        have HA4 := Lib.hid (HA3.out.later hg4)
        clear hg4
        go_wp2_with fail
        go_ret
        exact ⟨rfl, HG4.out⟩
    | true =>
      have hd := sv_day c.z hz t hs
      have hE : Zone.sE c.z t = 0 := by
        have k := (sv_iff c.z hz t).1 hs
        have hz' := hz
        unfold May at hz'
        exact (Zone.sE_ok c.z t).2 ⟨hz, by omega, by omega⟩
      have eD : Zone.lD c.z t = td c.z t / 1440 := by unfold Zone.lD; rw [if_pos hE]
      have KL := Lib.hid (fun W (g : Later w W) => Zone.local_any c.z t W (hL.grown g))
      rw [hE, eD] at KL
      have HZn := Lib.hid (fun W (h : Conf.At W w.heap.size D) => is_zone hc h)
      rw [hs] at KV
      obtain ⟨d, hdd⟩ : ∃ d, td c.z t / 1440 = d := ⟨_, rfl⟩
      obtain ⟨LR, hLR⟩ : ∃ LR, LR = cu (unc c d) (mv c.z (d * 1440)) (mv c.z ((d + 1) * 1440)) := ⟨_, rfl⟩
      obtain ⟨q1, q2, q3⟩ := day_row hce t d hs hdd LR hLR
      rw [hdd] at KL hd
      have KR := Lib.hid (fun W E (hW : Laid W) (h : Is W E c) => row_yes E c d W hW h hce (by omega) (by omega))
      rw [← hLR] at KR
      have KM := Lib.hid (fun W E (hW : Laid W) (h : Is W E c) => mode_yes E c t W hW h hce)
      have KE := Lib.hid (fun W (hW : Laid W) => Window.moment_any c.z (d + 1) 0 W hW)
      have wE0 : wE c.z (d + 1) 0 = 0 := (wE_ok _ _ _).2 ⟨hz, by omega, by omega, by omega, by omega⟩
      have wV0 : wV c.z (d + 1) 0 = mv c.z ((d + 1) * 1440) := by unfold wV; rw [if_pos wE0, Int.add_zero]
      rw [wE0, wV0] at KE
      have KT : Hid (∀ v W, Ws W v LR → Calls Tryz.prog 23 #[v, .int .i64 t] W fun e w' => e = .returned (.tuple #[.agg #[.int .i64 (fv LR t).f, .int .i64 (fv LR t).t, .int .i64 (fv LR t).m, .int .i64 (fv LR t).p], .bool (fb LR t)]) ∧ Later W w') := Lib.hid (fun v W h => Span.at_any v LR t W h)
      have d0 := hd.1
      have d1 := hd.2
      obtain ⟨T, hT⟩ : ∃ T, Zone.lM c.z t = T := ⟨_, rfl⟩
      rw [hT] at KL
      clear hL hc hce hz hs hE eD hdd hLR hd wE0 wV0 hT
      generalize mv c.z ((d + 1) * 1440) = b at *
      generalize mM c t = M at *
      generalize mS c t = S at *
      generalize fv LR t = Y at *
      generalize fb LR t = B at *
      have three : (b ≤ t ∧ B = false) ∨ (t < b ∧ B = false ∧ M = 0 ∧ S = 0) ∨ (t < b ∧ B = true ∧ M = Y.m ∧ S ≤ Y.f ∧ S ≤ t) := by
        by_cases g : b ≤ t
        · exact .inl ⟨g, q1 g⟩
        · cases hB : B with
          | false => exact .inr (.inl ⟨by omega, rfl, q2 (by omega) hB⟩)
          | true => exact .inr (.inr ⟨by omega, rfl, q3 (by omega) hB⟩)
      clear q1 q2 q3
      rcases three with ⟨g, rfl⟩ | ⟨g, rfl, rfl, rfl⟩ | ⟨g, rfl, rfl, g1, g2⟩
      · go_enter Tryz.func5, Tryz.ntmps5
        go_wp2_with (refine Conf.load_at D HZ.out rfl (.tmp 2) rfl w.heap.size rfl HA0.out ?_)
        refine (KF.out _ HG0.out).mono ?_
        rintro e w1 ⟨rfl, hg1⟩
        have HG1 := Lib.hid (gtrans HG0.out hg1)
        have HA1 := Lib.hid (HA0.out.later hg1)
        clear hg1
        cases e1 : Conf.fw c with
        | false =>
          go_wp2_with (fail)
          refine (A.out _ (LL.out _ HG1.out)).mono ?_
          rintro e w2 ⟨rfl, hg2⟩
          have HG2 := Lib.hid (gtrans HG1.out hg2)
          have HA2 := Lib.hid (HA1.out.later hg2)
          clear hg2
          go_wp2_with fail
          go_ret
          exact ⟨rfl, HG2.out⟩
        | true =>
          have KO1 := Lib.hid (fun W (g : Later w W) => KO.out W g e1)
          clear KO
          go_wp2_with (refine load_at_g D HZ.out ((want_of rfl rfl rfl rfl).trans rfl) (.tmp 2) rfl w.heap.size rfl HA1.out ?_)
          refine (KC.out _ HG1.out).mono ?_
          rintro e w2 ⟨rfl, hg2⟩
          have HG2 := Lib.hid (gtrans HG1.out hg2)
          have HA2 := Lib.hid (HA1.out.later hg2)
          clear hg2
          go_wp2_with (refine load_at_g D HZ.out ((want_of rfl rfl rfl rfl).trans rfl) (.tmp 2) rfl w.heap.size rfl HA2.out ?_)
          refine (KV.out _ HG2.out).mono ?_
          rintro e w3 ⟨rfl, hg3⟩
          have HG3 := Lib.hid (gtrans HG2.out hg3)
          have HA3 := Lib.hid (HA2.out.later hg3)
          clear hg3
          go_wp2_with (refine Conf.load_zn c.z rfl (.tmp 33) rfl w.heap.size 13 rfl (HZn.out _ HA3.out) ?_)
          refine (KL.out _ HG3.out).mono ?_
          rintro e w4 ⟨rfl, hg4⟩
          have HG4 := Lib.hid (gtrans HG3.out hg4)
          have HA4 := Lib.hid (HA3.out.later hg4)
          clear hg4
          go_wp2_with (refine Conf.load_at D HZ.out rfl (.tmp 2) rfl w.heap.size rfl HA4.out ?_)
          refine (KO1.out _ HG4.out).mono ?_
          rintro e w5 ⟨E5, rfl, ho, hg5⟩
          have HG5 := Lib.hid (gtrans HG4.out hg5)
          have HA5 := Lib.hid (HA4.out.later hg5)
          have HE5 := Lib.hid ho.is
          clear ho
          clear hg5
          go_wp2_with (fail)
          refine (KR.out _ _ (LL.out _ HG5.out) HE5.out).mono ?_
          rintro e w6 ⟨vr, rfl, hvr, hg6⟩
          have HG6 := Lib.hid (gtrans HG5.out hg6)
          have HA6 := Lib.hid (HA5.out.later hg6)
          have HVR := Lib.hid hvr.ws
          clear hvr
          clear hg6
          go_wp2_with (refine Conf.load_at D HZ.out rfl (.tmp 2) rfl w.heap.size rfl HA6.out ?_)
          refine (KO1.out _ HG6.out).mono ?_
          rintro e w7 ⟨E7, rfl, ho, hg7⟩
          have HG7 := Lib.hid (gtrans HG6.out hg7)
          have HA7 := Lib.hid (HA6.out.later hg7)
          have HE7 := Lib.hid ho.is
          clear ho
          have HVR := Lib.hid (HVR.out.later hg7)
          clear hg7
          go_wp2_with (fail)
          refine (KM.out _ _ (LL.out _ HG7.out) HE7.out).mono ?_
          rintro e w8 ⟨rfl, hg8⟩
          have HG8 := Lib.hid (gtrans HG7.out hg8)
          have HA8 := Lib.hid (HA7.out.later hg8)
          have HVR := Lib.hid (HVR.out.later hg8)
          clear hg8
          go_wp2_with (fail)
          refine (KT.out vr _ HVR.out).mono ?_
          rintro e w9 ⟨rfl, hg9⟩
          have HG9 := Lib.hid (gtrans HG8.out hg9)
          have HA9 := Lib.hid (HA8.out.later hg9)
          clear hg9
          have HB := Lib.hid (RA.new w9 #[.int .i64 Y.f, .int .i64 Y.t, .int .i64 Y.m, .int .i64 Y.p] 56)
          have HG9 := Lib.hid (HG9.out.put (.cells #[.int .i64 Y.f, .int .i64 Y.t, .int .i64 Y.m, .int .i64 Y.p] 56))
          have HA9 := Lib.hid (HA9.out.later ((Later.refl w9).put (.cells #[.int .i64 Y.f, .int .i64 Y.t, .int .i64 Y.m, .int .i64 Y.p] 56)))
          go_wp2_with (refine Conf.load_zn c.z rfl (.tmp 62) rfl w.heap.size 13 rfl (HZn.out _ HA9.out) ?_)
          refine (KE.out _ (LL.out _ HG9.out)).mono ?_
          rintro e w10 ⟨rfl, hg10⟩
          have HG10 := Lib.hid (gtrans HG9.out hg10)
          have HA10 := Lib.hid (HA9.out.later hg10)
          have HB := Lib.hid (HB.out.later hg10)
          clear hg10
          go_wp2_with (fail)
          refine (A.out _ (LL.out _ HG10.out)).mono ?_
          rintro e w11 ⟨rfl, hg11⟩
          have HG11 := Lib.hid (gtrans HG10.out hg11)
          have HA11 := Lib.hid (HA10.out.later hg11)
          have c0 := (HB.out.later hg11).cell 0 _ rfl
          have c2 := (HB.out.later hg11).cell 2 _ rfl
          clear hg11
          go_wp2_with fail
          go_ret
          exact ⟨rfl, HG11.out⟩
      · go_enter Tryz.func5, Tryz.ntmps5
        go_wp2_with (refine Conf.load_at D HZ.out rfl (.tmp 2) rfl w.heap.size rfl HA0.out ?_)
        refine (KF.out _ HG0.out).mono ?_
        rintro e w1 ⟨rfl, hg1⟩
        have HG1 := Lib.hid (gtrans HG0.out hg1)
        have HA1 := Lib.hid (HA0.out.later hg1)
        clear hg1
        cases e1 : Conf.fw c with
        | false =>
          go_wp2_with (fail)
          refine (A.out _ (LL.out _ HG1.out)).mono ?_
          rintro e w2 ⟨rfl, hg2⟩
          have HG2 := Lib.hid (gtrans HG1.out hg2)
          have HA2 := Lib.hid (HA1.out.later hg2)
          clear hg2
          go_wp2_with fail
          go_ret
          exact ⟨rfl, HG2.out⟩
        | true =>
          have KO1 := Lib.hid (fun W (g : Later w W) => KO.out W g e1)
          clear KO
          go_wp2_with (refine load_at_g D HZ.out ((want_of rfl rfl rfl rfl).trans rfl) (.tmp 2) rfl w.heap.size rfl HA1.out ?_)
          refine (KC.out _ HG1.out).mono ?_
          rintro e w2 ⟨rfl, hg2⟩
          have HG2 := Lib.hid (gtrans HG1.out hg2)
          have HA2 := Lib.hid (HA1.out.later hg2)
          clear hg2
          go_wp2_with (refine load_at_g D HZ.out ((want_of rfl rfl rfl rfl).trans rfl) (.tmp 2) rfl w.heap.size rfl HA2.out ?_)
          refine (KV.out _ HG2.out).mono ?_
          rintro e w3 ⟨rfl, hg3⟩
          have HG3 := Lib.hid (gtrans HG2.out hg3)
          have HA3 := Lib.hid (HA2.out.later hg3)
          clear hg3
          go_wp2_with (refine Conf.load_zn c.z rfl (.tmp 33) rfl w.heap.size 13 rfl (HZn.out _ HA3.out) ?_)
          refine (KL.out _ HG3.out).mono ?_
          rintro e w4 ⟨rfl, hg4⟩
          have HG4 := Lib.hid (gtrans HG3.out hg4)
          have HA4 := Lib.hid (HA3.out.later hg4)
          clear hg4
          go_wp2_with (refine Conf.load_at D HZ.out rfl (.tmp 2) rfl w.heap.size rfl HA4.out ?_)
          refine (KO1.out _ HG4.out).mono ?_
          rintro e w5 ⟨E5, rfl, ho, hg5⟩
          have HG5 := Lib.hid (gtrans HG4.out hg5)
          have HA5 := Lib.hid (HA4.out.later hg5)
          have HE5 := Lib.hid ho.is
          clear ho
          clear hg5
          go_wp2_with (fail)
          refine (KR.out _ _ (LL.out _ HG5.out) HE5.out).mono ?_
          rintro e w6 ⟨vr, rfl, hvr, hg6⟩
          have HG6 := Lib.hid (gtrans HG5.out hg6)
          have HA6 := Lib.hid (HA5.out.later hg6)
          have HVR := Lib.hid hvr.ws
          clear hvr
          clear hg6
          go_wp2_with (refine Conf.load_at D HZ.out rfl (.tmp 2) rfl w.heap.size rfl HA6.out ?_)
          refine (KO1.out _ HG6.out).mono ?_
          rintro e w7 ⟨E7, rfl, ho, hg7⟩
          have HG7 := Lib.hid (gtrans HG6.out hg7)
          have HA7 := Lib.hid (HA6.out.later hg7)
          have HE7 := Lib.hid ho.is
          clear ho
          have HVR := Lib.hid (HVR.out.later hg7)
          clear hg7
          go_wp2_with (fail)
          refine (KM.out _ _ (LL.out _ HG7.out) HE7.out).mono ?_
          rintro e w8 ⟨rfl, hg8⟩
          have HG8 := Lib.hid (gtrans HG7.out hg8)
          have HA8 := Lib.hid (HA7.out.later hg8)
          have HVR := Lib.hid (HVR.out.later hg8)
          clear hg8
          go_wp2_with (fail)
          refine (KT.out vr _ HVR.out).mono ?_
          rintro e w9 ⟨rfl, hg9⟩
          have HG9 := Lib.hid (gtrans HG8.out hg9)
          have HA9 := Lib.hid (HA8.out.later hg9)
          clear hg9
          have HB := Lib.hid (RA.new w9 #[.int .i64 Y.f, .int .i64 Y.t, .int .i64 Y.m, .int .i64 Y.p] 56)
          have HG9 := Lib.hid (HG9.out.put (.cells #[.int .i64 Y.f, .int .i64 Y.t, .int .i64 Y.m, .int .i64 Y.p] 56))
          have HA9 := Lib.hid (HA9.out.later ((Later.refl w9).put (.cells #[.int .i64 Y.f, .int .i64 Y.t, .int .i64 Y.m, .int .i64 Y.p] 56)))
          go_wp2_with (refine Conf.load_zn c.z rfl (.tmp 62) rfl w.heap.size 13 rfl (HZn.out _ HA9.out) ?_)
          refine (KE.out _ (LL.out _ HG9.out)).mono ?_
          rintro e w10 ⟨rfl, hg10⟩
          have HG10 := Lib.hid (gtrans HG9.out hg10)
          have HA10 := Lib.hid (HA9.out.later hg10)
          have HB := Lib.hid (HB.out.later hg10)
          clear hg10
          go_wp2_with (fail)
          refine (A.out _ (LL.out _ HG10.out)).mono ?_
          rintro e w11 ⟨rfl, hg11⟩
          have HG11 := Lib.hid (gtrans HG10.out hg11)
          have HA11 := Lib.hid (HA10.out.later hg11)
          have c0 := (HB.out.later hg11).cell 0 _ rfl
          have c2 := (HB.out.later hg11).cell 2 _ rfl
          clear hg11
          go_wp2_with fail
          go_ret
          exact ⟨rfl, HG11.out⟩
      · go_enter Tryz.func5, Tryz.ntmps5
        go_wp2_with (refine Conf.load_at D HZ.out rfl (.tmp 2) rfl w.heap.size rfl HA0.out ?_)
        refine (KF.out _ HG0.out).mono ?_
        rintro e w1 ⟨rfl, hg1⟩
        have HG1 := Lib.hid (gtrans HG0.out hg1)
        have HA1 := Lib.hid (HA0.out.later hg1)
        clear hg1
        cases e1 : Conf.fw c with
        | false =>
          go_wp2_with (fail)
          refine (A.out _ (LL.out _ HG1.out)).mono ?_
          rintro e w2 ⟨rfl, hg2⟩
          have HG2 := Lib.hid (gtrans HG1.out hg2)
          have HA2 := Lib.hid (HA1.out.later hg2)
          clear hg2
          go_wp2_with fail
          go_ret
          exact ⟨rfl, HG2.out⟩
        | true =>
          have KO1 := Lib.hid (fun W (g : Later w W) => KO.out W g e1)
          clear KO
          go_wp2_with (refine load_at_g D HZ.out ((want_of rfl rfl rfl rfl).trans rfl) (.tmp 2) rfl w.heap.size rfl HA1.out ?_)
          refine (KC.out _ HG1.out).mono ?_
          rintro e w2 ⟨rfl, hg2⟩
          have HG2 := Lib.hid (gtrans HG1.out hg2)
          have HA2 := Lib.hid (HA1.out.later hg2)
          clear hg2
          go_wp2_with (refine load_at_g D HZ.out ((want_of rfl rfl rfl rfl).trans rfl) (.tmp 2) rfl w.heap.size rfl HA2.out ?_)
          refine (KV.out _ HG2.out).mono ?_
          rintro e w3 ⟨rfl, hg3⟩
          have HG3 := Lib.hid (gtrans HG2.out hg3)
          have HA3 := Lib.hid (HA2.out.later hg3)
          clear hg3
          go_wp2_with (refine Conf.load_zn c.z rfl (.tmp 33) rfl w.heap.size 13 rfl (HZn.out _ HA3.out) ?_)
          refine (KL.out _ HG3.out).mono ?_
          rintro e w4 ⟨rfl, hg4⟩
          have HG4 := Lib.hid (gtrans HG3.out hg4)
          have HA4 := Lib.hid (HA3.out.later hg4)
          clear hg4
          go_wp2_with (refine Conf.load_at D HZ.out rfl (.tmp 2) rfl w.heap.size rfl HA4.out ?_)
          refine (KO1.out _ HG4.out).mono ?_
          rintro e w5 ⟨E5, rfl, ho, hg5⟩
          have HG5 := Lib.hid (gtrans HG4.out hg5)
          have HA5 := Lib.hid (HA4.out.later hg5)
          have HE5 := Lib.hid ho.is
          clear ho
          clear hg5
          go_wp2_with (fail)
          refine (KR.out _ _ (LL.out _ HG5.out) HE5.out).mono ?_
          rintro e w6 ⟨vr, rfl, hvr, hg6⟩
          have HG6 := Lib.hid (gtrans HG5.out hg6)
          have HA6 := Lib.hid (HA5.out.later hg6)
          have HVR := Lib.hid hvr.ws
          clear hvr
          clear hg6
          go_wp2_with (refine Conf.load_at D HZ.out rfl (.tmp 2) rfl w.heap.size rfl HA6.out ?_)
          refine (KO1.out _ HG6.out).mono ?_
          rintro e w7 ⟨E7, rfl, ho, hg7⟩
          have HG7 := Lib.hid (gtrans HG6.out hg7)
          have HA7 := Lib.hid (HA6.out.later hg7)
          have HE7 := Lib.hid ho.is
          clear ho
          have HVR := Lib.hid (HVR.out.later hg7)
          clear hg7
          go_wp2_with (fail)
          refine (KM.out _ _ (LL.out _ HG7.out) HE7.out).mono ?_
          rintro e w8 ⟨rfl, hg8⟩
          have HG8 := Lib.hid (gtrans HG7.out hg8)
          have HA8 := Lib.hid (HA7.out.later hg8)
          have HVR := Lib.hid (HVR.out.later hg8)
          clear hg8
          go_wp2_with (fail)
          refine (KT.out vr _ HVR.out).mono ?_
          rintro e w9 ⟨rfl, hg9⟩
          have HG9 := Lib.hid (gtrans HG8.out hg9)
          have HA9 := Lib.hid (HA8.out.later hg9)
          clear hg9
          have HB := Lib.hid (RA.new w9 #[.int .i64 Y.f, .int .i64 Y.t, .int .i64 Y.m, .int .i64 Y.p] 56)
          have HG9 := Lib.hid (HG9.out.put (.cells #[.int .i64 Y.f, .int .i64 Y.t, .int .i64 Y.m, .int .i64 Y.p] 56))
          have HA9 := Lib.hid (HA9.out.later ((Later.refl w9).put (.cells #[.int .i64 Y.f, .int .i64 Y.t, .int .i64 Y.m, .int .i64 Y.p] 56)))
          go_wp2_with (refine Conf.load_zn c.z rfl (.tmp 62) rfl w.heap.size 13 rfl (HZn.out _ HA9.out) ?_)
          refine (KE.out _ (LL.out _ HG9.out)).mono ?_
          rintro e w10 ⟨rfl, hg10⟩
          have HG10 := Lib.hid (gtrans HG9.out hg10)
          have HA10 := Lib.hid (HA9.out.later hg10)
          have HB := Lib.hid (HB.out.later hg10)
          clear hg10
          go_wp2_with (fail)
          refine (A.out _ (LL.out _ HG10.out)).mono ?_
          rintro e w11 ⟨rfl, hg11⟩
          have HG11 := Lib.hid (gtrans HG10.out hg11)
          have HA11 := Lib.hid (HA10.out.later hg11)
          have c0 := (HB.out.later hg11).cell 0 _ rfl
          have c2 := (HB.out.later hg11).cell 2 _ rfl
          clear hg11
          go_wp2_with fail
          go_ret
          exact ⟨rfl, HG11.out⟩
  · have e0 : (ce c != 0) = true := by simpa using hce
    clear hL hc hce
    generalize ce c = k at *
    go_enter Tryz.func5, Tryz.ntmps5
    go_wp2_with (refine Conf.load_at D HZ.out rfl (.tmp 2) rfl w.heap.size rfl HA0.out ?_)
    refine (KF.out _ HG0.out).mono ?_
    rintro e w1 ⟨rfl, hg1⟩
    have HG1 := Lib.hid (gtrans HG0.out hg1)
    have HA1 := Lib.hid (HA0.out.later hg1)
    clear hg1
    cases e1 : Conf.fw c with
    | false =>
      go_wp2_with (fail)
      refine (A.out _ (LL.out _ HG1.out)).mono ?_
      rintro e w2 ⟨rfl, hg2⟩
      have HG2 := Lib.hid (gtrans HG1.out hg2)
      have HA2 := Lib.hid (HA1.out.later hg2)
      clear hg2
      go_wp2_with fail
      go_ret
      exact ⟨rfl, HG2.out⟩
    | true =>
      have KO1 := Lib.hid (fun W (g : Later w W) => KO.out W g e1)
      clear KO
      go_wp2_with (refine load_at_g D HZ.out ((want_of rfl rfl rfl rfl).trans rfl) (.tmp 2) rfl w.heap.size rfl HA1.out ?_)
      refine (KC.out _ HG1.out).mono ?_
      rintro e w2 ⟨rfl, hg2⟩
      have HG2 := Lib.hid (gtrans HG1.out hg2)
      have HA2 := Lib.hid (HA1.out.later hg2)
      clear hg2
      go_wp2_with (fail)
      refine (A.out _ (LL.out _ HG2.out)).mono ?_
      rintro e w3 ⟨rfl, hg3⟩
      have HG3 := Lib.hid (gtrans HG2.out hg3)
      have HA3 := Lib.hid (HA2.out.later hg3)
      clear hg3
      go_wp2_with fail
      go_ret
      exact ⟨rfl, HG3.out⟩

end Go.Proofs.YtihdijkplmfhfaaGreatDoor.Table
