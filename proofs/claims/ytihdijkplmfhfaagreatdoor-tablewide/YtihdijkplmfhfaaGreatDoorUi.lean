/-
  The mode is that of the weightiest one of all spans that an instant is in: the walk. Condition: the table of months lies where the program lays it.
-/
import Derived.Test.YtihdijkplmfhfaaGreatDoorM26
namespace Go.Proofs.YtihdijkplmfhfaaGreatDoor.Table
set_option maxRecDepth 100000
open Go.ChangeShapes Go.WideShapes Go.ChangeAt Go.RowKit
open Go.Proofs.YtihdijkplmfhfaaGreatDoor.Divs Go.Proofs.YtihdijkplmfhfaaGreatDoor.Grow
open Go.Proofs.YtihdijkplmfhfaaGreatDoor.Greg (Laid)
open Go.Proofs.YtihdijkplmfhfaaGreatDoor.Zo Go.Proofs.YtihdijkplmfhfaaGreatDoor.Win Go.Proofs.YtihdijkplmfhfaaGreatDoor.Tab
open Go.Proofs.YtihdijkplmfhfaaGreatDoor.Cal (yr om od)
open Go.Proofs.YtihdijkplmfhfaaGreatDoor.Cf (Cg Wn ce wo)
open Go.Proofs.YtihdijkplmfhfaaGreatDoor.Conf (wc cc Is)
open Go.Proofs.YtihdijkplmfhfaaGreatDoor.Zone (Zat zc lD lM sE sE_ok)
open Go.Proofs.YtihdijkplmfhfaaGreatDoor.Span (Ws WL sc)
open Go.Proofs.YtihdijkplmfhfaaGreatDoor.Window (RA)
open Go.Proofs.YtihdijkplmfhfaaGreatDoor.Sp (cu)
open Go.Proofs.YtihdijkplmfhfaaGreatDoor.Eachn
set_option linter.unusedVariables false

open Go.Proofs.YtihdijkplmfhfaaGreatDoor.Sp (best md)

theorem ws_at {W : World} {ad : Option Addr} {n cap : Nat} {xs : List Sp.Sp} (h : Ws W (.slice ad n cap) xs) {i : Nat} {x : Sp.Sp} (hx : xs[i]? = some x) : ∃ b off, ad = some ⟨b, off, none⟩ ∧ Span.At W b (off + i * 4) x := by
  obtain ⟨ad', cap', e, _, k⟩ := h.form
  injection e with e _ _
  subst e
  exact k i x hx

set_option maxHeartbeats 4000000 in
theorem wide_core (w : World) (hL : Laid w) (D : Array Value) (c : Cg) (hc : Is w D c) (t : Int) (ht : -9223372036854775808 ≤ t ∧ t ≤ 9223372036854775807) : Calls Tryz.prog 6 #[.agg D, .int .i64 t] w fun e w' => e = .returned (.bool true) ∧ Later w w' := by
  have A := Lib.hid (fun W (hW : Laid W) => awake_any W hW)
  have KF := Lib.hid (fun W (g : Later w W) => Conf.few_of (hc.later g))
  have KO := Lib.hid (fun W (g : Later w W) hf => Conf.own_of (hc.later g) hf)
  have KC := Lib.hid (fun W (g : Later w W) => Conf.rcheck_of (hc.later g))
  have HZ := Lib.hid hc.size
  have HG0 := Lib.hid ((Later.refl w).alloc D 33)
  have HA0 := Lib.hid (Conf.At.new w D 33)
  have LL := Lib.hid (fun W (g : Later w W) => hL.grown g)
  by_cases hce : ce c = 0
  · rw [hce] at KC
    obtain ⟨hz, _⟩ := ce_parts c hce
    have KV := Lib.hid (fun W (g : Later w W) => rserved_any D c t W (hc.later g) hz)
    cases hs : sv c.z t with
    | false =>
      rw [hs] at KV
      clear hL hc hce hz hs
      go_enter Tryz.func6, Tryz.ntmps6
      go_wp2_with (refine Conf.load_at D HZ.out rfl (.tmp 2) rfl w.heap.size rfl HA0.out ?_)
      refine (KF.out _ HG0.out).mono ?_
      rintro e w1 ⟨rfl, hg1⟩
      have HG1 := Lib.hid (gtrans HG0.out hg1)
      have HA1 := Lib.hid (HA0.out.later hg1)
      clear hg1
      cases e1 : Conf.fw c with
      | false =>
        go_wp2_with (fail)
        refine (A.out _ (LL.out _ HG1.out)).mono ?_
        rintro e w2 ⟨rfl, hg2⟩
        have HG2 := Lib.hid (gtrans HG1.out hg2)
        have HA2 := Lib.hid (HA1.out.later hg2)
        clear hg2
        go_wp2_with fail
        go_ret
        exact ⟨rfl, HG2.out⟩
      | true =>
        have KO1 := Lib.hid (fun W (g : Later w W) => KO.out W g e1)
        clear KO
        go_wp2_with (refine load_at_g D HZ.out ((want_of rfl rfl rfl rfl).trans rfl) (.tmp 2) rfl w.heap.size rfl HA1.out ?_)
        refine (KC.out _ HG1.out).mono ?_
        rintro e w2 ⟨rfl, hg2⟩
        have HG2 := Lib.hid (gtrans HG1.out hg2)
        have HA2 := Lib.hid (HA1.out.later hg2)
        clear hg2
        go_wp2_with (refine load_at_g D HZ.out ((want_of rfl rfl rfl rfl).trans rfl) (.tmp 2) rfl w.heap.size rfl HA2.out ?_)
        refine (KV.out _ HG2.out).mono ?_
        rintro e w3 ⟨rfl, hg3⟩
        have HG3 := Lib.hid (gtrans HG2.out hg3)
        have HA3 := Lib.hid (HA2.out.later hg3)
        clear hg3
        go_wp2_with (fail)
        refine (A.out _ (LL.out _ HG3.out)).mono ?_
        rintro e w4 ⟨rfl, hg4⟩
        have HG4 := Lib.hid (gtrans HG3.out hg4)
        have HA4 := Lib.hid (HA3.out.later hg4)
        clear hg4
        go_wp2_with fail
        go_ret
        exact ⟨rfl, HG4.out⟩
    | true =>
      have hd := sv_day c.z hz t hs
      have hE : Zone.sE c.z t = 0 := by
        have k := (sv_iff c.z hz t).1 hs
        have hz' := hz
        unfold May at hz'
        exact (Zone.sE_ok c.z t).2 ⟨hz, by omega, by omega⟩
      have eD : Zone.lD c.z t = td c.z t / 1440 := by unfold Zone.lD; rw [if_pos hE]
      have KL := Lib.hid (fun W (g : Later w W) => Zone.local_any c.z t W (hL.grown g))
      rw [hE, eD] at KL
      have HZn := Lib.hid (fun W (h : Conf.At W w.heap.size D) => is_zone hc h)
      rw [hs] at KV
      have hmw := mM_wide hce t hs
      rw [← wm_md] at hmw
      have hfew := sps_few hce (td c.z t / 1440 - 20) (n := 24) (by omega)
      have hpos : ∀ x ∈ sps c (td c.z t / 1440 - 20) 24, 0 ≤ x.p := fun x hx => by
        obtain ⟨e, e0, e1, he⟩ := sps_mem hx
        exact (dw_in hce (by omega) (by omega) he).2.2.2.1
      obtain ⟨d, hdd⟩ : ∃ d, td c.z t / 1440 = d := ⟨_, rfl⟩
      rw [hdd] at KL hd hmw hfew hpos
      have KS := Lib.hid (fun W E (hW : Laid W) (h : Is W E c) => spans_yes E c (d - 20) (d + 3) 24 W hW h hce ((dy_iff _ _).2 ⟨by omega, by omega, by omega, by omega⟩) (by omega))
      have KM := Lib.hid (fun W E (hW : Laid W) (h : Is W E c) => mode_yes E c t W hW h hce)
      have d0 := hd.1
      have d1 := hd.2
      obtain ⟨T, hT⟩ : ∃ T, Zone.lM c.z t = T := ⟨_, rfl⟩
      rw [hT] at KL
      clear hL hc hce hz hs hE eD hdd hd hT
      generalize sps c (d - 20) 24 = XS at *
      generalize mM c t = M at *
      generalize mS c t = S at *
      obtain ⟨n, hn⟩ : ∃ n, XS.length = n := ⟨_, rfl⟩
      rw [hn] at hfew
      have HN := Lib.hid hn
      have HP := Lib.hid hpos
      have HMW := Lib.hid hmw
      clear hn hpos hmw
      go_enter Tryz.func6, Tryz.ntmps6
      go_wp2_with (refine Conf.load_at D HZ.out rfl (.tmp 2) rfl w.heap.size rfl HA0.out ?_)
      refine (KF.out _ HG0.out).mono ?_
      rintro e w1 ⟨rfl, hg1⟩
      have HG1 := Lib.hid (gtrans HG0.out hg1)
      have HA1 := Lib.hid (HA0.out.later hg1)
      clear hg1
      cases e1 : Conf.fw c with
      | false =>
        go_wp2_with (fail)
        refine (A.out _ (LL.out _ HG1.out)).mono ?_
        rintro e w2 ⟨rfl, hg2⟩
        have HG2 := Lib.hid (gtrans HG1.out hg2)
        have HA2 := Lib.hid (HA1.out.later hg2)
        clear hg2
        go_wp2_with fail
        go_ret
        exact ⟨rfl, HG2.out⟩
      | true =>
        have KO1 := Lib.hid (fun W (g : Later w W) => KO.out W g e1)
        clear KO
        go_wp2_with (refine load_at_g D HZ.out ((want_of rfl rfl rfl rfl).trans rfl) (.tmp 2) rfl w.heap.size rfl HA1.out ?_)
        refine (KC.out _ HG1.out).mono ?_
        rintro e w2 ⟨rfl, hg2⟩
        have HG2 := Lib.hid (gtrans HG1.out hg2)
        have HA2 := Lib.hid (HA1.out.later hg2)
        clear hg2
        go_wp2_with (refine load_at_g D HZ.out ((want_of rfl rfl rfl rfl).trans rfl) (.tmp 2) rfl w.heap.size rfl HA2.out ?_)
        refine (KV.out _ HG2.out).mono ?_
        rintro e w3 ⟨rfl, hg3⟩
        have HG3 := Lib.hid (gtrans HG2.out hg3)
        have HA3 := Lib.hid (HA2.out.later hg3)
        clear hg3
        go_wp2_with (refine Conf.load_zn c.z rfl (.tmp 33) rfl w.heap.size 13 rfl (HZn.out _ HA3.out) ?_)
        refine (KL.out _ HG3.out).mono ?_
        rintro e w4 ⟨rfl, hg4⟩
        have HG4 := Lib.hid (gtrans HG3.out hg4)
        have HA4 := Lib.hid (HA3.out.later hg4)
        clear hg4
        go_wp2_with (refine Conf.load_at D HZ.out rfl (.tmp 2) rfl w.heap.size rfl HA4.out ?_)
        refine (KO1.out _ HG4.out).mono ?_
        rintro e w5 ⟨E5, rfl, ho, hg5⟩
        have HG5 := Lib.hid (gtrans HG4.out hg5)
        have HA5 := Lib.hid (HA4.out.later hg5)
        have HE5 := Lib.hid ho.is
        clear ho
        clear hg5
        go_wp2_with (fail)
        refine (KS.out _ _ (LL.out _ HG5.out) HE5.out).mono ?_
        rintro e w6 ⟨vs, rfl, hvs, hg6⟩
        have HG6 := Lib.hid (gtrans HG5.out hg6)
        have HA6 := Lib.hid (HA5.out.later hg6)
        obtain ⟨adv, cpv, hvf, _, _⟩ := hvs.ws.form
        rw [HN.out] at hvf
        subst hvf
        have HVS := Lib.hid hvs.ws
        clear hvs
        clear hg6
        go_wp2_with (refine Conf.load_at D HZ.out rfl (.tmp 2) rfl w.heap.size rfl HA6.out ?_)
        refine (KO1.out _ HG6.out).mono ?_
        rintro e w7 ⟨E7, rfl, ho, hg7⟩
        have HG7 := Lib.hid (gtrans HG6.out hg7)
        have HA7 := Lib.hid (HA6.out.later hg7)
        have HE7 := Lib.hid ho.is
        clear ho
        have HVS := Lib.hid (HVS.out.later hg7)
        clear hg7
        go_wp2_with (fail)
        refine (KM.out _ _ (LL.out _ HG7.out) HE7.out).mono ?_
        rintro e w8 ⟨rfl, hg8⟩
        have HG8 := Lib.hid (gtrans HG7.out hg8)
        have HA8 := Lib.hid (HA7.out.later hg8)
        have HVS := Lib.hid (HVS.out.later hg8)
        clear hg8
        go_wp2_with fail
        go_loop [13, 14, 15, 16] (fun m p f i => ∃ k : Nat, k ≤ n ∧ m = .int .i64 (wm (best (XS.take k) t)) ∧ p = .int .i64 (wp (best (XS.take k) t)) ∧ f = .int .i64 (wf (best (XS.take k) t)) ∧ i = .int .i64 (k : Int)) (fun _ _ _ i => n - (intOf i).toNat)
        case atStart => exact ⟨0, by omega, rfl, rfl, rfl, rfl⟩
        case round =>
          obtain ⟨k, hk, rfl, rfl, rfl, rfl⟩ := hrel
          by_cases hlt : k < n
          · obtain ⟨x, hx⟩ : ∃ x, XS[k]? = some x := ⟨_, List.getElem?_eq_getElem (by rw [HN.out]; exact hlt)⟩
            obtain ⟨B, off, rfl, c0, c1, c2, c3⟩ := ws_at HVS.out hx
            have p0 := HP.out x (List.mem_of_getElem? hx)
            have WO := Lib.hid (w_out t hx)
            have WV := Lib.hid (w_over t hx)
            have WS := Lib.hid (w_stay t hx p0)
            clear hx
            generalize best (XS.take k) t = o at *
            obtain ⟨M0, hM0⟩ : ∃ M0, wm o = M0 := ⟨_, rfl⟩
            obtain ⟨P0, hP0⟩ : ∃ P0, wp o = P0 := ⟨_, rfl⟩
            obtain ⟨F0, hF0⟩ : ∃ F0, wf o = F0 := ⟨_, rfl⟩
            rw [hP0, hF0] at WV WS
            rw [hM0, hP0, hF0]
            have HM0 := Lib.hid hM0
            have HP0 := Lib.hid hP0
            have HF0 := Lib.hid hF0
            clear hM0 hP0 hF0
            have adB : ∀ j, (⟨B, off, none⟩ : Addr).add j = ⟨B, off + j, none⟩ := Addr.add_mid B off
            have hjz : (k : Int) < (n : Int) := by omega
            have six : t < x.f ∨ (x.f ≤ t ∧ ¬ t < x.t) ∨ (x.f ≤ t ∧ t < x.t ∧ P0 < x.p) ∨ (x.f ≤ t ∧ t < x.t ∧ ¬ P0 < x.p ∧ x.p = P0 ∧ F0 ≤ x.f) ∨ (x.f ≤ t ∧ t < x.t ∧ ¬ P0 < x.p ∧ x.p = P0 ∧ ¬ F0 ≤ x.f) ∨ (x.f ≤ t ∧ t < x.t ∧ ¬ P0 < x.p ∧ ¬ x.p = P0) := by omega
            rcases six with t1 | ⟨t1, t2⟩ | ⟨t1, t2, t3⟩ | ⟨t1, t2, t3, t4, t5⟩ | ⟨t1, t2, t3, t4, t5⟩ | ⟨t1, t2, t3, t4⟩
            · have HV : Hid (best (XS.take (k + 1)) t = o) := Lib.hid (WO.out (.inl t1))
              have t1n : ¬ x.f ≤ t := by omega
              clear t1
              clear WO WV WS
              go_wp2_with fail
              go_round
              case rel => exact ⟨k + 1, by omega, by rw [HV.out, HM0.out], by rw [HV.out, HP0.out], by rw [HV.out, HF0.out], by go_num⟩
              case measure => simp [intOf]; omega
            · have HV : Hid (best (XS.take (k + 1)) t = o) := Lib.hid (WO.out (.inr (by omega)))
              clear WO WV WS
              go_wp2_with fail
              go_round
              case rel => exact ⟨k + 1, by omega, by rw [HV.out, HM0.out], by rw [HV.out, HP0.out], by rw [HV.out, HF0.out], by go_num⟩
              case measure => simp [intOf]; omega
            · have HV : Hid (best (XS.take (k + 1)) t = some x) := Lib.hid (WV.out ⟨t1, t2⟩ (.inl t3))
              clear WO WV WS
              go_wp2_with fail
              go_round
              case rel => exact ⟨k + 1, by omega, by rw [HV.out]; rfl, by rw [HV.out]; rfl, by rw [HV.out]; rfl, by go_num⟩
              case measure => simp [intOf]; omega
            · have HV : Hid (best (XS.take (k + 1)) t = some x) := Lib.hid (WV.out ⟨t1, t2⟩ (.inr ⟨t4, t5⟩))
              have t4d : (x.p == P0) = true := by simpa using t4
              clear t4
              clear WO WV WS
              go_wp2_with fail
              go_round
              case rel => exact ⟨k + 1, by omega, by rw [HV.out]; rfl, by rw [HV.out]; rfl, by rw [HV.out]; rfl, by go_num⟩
              case measure => simp [intOf]; omega
            · have HV : Hid (best (XS.take (k + 1)) t = o) := Lib.hid (WS.out ⟨t1, t2⟩ (by omega))
              have t4d : (x.p == P0) = true := by simpa using t4
              clear t4
              clear WO WV WS
              go_wp2_with fail
              go_round
              case rel => exact ⟨k + 1, by omega, by rw [HV.out, HM0.out], by rw [HV.out, HP0.out], by rw [HV.out, HF0.out], by go_num⟩
              case measure => simp [intOf]; omega
            · have HV : Hid (best (XS.take (k + 1)) t = o) := Lib.hid (WS.out ⟨t1, t2⟩ (by omega))
              have t4d : (x.p == P0) = false := by simpa using t4
              clear t4
              clear WO WV WS
              go_wp2_with fail
              go_round
              case rel => exact ⟨k + 1, by omega, by rw [HV.out, HM0.out], by rw [HV.out, HP0.out], by rw [HV.out, HF0.out], by go_num⟩
              case measure => simp [intOf]; omega
          · have hfin : wm (best (XS.take k) t) = M := by rw [List.take_of_length_le (by rw [HN.out]; omega)]; exact HMW.out.symm
            rw [hfin]
            have hjz : ¬ (k : Int) < (n : Int) := by omega
            clear hfin
            generalize wp (best (XS.take k) t) = P1
            generalize wf (best (XS.take k) t) = F1
            go_wp2_with (fail)
            refine (A.out _ (LL.out _ HG8.out)).mono ?_
            rintro e w9 ⟨rfl, hg9⟩
            have HG9 := Lib.hid (gtrans HG8.out hg9)
            have HA9 := Lib.hid (HA8.out.later hg9)
            clear hg9
            go_wp2_with fail
            go_ret
            exact ⟨rfl, HG9.out⟩
  · have e0 : (ce c != 0) = true := by simpa using hce
    clear hL hc hce
    generalize ce c = k at *
    go_enter Tryz.func6, Tryz.ntmps6
    go_wp2_with (refine Conf.load_at D HZ.out rfl (.tmp 2) rfl w.heap.size rfl HA0.out ?_)
    refine (KF.out _ HG0.out).mono ?_
    rintro e w1 ⟨rfl, hg1⟩
    have HG1 := Lib.hid (gtrans HG0.out hg1)
    have HA1 := Lib.hid (HA0.out.later hg1)
    clear hg1
    cases e1 : Conf.fw c with
    | false =>
      go_wp2_with (fail)
      refine (A.out _ (LL.out _ HG1.out)).mono ?_
      rintro e w2 ⟨rfl, hg2⟩
      have HG2 := Lib.hid (gtrans HG1.out hg2)
      have HA2 := Lib.hid (HA1.out.later hg2)
      clear hg2
      go_wp2_with fail
      go_ret
      exact ⟨rfl, HG2.out⟩
    | true =>
      have KO1 := Lib.hid (fun W (g : Later w W) => KO.out W g e1)
      clear KO
      go_wp2_with (refine load_at_g D HZ.out ((want_of rfl rfl rfl rfl).trans rfl) (.tmp 2) rfl w.heap.size rfl HA1.out ?_)
      refine (KC.out _ HG1.out).mono ?_
      rintro e w2 ⟨rfl, hg2⟩
      have HG2 := Lib.hid (gtrans HG1.out hg2)
      have HA2 := Lib.hid (HA1.out.later hg2)
      clear hg2
      go_wp2_with (fail)
      refine (A.out _ (LL.out _ HG2.out)).mono ?_
      rintro e w3 ⟨rfl, hg3⟩
      have HG3 := Lib.hid (gtrans HG2.out hg3)
      have HA3 := Lib.hid (HA2.out.later hg3)
      clear hg3
      go_wp2_with fail
      go_ret
      exact ⟨rfl, HG3.out⟩

end Go.Proofs.YtihdijkplmfhfaaGreatDoor.Table
