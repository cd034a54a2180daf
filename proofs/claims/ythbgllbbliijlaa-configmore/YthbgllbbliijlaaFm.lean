/-
  A configuration with one window more may be, if the window may, and there are not too many. No condition but those that each theorem states.
-/
import Derived.Test.YthbgllbbliijlaaDo
namespace Go.Proofs.Ythbgllbbliijlaa.Conf
open Go.ChangeShapes Go.WideShapes Go.ChangeAt Go.RowKit
open Go.Proofs.Ythbgllbbliijlaa.Divs Go.Proofs.Ythbgllbbliijlaa.Grow Go.Proofs.Ythbgllbbliijlaa.Zone
open Go.Proofs.Ythbgllbbliijlaa.By (Sk SL bool_no bool_yes)
open Go.Proofs.Ythbgllbbliijlaa.Each
open Go.Proofs.Ythbgllbbliijlaa.Zo Go.Proofs.Ythbgllbbliijlaa.Su Go.Proofs.Ythbgllbbliijlaa.Cf

theorem Is.wins {W : World} {D : Array Value} {c : Cg} (h : Is W D c) : ∃ ad cap, D[36]? = some (.slice ad c.ws.length cap) ∧ c.ws.length ≤ 9223372036854775807 ∧ (∀ i x, c.ws[i]? = some x → ∃ B off, ad = some ⟨B, off, none⟩ ∧ W.rangeAt B (off + i * 7) (wc x)) := by
  obtain ⟨u, v, rfl, hu, hv⟩ := h
  obtain ⟨ad, cap, rfl, h1, h2⟩ := wk_form hv
  exact ⟨ad, cap, rfl, h1, h2⟩

/-- Of the first k windows each may be. -/
def MRel (n : Nat) (w : World) (i : Value) (wr : World) : Prop := ∃ k : Nat, k ≤ n ∧ i = .int .i64 (k : Int) ∧ Later w wr

set_option maxHeartbeats 2000000 in
theorem more_core (w : World) (D : Array Value) (c : Cg) (hc : Is w D c) (x : Wn) : Calls Try.prog 5 #[.agg D, .agg (wc x).toArray] w fun e w' => e = .returned (.bool true) ∧ Later w w' := by
  have KF := Lib.hid (fun W (g : Later w W) => few_of (hc.later g))
  have KO := Lib.hid (fun W (g : Later w W) hf => own_of (hc.later g) hf)
  have KC := Lib.hid (fun W E (h : Is W E c) => check_of h)
  have KM := Lib.hid (fun W E (h : Is W E (cw c (c.ws ++ [x]))) => check_of h)
  have KW := Lib.hid (fun y W => window_any y W)
  unfold wc at KW
  have KA := Lib.hid awake_any
  have HN := Lib.hid (ce_more c x)
  have HM := Lib.hid (ce_much c x)
  have HO := Lib.hid (win_ok c)
  have HZ := Lib.hid hc.size
  have HL0 := Lib.hid (((Later.refl w).alloc D 33).alloc (wc x).toArray 35)
  have HA0 := Lib.hid ((At.new w D 33).put (.cells (wc x).toArray 35))
  have HB0 := Lib.hid (At.new (w.alloc (.cells D 33)) (wc x).toArray 35)
  simp only [World.size_alloc] at HB0
  obtain ⟨ad, cap, d36, hm, hr⟩ := hc.wins
  have D36 := Lib.hid d36
  have HV := Lib.hid hr
  clear hc d36 hr
  obtain ⟨n, hn⟩ : ∃ n, c.ws.length = n := ⟨_, rfl⟩
  rw [hn] at D36 hm HN HM
  have Hn := Lib.hid hn
  clear hn
  generalize hy : ce (cw c (c.ws ++ [x])) = y at *
  clear hy
  unfold wc at HL0 HA0
  unfold wc
  go_enter Try.func5, Try.ntmps5
  go_wp2_with (refine load_at D HZ.out rfl (.tmp 2) rfl w.heap.size rfl HA0.out ?_)
  refine (KF.out _ HL0.out).mono ?_
  rintro e w1 ⟨rfl, hg1⟩
  have HL1 := Lib.hid (gtrans HL0.out hg1)
  have HA1 := Lib.hid (HA0.out.later hg1)
  have HB1 := Lib.hid (HB0.out.later hg1)
  clear hg1
  cases e1 : fw c with
  | false =>
    go_wp2_with fail
    refine (KA.out _).mono ?_
    rintro e w2 ⟨rfl, hg2⟩
    have HL2 := Lib.hid (gtrans HL1.out hg2)
    clear hg2
    go_wp2_with fail
    go_ret
    exact ⟨rfl, HL2.out⟩
  | true =>
    have HT := Lib.hid ((fw_iff c).mp e1)
    go_wp2_with (refine load_in D HZ.out (by rfl) (.tmp 2) rfl w.heap.size rfl HA1.out ?_)
    refine (KO.out _ HL1.out e1).mono ?_
    rintro e w2 ⟨E, rfl, ho, hg2⟩
    have HL2 := Lib.hid (gtrans HL1.out hg2)
    have HA2 := Lib.hid (HA1.out.later hg2)
    have HB2 := Lib.hid (HB1.out.later hg2)
    have HI := Lib.hid ho.is
    clear hg2 ho
    go_wp2_with fail
    refine (KC.out _ _ HI.out).mono ?_
    rintro e w3 ⟨rfl, hg3⟩
    have HL3 := Lib.hid (gtrans HL2.out hg3)
    have HA3 := Lib.hid (HA2.out.later hg3)
    have HB3 := Lib.hid (HB2.out.later hg3)
    clear hg3 HI
    cases e2 : (ce c == 0) with
    | false =>
      have e2' : (ce c != 0) = true := by rw [bne, e2]; rfl
      go_wp2_with fail
      refine (KA.out _).mono ?_
      rintro e w4 ⟨rfl, hg4⟩
      have HL4 := Lib.hid (gtrans HL3.out hg4)
      clear hg4
      go_wp2_with fail
      go_ret
      exact ⟨rfl, HL4.out⟩
    | true =>
      have e2' : (ce c != 0) = false := by rw [bne, e2]; rfl
      have h0 : ce c = 0 := by simpa using e2
      have HH := Lib.hid h0
      clear h0
      go_wp2_with fail
      clear e2 e2'
      go_loopw [5] (fun i wr => MRel n w3 i wr) (fun i _ => n - (intOf i).toNat)
      case atStart => exact ⟨0, by omega, rfl, Later.refl _⟩
      case round =>
        obtain ⟨k, hk, rfl, hg⟩ := hrel
        have HGr := Lib.hid hg
        have HG := Lib.hid (gtrans HL3.out hg)
        have HAr := Lib.hid (HA3.out.later hg)
        have HBr := Lib.hid (HB3.out.later hg)
        have c36 := HAr.out 36 _ D36.out
        clear hg
        by_cases hlt : k < n
        · obtain ⟨z, hz⟩ : ∃ z, c.ws[k]? = some z := ⟨_, List.getElem?_eq_getElem (by rw [Hn.out]; exact hlt)⟩
          obtain ⟨B, off, rfl, hr⟩ := HV.out k z hz
          have HR : Hid (wr.rangeAt B (off + k * 7) (wc z)) := Lib.hid (fun j y hy => gsome HG.out (hr j y hy))
          have he := HO.out HH.out k z hz
          have ad : ∀ j, (⟨B, off, none⟩ : Addr).add j = ⟨B, off + j, none⟩ := Addr.add_mid B off
          have K' := Lib.hid (fun W => KW.out z W)
          rw [he] at K'
          clear hr hz he
          go_wp2_with (refine load_win z rfl (.tmp 28) rfl B (off + k * 7) rfl HR.out ?_)
          refine (K'.out _).mono ?_
          rintro e w4 ⟨rfl, hg4⟩
          have HG4 := Lib.hid (gtrans HGr.out hg4)
          clear hg4
          go_wp2_with fail
          go_roundw
          case rel => exact ⟨k + 1, by omega, by go_num, HG4.out⟩
          case measure => simp [intOf]; omega
        · obtain rfl : k = n := by omega
          go_wp2_with (refine load_at D HZ.out rfl (.tmp 2) rfl w.heap.size rfl HAr.out ?_)
          refine (KO.out _ HG.out e1).mono ?_
          rintro e w4 ⟨F, rfl, ho, hg4⟩
          have F37 := Lib.hid ho.is.size
          have F1 := Lib.hid ho.is.one
          have HB4 := Lib.hid (HBr.out.later hg4)
          have HL4 := Lib.hid hg4
          obtain ⟨u, v, hF, hs, hw⟩ := ho
          obtain ⟨d2, q2, rfl, _, _⟩ := wk_form (WL.wk hw)
          rw [Hn.out] at hF hw
          have F36 : Hid (F[36]? = some (.slice d2 k q2)) := Lib.hid (by rw [hF]; rfl)
          have HF := Lib.hid hF
          have HS := Lib.hid hs
          have HW := Lib.hid hw
          have HX : Hid ((c.ws ++ [x]).length = k + 1) := Lib.hid (by rw [List.length_append, Hn.out]; rfl)
          have HLT : Hid (c.ws.length ≤ 20) := Lib.hid HT.out.2
          clear hg4 hF hs hw c36
          go_wp2_with (first
            | (refine store_row rfl (.tmp 6) (.tmp 33) rfl w4.heap.size rfl F F37.out F1.out rfl _ rfl (Row.new _ _ _) w4 ((Later.refl _).alloc _ _) (Nat.le_refl _) ?_; intro W5 hR5 hL5 _; have a36 := hR5.cell 36 F36.out; have HR5 := Lib.hid hR5; have HL5 := Lib.hid hL5; have HB5 : Hid (W5.rangeAt (w.heap.size + 1) 0 (wc x)) := Lib.hid (fun j y hy => by rw [Nat.zero_add]; exact HB4.out.later hL5 j y (by simpa using hy)); clear hR5 hL5)
            | (refine load_win x rfl (.tmp 3) rfl (w.heap.size + 1) 0 rfl HB5.out ?_)
            | (at_builtin; refine append_wins_g rfl _ _ rfl wr.heap.size (by have := HL4.out.size; have := HL5.out.size; simp; omega) _ c.ws rfl ((HW.out.later HL5.out).later ((Later.refl _).alloc _ _)) _ [x] rfl (wk_new _ x _ (by simp)) (by have := HLT.out; simp; omega) ?_; intro v' w6 hv6 hg6
               obtain ⟨hR6, hRG, hOG, hLG⟩ := append_done HF.out ((HS.out.later HL5.out).later ((Later.refl _).alloc _ _)) ((HW.out.later HL5.out).later ((Later.refl _).alloc _ _)) (HR5.out.later ((Later.refl _).alloc _ _)) (gtrans HL4.out (gtrans HL5.out ((Later.refl _).alloc _ _))) rfl HL4.out.size hv6 hg6
               obtain ⟨d3, q3, rfl, _, _⟩ := wk_form (WL.wk hv6)
               rw [HX.out] at hRG hOG hLG
               have b36 := hR6.cell 36 F36.out
               have z36 := hR6.frozen 36
               have HRG := Lib.hid hRG
               have HOG := Lib.hid hOG
               have HLG := Lib.hid hLG
               rw [HX.out]
               clear hR6 hRG hOG hLG hv6 hg6 a36
               obtain ⟨G, hG⟩ : ∃ G, G = F.setIfInBounds 36 (.slice d3 (k + 1) q3) := ⟨_, rfl⟩
               rw [← hG] at HRG HOG
               have G36 : Hid (G[36]? = some (.slice d3 (k + 1) q3)) := Lib.hid (by rw [hG]; simp [F37.out])
               have G37 := Lib.hid HOG.out.is.size
               clear hG)
            | (refine load_at G G37.out rfl (.tmp 6) rfl w4.heap.size rfl HRG.out.at ?_))
          refine (KM.out _ _ HOG.out.is).mono ?_
          rintro e w8 ⟨rfl, hg8⟩
          have HL8 := Lib.hid (gtrans HG.out (gtrans HLG.out hg8))
          have g36 := (HRG.out.later hg8).cell 36 G36.out
          have HB8 := Lib.hid (HBr.out.later (gtrans HLG.out hg8))
          clear hg8
          have KX := Lib.hid (fun W => KW.out x W)
          by_cases hs : k + 1 ≤ 16
          · have hy := HN.out HH.out hs
            clear HN HM
            subst hy
            generalize we x = q at *
            have qq : (q == q) = true := by simp
            go_wp2_with fail
            refine (KA.out _).mono ?_
            rintro e w9 ⟨rfl, hg9⟩
            have HL9 := Lib.hid (gtrans HL8.out hg9)
            have HB9 : Hid (w9.rangeAt (w.heap.size + 1) 0 (wc x)) := Lib.hid (fun j y hy => by rw [Nat.zero_add]; exact HB8.out.later hg9 j y (by simpa using hy))
            clear hg9
            go_wp2_with (refine load_win_in x (by rfl) (.tmp 3) rfl (w.heap.size + 1) 0 rfl HB9.out ?_)
            refine (KX.out _).mono ?_
            rintro e w10 ⟨rfl, hg10⟩
            have HL10 := Lib.hid (gtrans HL9.out hg10)
            clear hg10
            go_wp2_with fail
            go_ret
            exact ⟨rfl, HL10.out⟩
          · have hy := HM.out HH.out hs
            clear HN HM
            subst hy
            go_wp2_with fail
            refine (KA.out _).mono ?_
            rintro e w9 ⟨rfl, hg9⟩
            have HL9 := Lib.hid (gtrans HL8.out hg9)
            clear hg9
            go_wp2_with fail
            go_ret
            exact ⟨rfl, HL9.out⟩

end Go.Proofs.Ythbgllbbliijlaa.Conf
