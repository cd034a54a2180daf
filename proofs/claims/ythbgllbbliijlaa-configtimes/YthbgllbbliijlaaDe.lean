/-
  Whether a configuration may be, by the reckoning. No condition but those that each theorem states.
-/
import Derived.Test.YthbgllbbliijlaaDd
namespace Go.Proofs.Ythbgllbbliijlaa.Conf
open Go.ChangeShapes Go.WideShapes Go.ChangeAt Go.RowKit
open Go.Proofs.Ythbgllbbliijlaa.Divs Go.Proofs.Ythbgllbbliijlaa.Grow Go.Proofs.Ythbgllbbliijlaa.Zone
open Go.Proofs.Ythbgllbbliijlaa.By (Sk SL bool_no bool_yes)
open Go.Proofs.Ythbgllbbliijlaa.Each
open Go.Proofs.Ythbgllbbliijlaa.Zo Go.Proofs.Ythbgllbbliijlaa.Su Go.Proofs.Ythbgllbbliijlaa.Cf

/-- The first k windows may be; the configuration lies in the block A. -/
def RRel (xs : List Wn) (C : Array Value) (A : Nat) (w : World) (i : Value) (wr : World) : Prop :=
  ∃ k : Nat, k ≤ xs.length ∧ i = .int .i64 (k : Int) ∧ (∀ j y, j < k → xs[j]? = some y → wo y = true) ∧ At wr A C ∧ Later w wr

set_option maxHeartbeats 4000000 in
theorem rcheck_rest (c : Cg) (u v : Value) (w : World) (hu : Sk .i64 w u c.st) (hv : Wk w v c.ws) (h : so c = true) : Calls Try.prog 14 #[.agg (cc c u v)] w fun e w' => e = .returned (.int .i64 (ce c)) ∧ Later w w' := by
  have KS := Lib.hid (fun W (g : Later w W) => rstops_any c u v W (hu.later g))
  have KT := Lib.hid (fun W => rtimes_any c u v W)
  have KZ := Lib.hid (fun W => rcheck_any c.z W)
  have KN := Lib.hid (fun W => Sun.rcheck_tab c.s W)
  have KW := Lib.hid (fun x W => rwindow_any x W)
  obtain ⟨N, hN⟩ : ∃ N, ce c = N := ⟨_, rfl⟩
  rw [hN]
  unfold ce at hN
  rw [if_pos h] at hN
  have HL := Lib.hid ((Later.refl w).alloc (cc c u v) 33)
  have HZ := Lib.hid (fun W b h => cc_zone c u v (W := W) (b := b) h)
  have HS := Lib.hid (fun W b h => cc_sun c u v (W := W) (b := b) h)
  have HA := Lib.hid (At.new w (cc c u v) 33)
  rw [so_iff] at h
  obtain ⟨C, hC⟩ : ∃ C, C = cc c u v := ⟨_, rfl⟩
  rw [← hC] at HL HA HZ HS KS KT ⊢
  have f0 : C[0]? = some (.int .i64 c.f) := by rw [hC]; rfl
  have f1 : C[1]? = some (.int .i64 c.n) := by rw [hC]; rfl
  have f2 : C[2]? = some (.int .i64 c.p) := by rw [hC]; rfl
  have F36 : Hid (C[36]? = some v) := Lib.hid (by rw [hC]; rfl)
  have HC : Hid (C.size = 37) := Lib.hid (by rw [hC]; rfl)
  clear hC
  have HV := Lib.hid hv
  clear hu hv
  generalize to c = b1 at *
  generalize ti c = b2 at *
  generalize ck c.z = x at *
  generalize sk c.s = y at *
  have HN := Lib.hid hN
  clear hN
  generalize c.f = f at *
  generalize c.n = n at *
  generalize c.p = p at *
  generalize c.ws = xs at *
  generalize c.z = z at *
  generalize c.s = s at *
  obtain ⟨h1, h2, h3, h4, h5, h6⟩ := h
  have g1 : ¬ f < 2 := by omega
  have g2 : ¬ f > 64 := by omega
  have g3 : ¬ n < 1 := by omega
  have g4 : ¬ n > 8 := by omega
  have g5 : ¬ p < 0 := by omega
  have g6 : ¬ p ≥ f := by omega
  clear h1 h2 h3 h4 h5 h6
  go_enter Try.func14, Try.ntmps14
  go_wp2_with (refine load_at C HC.out rfl (.tmp 1) rfl w.heap.size rfl HA.out ?_)
  clear g1 g2 g3 g4 g5 g6 f0 f1 f2
  refine (KS.out _ HL.out).mono ?_
  rintro e w1 ⟨rfl, hg1⟩
  have HL1 := Lib.hid (gtrans HL.out hg1)
  have HA1 := Lib.hid (HA.out.later hg1)
  clear hg1
  cases b1 with
  | false =>
    go_wp2_with fail
    go_ret
    exact ⟨ret1 (by rw [← HN.out]; rfl), HL1.out⟩
  | true =>
  go_wp2_with (refine load_at C HC.out rfl (.tmp 1) rfl w.heap.size rfl HA1.out ?_)
  refine (KT.out _).mono ?_
  rintro e w2 ⟨rfl, hg2⟩
  have HL2 := Lib.hid (gtrans HL1.out hg2)
  have HA2 := Lib.hid (HA1.out.later hg2)
  clear hg2
  cases b2 with
  | false =>
    go_wp2_with fail
    go_ret
    exact ⟨ret1 (by rw [← HN.out]; rfl), HL2.out⟩
  | true =>
  go_wp2_with (refine load_zn z rfl (.tmp 47) rfl w.heap.size 13 rfl (HZ.out _ _ HA2.out) ?_)
  refine (KZ.out _).mono ?_
  rintro e w3 ⟨rfl, hg3⟩
  have HL3 := Lib.hid (gtrans HL2.out hg3)
  have HA3 := Lib.hid (HA2.out.later hg3)
  clear hg3
  by_cases hx : x = 0
  case neg =>
    have t : (x != 0) = true := by simpa using hx
    have HV' : Hid (N = x) := Lib.hid (by rw [← HN.out]; simp [hx])
    clear hx
    go_wp2_with fail
    go_ret
    exact ⟨ret1 HV'.out.symm, HL3.out⟩
  subst hx
  go_wp2_with (refine load_sn s rfl (.tmp 53) rfl w.heap.size 23 rfl (HS.out _ _ HA3.out) ?_)
  refine (KN.out _).mono ?_
  rintro e w4 ⟨rfl, hg4⟩
  have HL4 := Lib.hid (gtrans HL3.out hg4)
  have HA4 := Lib.hid (HA3.out.later hg4)
  clear hg4
  by_cases hy : y = 0
  case neg =>
    have t : (y != 0) = true := by simpa using hy
    have HV' : Hid (N = y) := Lib.hid (by rw [← HN.out]; simp [hy])
    clear hy
    go_wp2_with fail
    go_ret
    exact ⟨ret1 HV'.out.symm, HL4.out⟩
  subst hy
  have HN' : Hid (N = if xs.length ≤ 16 then (if wa xs = true then 0 else 104) else 103) := Lib.hid (by rw [← HN.out]; simp)
  have c36 := HA4.out 36 _ F36.out
  have wv := HV.out.later HL4.out
  rcases Nat.eq_zero_or_pos xs.length with h0 | h0
  · have HV' : Hid (N = 0) := Lib.hid (by rw [HN'.out, List.length_eq_zero_iff.1 h0]; rfl)
    obtain ⟨ad, cap, rfl, hm⟩ := wv.len
    rw [h0] at c36
    clear wv hm h0
    go_wp2_with fail
    refine wp_loop_rounds 1 ?_
    rw [rounds_succ]
    go_wp2
    go_ret
    exact ⟨ret1 HV'.out.symm, HL4.out⟩
  · obtain ⟨B, off, cap, rfl, hm, hB, hc⟩ := wv.has h0
    clear hB wv
    obtain ⟨n, hn⟩ : ∃ n, xs.length = n := ⟨_, rfl⟩
    rw [hn] at h0 hm c36 HN' F36
    have HX := Lib.hid hn
    clear hn
    by_cases h16 : n ≤ 16
    case neg =>
      have t : decide ((n : Int) > 16) = true := by simp; omega
      have HV' : Hid (N = 103) := Lib.hid (by rw [HN'.out, if_neg h16])
      clear hc h16
      go_wp2_with fail
      go_ret
      exact ⟨ret1 HV'.out.symm, HL4.out⟩
    have t : decide ((n : Int) > 16) = false := by simp; omega
    have HR := Lib.hid hc
    have HM : Hid (N = if wa xs = true then 0 else 104) := Lib.hid (by rw [HN'.out, if_pos h16])
    clear hc h16
    have ad : ∀ j, (⟨B, off, none⟩ : Addr).add j = ⟨B, off + j, none⟩ := Addr.add_mid B off
    go_wp2_with fail
    clear t c36
    go_loopw [7] (fun i wr => RRel xs C w.heap.size w4 i wr) (fun i _ => n - (intOf i).toNat)
    case atStart => exact ⟨0, by omega, rfl, by omega, HA4.out, Later.refl _⟩
    case round =>
      obtain ⟨k, hk, rfl, hj, ha, hg⟩ := hrel
      rw [HX.out] at hk
      have HG := Lib.hid hg
      have HA5 := Lib.hid ha
      have HJ := Lib.hid hj
      clear hg ha hj
      have c36 := HA5.out 36 _ F36.out
      by_cases hlt : k < n
      · obtain ⟨x, hx⟩ : ∃ x, xs[k]? = some x := ⟨_, List.getElem?_eq_getElem (by rw [HX.out]; exact hlt)⟩
        have hr := HR.out k x hx
        have HR' : Hid (wr.rangeAt B (off + k * 7) (wc x)) := Lib.hid (fun j y hy => gsome HG.out (hr j y hy))
        have HE := Lib.hid hx
        clear hr hx
        have K' := Lib.hid (fun W => KW.out x W)
        unfold wc at K'
        go_wp2_with (refine load_win x rfl (.tmp 73) rfl B (off + k * 7) rfl HR'.out ?_)
        refine (K'.out _).mono ?_
        rintro e w5 ⟨rfl, hg5⟩
        have HG5 := Lib.hid (gtrans HG.out hg5)
        have HA6 := Lib.hid (HA5.out.later hg5)
        clear hg5 c36
        cases hb : wo x with
        | false =>
          have HV' : Hid (N = 104) := Lib.hid (by rw [HM.out, wa_no HE.out hb]; rfl)
          clear hb
          go_wp2_with fail
          go_ret
          exact ⟨ret1 HV'.out.symm, gtrans HL4.out HG5.out⟩
        | true =>
          have HJ' : Hid (∀ j y, j < k + 1 → xs[j]? = some y → wo y = true) := Lib.hid (fun j y hj hy => by
            by_cases e : j = k
            · subst e
              rw [HE.out] at hy
              obtain rfl := Option.some.inj hy
              exact hb
            · exact HJ.out j y (by omega) hy)
          clear hb
          go_wp2_with fail
          go_roundw
          case rel => exact ⟨k + 1, by rw [HX.out]; omega, by go_num, HJ'.out, HA6.out, HG5.out⟩
          case measure => simp [intOf]; omega
      · obtain rfl : k = n := by omega
        have HV' : Hid (N = 0) := Lib.hid (by rw [HM.out, wa_yes (fun j x hl hx => HJ.out j x (by rw [← HX.out]; exact hl) hx)]; rfl)
        go_wp2_with fail
        go_ret
        exact ⟨ret1 HV'.out.symm, gtrans HL4.out HG.out⟩

theorem rcfg_any (c : Cg) (u v : Value) (w : World) (hu : Sk .i64 w u c.st) (hv : Wk w v c.ws) : Calls Try.prog 14 #[.agg (cc c u v)] w fun e w' => e = .returned (.int .i64 (ce c)) ∧ Later w w' := by
  by_cases h : so c = true
  · exact rcheck_rest c u v w hu hv h
  · exact rcheck_size c u v w h

end Go.Proofs.Ythbgllbbliijlaa.Conf
