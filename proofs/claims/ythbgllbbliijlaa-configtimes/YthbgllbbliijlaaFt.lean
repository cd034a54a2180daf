/-
  The chime's lead is any from 1 to the least dwell. No condition but those that each theorem states.
-/
import Derived.Test.YthbgllbbliijlaaDn
namespace Go.Proofs.Ythbgllbbliijlaa.Conf
open Go.ChangeShapes Go.WideShapes Go.ChangeAt Go.RowKit
open Go.Proofs.Ythbgllbbliijlaa.Divs Go.Proofs.Ythbgllbbliijlaa.Grow Go.Proofs.Ythbgllbbliijlaa.Zone
open Go.Proofs.Ythbgllbbliijlaa.By (Sk SL bool_no bool_yes)
open Go.Proofs.Ythbgllbbliijlaa.Each
open Go.Proofs.Ythbgllbbliijlaa.Zo Go.Proofs.Ythbgllbbliijlaa.Su Go.Proofs.Ythbgllbbliijlaa.Cf

theorem Is.dwells {W : World} {D : Array Value} {c : Cg} (h : Is W D c) : D[7]? = some (.int .i64 c.d) ∧ D[11]? = some (.int .i64 c.r) ∧ D[12]? = some (.int .i64 c.q) := by
  obtain ⟨u, v, rfl, hu, hv⟩ := h
  exact ⟨rfl, rfl, rfl⟩

theorem Is.lead8 {W : World} {D : Array Value} {c : Cg} (h : Is W D c) : D[8]? = some (.int .i64 c.e) := by
  obtain ⟨u, v, rfl, hu, hv⟩ := h
  rfl

set_option maxHeartbeats 1000000 in
theorem times_core (w : World) (D : Array Value) (c : Cg) (hc : Is w D c) (n : Int) (_hn : -9223372036854775808 ≤ n ∧ n ≤ 9223372036854775807) : Calls Try.prog 8 #[.agg D, .int .i64 n] w fun e w' => e = .returned (.bool true) ∧ Later w w' := by
  have KF := Lib.hid (fun W (g : Later w W) => few_of (hc.later g))
  have KO := Lib.hid (fun W (g : Later w W) hf => own_of (hc.later g) hf)
  have KC := Lib.hid (fun W E (h : Is W E c) => check_of h)
  have KL := Lib.hid (fun W E (h : Is W E (cl c n)) => check_of h)
  have KA := Lib.hid awake_any
  have HN := Lib.hid (ce_lead c n)
  have HM := Lib.hid (ls_in c)
  have HE : Hid (ls c = min (min c.d c.r) c.q) := Lib.hid rfl
  have HZ := Lib.hid hc.size
  have D7 := Lib.hid hc.dwells.1
  have D11 := Lib.hid hc.dwells.2.1
  have D12 := Lib.hid hc.dwells.2.2
  have HL0 := Lib.hid ((Later.refl w).alloc D 33)
  have HA0 := Lib.hid (At.new w D 33)
  clear hc
  generalize hx : ls c = least at *
  generalize hy : ce (cl c n) = y at *
  clear hx hy
  have mn : ∀ W : World, (Builtin.min_ #[3, 3, 3] 3 #[.int .i64 c.d, .int .i64 c.r, .int .i64 c.q]).run Try.prog W = .ok (.int .i64 least) W := by
    intro W
    rw [min_three, HE.out]
  clear HE
  go_enter Try.func8, Try.ntmps8
  go_wp2_with (refine load_at D HZ.out rfl (.tmp 2) rfl w.heap.size rfl HA0.out ?_)
  refine (KF.out _ HL0.out).mono ?_
  rintro e w1 ⟨rfl, hg1⟩
  have HL1 := Lib.hid (gtrans HL0.out hg1)
  have HA1 := Lib.hid (HA0.out.later hg1)
  clear hg1
  cases e1 : fw c with
  | false =>
    go_wp2_with fail
    refine (KA.out _).mono ?_
    rintro e w2 ⟨rfl, hg2⟩
    have HL2 := Lib.hid (gtrans HL1.out hg2)
    clear hg2
    go_wp2_with fail
    go_ret
    exact ⟨rfl, HL2.out⟩
  | true =>
    go_wp2_with (refine load_in D HZ.out (by rfl) (.tmp 2) rfl w.heap.size rfl HA1.out ?_)
    refine (KO.out _ HL1.out e1).mono ?_
    rintro e w2 ⟨E, rfl, ho, hg2⟩
    have HL2 := Lib.hid (gtrans HL1.out hg2)
    have HA2 := Lib.hid (HA1.out.later hg2)
    have HI := Lib.hid ho.is
    clear hg2 ho
    go_wp2_with fail
    refine (KC.out _ _ HI.out).mono ?_
    rintro e w3 ⟨rfl, hg3⟩
    have HL3 := Lib.hid (gtrans HL2.out hg3)
    have HA3 := Lib.hid (HA2.out.later hg3)
    clear hg3 HI
    cases e2 : (ce c == 0) with
    | false =>
      have e2' : (ce c != 0) = true := by rw [bne, e2]; rfl
      go_wp2_with fail
      refine (KA.out _).mono ?_
      rintro e w4 ⟨rfl, hg4⟩
      have HL4 := Lib.hid (gtrans HL3.out hg4)
      clear hg4
      go_wp2_with fail
      go_ret
      exact ⟨rfl, HL4.out⟩
    | true =>
      have e2' : (ce c != 0) = false := by rw [bne, e2]; rfl
      have h0 : ce c = 0 := by simpa using e2
      go_wp2_with (refine load_at D HZ.out rfl (.tmp 2) rfl w.heap.size rfl HA3.out ?_)
      refine (KO.out _ HL3.out e1).mono ?_
      rintro e w4 ⟨F, rfl, ho, hg4⟩
      have HL4 := Lib.hid (gtrans HL3.out hg4)
      have HA4 := Lib.hid (HA3.out.later hg4)
      have F37 := Lib.hid ho.is.size
      have F1 := Lib.hid ho.is.one
      have F8 := Lib.hid ho.is.lead8
      have HI4 := Lib.hid (ho.is.lead n)
      clear hg4 ho
      obtain ⟨G, hG⟩ : ∃ G, G = F.setIfInBounds 8 (.int .i64 n) := ⟨_, rfl⟩
      have G37 : Hid (G.size = 37) := Lib.hid (by rw [hG]; simpa using F37.out)
      rw [← hG] at HI4
      have HG := Lib.hid hG
      clear hG
      go_wp2_with (first
        | (refine store_row rfl (.tmp 5) (.tmp 19) rfl w4.heap.size rfl F F37.out F1.out rfl _ rfl (Row.new _ _ _) w4 ((Later.refl _).alloc _ _) (Nat.le_refl _) ?_; intro W5 hR5 hL5 _; have a8 := hR5.cell 8 F8.out; have z8 := hR5.frozen 8; have HR5 := Lib.hid (hR5.set 8 (.int .i64 n)); rw [← HG.out] at HR5; have HL5 : Hid (Later w4 (W5.setCell ⟨w4.heap.size, 8, none⟩ (.int .i64 n))) := Lib.hid (hL5.setCell (Nat.le_refl _) _); clear hR5 hL5)
        | (refine load_at G G37.out rfl (.tmp 5) rfl w4.heap.size rfl HR5.out.at ?_))
      refine (KL.out _ _ (HI4.out.later HL5.out)).mono ?_
      rintro e w6 ⟨rfl, hg6⟩
      have HL6 := Lib.hid (gtrans HL4.out (gtrans HL5.out hg6))
      have HA6 := Lib.hid (HA4.out.later (gtrans HL5.out hg6))
      have d7 := HA6.out 7 _ D7.out
      have d11 := HA6.out 11 _ D11.out
      have d12 := HA6.out 12 _ D12.out
      clear hg6
      have hn := HN.out h0
      obtain ⟨m1, m2⟩ := HM.out h0
      clear HN HM
      by_cases hi : 1 ≤ n ∧ n ≤ least
      · rw [if_pos hi] at hn
        obtain ⟨i1, i2⟩ := hi
        subst hn
        go_wp2_with fail
        refine (KA.out _).mono ?_
        rintro e w7 ⟨rfl, hg7⟩
        have HL7 := Lib.hid (gtrans HL6.out hg7)
        clear hg7
        go_wp2_with fail
        go_ret
        exact ⟨rfl, HL7.out⟩
      · rw [if_neg hi] at hn
        subst hn
        go_wp2_with fail
        refine (KA.out _).mono ?_
        rintro e w7 ⟨rfl, hg7⟩
        have HL7 := Lib.hid (gtrans HL6.out hg7)
        clear hg7
        by_cases i1 : 1 ≤ n
        · have i2 : decide (n ≤ least) = false := decide_eq_false (fun x => hi ⟨i1, x⟩)
          go_wp2_with fail
          go_ret
          exact ⟨rfl, HL7.out⟩
        · go_wp2_with fail
          go_ret
          exact ⟨rfl, HL7.out⟩

end Go.Proofs.Ythbgllbbliijlaa.Conf
