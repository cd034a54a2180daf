/-
  Whether two configurations are the same, by the reckoning. No condition but those that each theorem states.
-/
import Derived.Test.YthbgllbbliijlaaDe
namespace Go.Proofs.Ythbgllbbliijlaa.Conf
open Go.ChangeShapes Go.WideShapes Go.ChangeAt Go.RowKit
open Go.Proofs.Ythbgllbbliijlaa.Divs Go.Proofs.Ythbgllbbliijlaa.Grow Go.Proofs.Ythbgllbbliijlaa.Zone
open Go.Proofs.Ythbgllbbliijlaa.By (Sk SL bool_no bool_yes)
open Go.Proofs.Ythbgllbbliijlaa.Each
open Go.Proofs.Ythbgllbbliijlaa.Zo Go.Proofs.Ythbgllbbliijlaa.Su Go.Proofs.Ythbgllbbliijlaa.Cf

attribute [local go_sem high] equal_win equal_times equal_sun equal_zn

theorem sk_form {W : World} {v : Value} {xs : List Int} (h : Sk .i64 W v xs) : ∃ ad cap, v = .slice ad xs.length cap ∧ xs.length ≤ 9223372036854775807 ∧ (∀ i x, xs[i]? = some x → ∃ B off, ad = some ⟨B, off, none⟩ ∧ W.cell? ⟨B, off + i, none⟩ = some (.int .i64 x)) := by
  obtain ⟨ad, cap, rfl, h1, h2, h3, h4⟩ := h
  exact ⟨ad, cap, rfl, by omega, h4⟩

theorem wk_form {W : World} {v : Value} {xs : List Wn} (h : Wk W v xs) : ∃ ad cap, v = .slice ad xs.length cap ∧ xs.length ≤ 9223372036854775807 ∧ (∀ i x, xs[i]? = some x → ∃ B off, ad = some ⟨B, off, none⟩ ∧ W.rangeAt B (off + i * 7) (wc x)) := by
  rcases Nat.eq_zero_or_pos xs.length with h0 | h0
  · obtain ⟨ad, cap, rfl, hm⟩ := h.len
    refine ⟨ad, cap, rfl, hm, fun i x hx => ?_⟩
    have := (List.getElem?_eq_some_iff.1 hx).1
    omega
  · obtain ⟨b, off, cap, rfl, hm, _, hc⟩ := h.has h0
    exact ⟨_, cap, rfl, hm, fun i x hx => ⟨b, off, rfl, hc i x hx⟩⟩

set_option maxHeartbeats 4000000 in
theorem rsame_rest (a b : Cg) (u v u' v' : Value) (w : World) (hu : Sk .i64 w u a.st) (hu' : Sk .i64 w u' b.st) (hv : Wk w v a.ws) (hv' : Wk w v' b.ws) (R : Bool) (HQ : Hid (R = true ↔ a.st = b.st ∧ a.ws = b.ws))
    (e0 : (a.f == b.f) = true) (e1 : (a.n == b.n) = true) (e2 : (a.p == b.p) = true) (e3 : tq a b = true) (e4 : (a.r == b.r) = true) (e5 : (a.q == b.q) = true) (e6 : zq a.z b.z = true) (e7 : sq a.s b.s = true) (e8 : (a.ab == b.ab) = true) : Calls Try.prog 17 #[.agg (cc a u v), .agg (cc b u' v')] w fun e w' => e = .returned (.bool R) ∧ Later w w' := by
  have t0 : (a.f != b.f) = false := by simp only [bne, e0]; rfl
  have t1 : (a.n != b.n) = false := by simp only [bne, e1]; rfl
  have t2 : (a.p != b.p) = false := by simp only [bne, e2]; rfl
  have t4 : (a.r != b.r) = false := by simp only [bne, e4]; rfl
  have t5 : (a.q != b.q) = false := by simp only [bne, e5]; rfl
  have t8 : (a.ab != b.ab) = false := by simp only [bne, e8]; rfl
  have HF : Hid (¬ (a.st = b.st ∧ a.ws = b.ws) → R = false) := Lib.hid (fun h => by
    cases e : R with
    | false => rfl
    | true => exact absurd (HQ.out.1 e) h)
  have HG := Lib.hid (((Later.refl w).alloc (cc a u v) 33).alloc (cc b u' v') 33)
  have HA := Lib.hid ((At.new w (cc a u v) 33).put (.cells (cc b u' v') 33))
  have HB := Lib.hid (At.new (w.alloc (.cells (cc a u v) 33)) (cc b u' v') 33)
  simp only [World.size_alloc] at HB
  have ca3 := Lib.hid (HA.out 3 _ rfl)
  have cb3 := Lib.hid (HB.out 3 _ rfl)
  have ca36 := Lib.hid (HA.out 36 _ rfl)
  have cb36 := Lib.hid (HB.out 36 _ rfl)
  obtain ⟨d1, p1, rfl, m1, hc1⟩ := sk_form (hu.later HG.out)
  obtain ⟨d2, p2, rfl, m2, hc2⟩ := sk_form (hu'.later HG.out)
  obtain ⟨d3, p3, rfl, m3, hc3⟩ := wk_form (hv.later HG.out)
  obtain ⟨d4, p4, rfl, m4, hc4⟩ := wk_form (hv'.later HG.out)
  have HC1 := Lib.hid hc1
  have HC2 := Lib.hid hc2
  have HC3 := Lib.hid hc3
  have HC4 := Lib.hid hc4
  clear hu hu' hv hv' hc1 hc2 hc3 hc4 HA HB
  by_cases l1 : a.st.length = b.st.length
  case neg =>
    have t : ((a.st.length : Int) != (b.st.length : Int)) = true := by simpa using fun h => l1 (by omega)
    have HV := Lib.hid (HF.out (fun h => l1 (by rw [h.1])))
    clear l1 HC1 HC2 HC3 HC4 ca3 cb3 ca36 cb36 HF HQ
    unfold cc at *
    go_enter Try.func17, Try.ntmps17
    go_wp2_with fail
    go_ret
    exact ⟨retb HV.out.symm, HG.out⟩
  by_cases l2 : a.ws.length = b.ws.length
  case neg =>
    have t : ((a.st.length : Int) != (b.st.length : Int)) = false := by rw [l1]; simp
    have t' : ((a.ws.length : Int) != (b.ws.length : Int)) = true := by simpa using fun h => l2 (by omega)
    have HV := Lib.hid (HF.out (fun h => l2 (by rw [h.2])))
    clear l1 l2 HC1 HC2 HC3 HC4 ca3 cb3 ca36 cb36 HF HQ
    unfold cc at *
    go_enter Try.func17, Try.ntmps17
    go_wp2_with fail
    go_ret
    exact ⟨retb HV.out.symm, HG.out⟩
  have s1 : ((a.st.length : Int) != (b.st.length : Int)) = false := by rw [l1]; simp
  have s2 : ((a.ws.length : Int) != (b.ws.length : Int)) = false := by rw [l2]; simp
  have L1 := Lib.hid l1
  have L2 := Lib.hid l2
  clear l1 l2
  unfold cc at *
  go_enter Try.func17, Try.ntmps17
  go_wp2_with fail
  generalize (w.alloc (.cells _ 33)).alloc (.cells _ 33) = W0 at *
  clear e0 e1 e2 e3 e4 e5 e6 e7 e8 t0 t1 t2 t4 t5 t8 s1 s2
  have x1 : W0.cell? ⟨w.heap.size, 3, none⟩ = some (.slice d1 a.st.length p1) := ca3.out
  have x2 : W0.cell? ⟨w.heap.size + 1, 3, none⟩ = some (.slice d2 b.st.length p2) := cb3.out
  have X3 : Hid (W0.cell? ⟨w.heap.size, 36, none⟩ = some (.slice d3 a.ws.length p3)) := Lib.hid ca36.out
  have X4 : Hid (W0.cell? ⟨w.heap.size + 1, 36, none⟩ = some (.slice d4 b.ws.length p4)) := Lib.hid cb36.out
  clear ca3 cb3 ca36 cb36
  generalize a.st = xs at *
  generalize b.st = ys at *
  generalize a.ws = fs at *
  generalize b.ws = gs at *
  obtain ⟨n, hn⟩ : ∃ n, ys.length = n := ⟨_, rfl⟩
  have HN := Lib.hid hn
  have HX : Hid (xs.length = n) := Lib.hid (by rw [L1.out, hn])
  rw [hn] at x2 m2
  rw [HX.out] at x1 m1
  clear hn
  rw [HX.out, HN.out]
  go_loopw [5] (fun x wr => ERel xs ys W0 x wr) (fun x _ => (n - intOf x).toNat)
  case atStart => exact ⟨0, 0, by omega, rfl, by simp, rfl⟩
  case round =>
    obtain ⟨i, k, hi, rfl, ht, rfl⟩ := hrel
    rw [HX.out] at hi
    have HE := Lib.hid ht
    clear ht
    by_cases hlt : i < n
    · obtain ⟨x, hx⟩ : ∃ x, xs[i]? = some x := ⟨_, List.getElem?_eq_getElem (by rw [HX.out]; exact hlt)⟩
      obtain ⟨y, hy⟩ : ∃ y, ys[i]? = some y := ⟨_, List.getElem?_eq_getElem (by rw [HN.out]; exact hlt)⟩
      obtain ⟨B1, o1, rfl, c1⟩ := HC1.out i x hx
      obtain ⟨B2, o2, rfl, c2⟩ := HC2.out i y hy
      have EX := Lib.hid hx
      have EY := Lib.hid hy
      clear hx hy
      by_cases hac : x = y
      · subst hac
        have t : (x != x) = false := by simp
        have HS := Lib.hid (same_on xs ys i x EX.out EY.out HE.out)
        go_wp2_with fail
        go_quiet (fail)
        go_wp2_with fail
        go_roundw
        case rel => exact ⟨i + 1, _, by rw [HX.out]; omega, by go_num, HS.out, rfl⟩
        case measure => simp [intOf]; omega
      · have t : (x != y) = true := by simpa using hac
        have HV : Hid (R = false) := Lib.hid (HF.out (by
          rintro ⟨rfl, _⟩
          have := EX.out.symm.trans EY.out
          simp at this
          exact hac this))
        clear hac
        go_wp2_with fail
        go_quiet (fail)
        go_wp2_with fail
        go_ret
        exact ⟨retb HV.out.symm, HG.out⟩
    · have hn : ¬ i < n := hlt
      have HS := Lib.hid (same_all xs ys i (by rw [HX.out]; omega) L1.out HE.out)
      go_wp2_with fail
      have HG1 := Lib.hid (gtrans HG.out (later_drewN W0 k))
      have x3 := gsome (later_drewN W0 k) X3.out
      have x4 := gsome (later_drewN W0 k) X4.out
      have HC5 : Hid (∀ i x, fs[i]? = some x → ∃ B off, d3 = some ⟨B, off, none⟩ ∧ (W0.drewN k).rangeAt B (off + i * 7) (wc x)) := Lib.hid (fun i x hx => by
        obtain ⟨B, o, e, c⟩ := HC3.out i x hx
        exact ⟨B, o, e, fun j y hy => gsome (later_drewN W0 k) (c j y hy)⟩)
      have HC6 : Hid (∀ i x, gs[i]? = some x → ∃ B off, d4 = some ⟨B, off, none⟩ ∧ (W0.drewN k).rangeAt B (off + i * 7) (wc x)) := Lib.hid (fun i x hx => by
        obtain ⟨B, o, e, c⟩ := HC4.out i x hx
        exact ⟨B, o, e, fun j y hy => gsome (later_drewN W0 k) (c j y hy)⟩)
      clear x1 x2 X3 X4 HC1 HC2 HC3 HC4
      generalize W0.drewN k = W1 at *
      obtain ⟨m, hm⟩ : ∃ m, gs.length = m := ⟨_, rfl⟩
      have HN2 := Lib.hid hm
      have HX2 : Hid (fs.length = m) := Lib.hid (by rw [L2.out, hm])
      rw [hm] at x4 m4
      rw [HX2.out] at x3 m3
      clear hm
      go_loopw [6] (fun x wr => ERel fs gs W1 x wr) (fun x _ => (m - intOf x).toNat)
      case atStart => exact ⟨0, 0, by omega, rfl, by simp, rfl⟩
      case round =>
        obtain ⟨i, k, hi, rfl, ht, rfl⟩ := hrel
        rw [HX2.out] at hi
        have HE2 := Lib.hid ht
        clear ht
        by_cases hlt : i < m
        · obtain ⟨x, hx⟩ : ∃ x, fs[i]? = some x := ⟨_, List.getElem?_eq_getElem (by rw [HX2.out]; exact hlt)⟩
          obtain ⟨y, hy⟩ : ∃ y, gs[i]? = some y := ⟨_, List.getElem?_eq_getElem (by rw [HN2.out]; exact hlt)⟩
          obtain ⟨B1, o1, rfl, r1⟩ := HC5.out i x hx
          obtain ⟨B2, o2, rfl, r2⟩ := HC6.out i y hy
          have EX := Lib.hid hx
          have EY := Lib.hid hy
          clear hx hy
          have pc0 := r1 0 _ rfl
          have pc1 := r1 1 _ rfl
          have pc2 := r1 2 _ rfl
          have pc3 := r1 3 _ rfl
          have pc4 := r1 4 _ rfl
          have pc5 := r1 5 _ rfl
          have pc6 := r1 6 _ rfl
          have qc0 := r2 0 _ rfl
          have qc1 := r2 1 _ rfl
          have qc2 := r2 2 _ rfl
          have qc3 := r2 3 _ rfl
          have qc4 := r2 4 _ rfl
          have qc5 := r2 5 _ rfl
          have qc6 := r2 6 _ rfl
          clear r1 r2
          simp only [Nat.add_zero] at pc0 qc0
          by_cases hac : x = y
          · subst hac
            have t : ws x x = true := (ws_iff _ _).2 rfl
            have HT := Lib.hid (same_on fs gs i x EX.out EY.out HE2.out)
            go_wp2_with fail
            go_quiet (fail)
            go_wp2_with fail
            go_roundw
            case rel => exact ⟨i + 1, _, by rw [HX2.out]; omega, by go_num, HT.out, rfl⟩
            case measure => simp [intOf]; omega
          · have t : ws x y = false := by
              cases e : ws x y with
              | false => rfl
              | true => exact absurd ((ws_iff _ _).1 e) hac
            have HV : Hid (R = false) := Lib.hid (HF.out (by
              rintro ⟨_, rfl⟩
              have := EX.out.symm.trans EY.out
              simp at this
              exact hac this))
            clear hac
            go_wp2_with fail
            go_quiet (fail)
            go_wp2_with fail
            go_ret
            exact ⟨retb HV.out.symm, HG1.out⟩
        · have hn' : ¬ i < m := hlt
          have HV : Hid (R = true) := Lib.hid (HQ.out.2 ⟨HS.out, same_all fs gs i (by rw [HX2.out]; omega) L2.out HE2.out⟩)
          go_wp2_with fail
          go_ret
          exact ⟨retb HV.out.symm, gtrans HG1.out (later_drewN W1 _)⟩

set_option maxHeartbeats 4000000 in
theorem rsame_any (a b : Cg) (u v u' v' : Value) (w : World) (hu : Sk .i64 w u a.st) (hu' : Sk .i64 w u' b.st) (hv : Wk w v a.ws) (hv' : Wk w v' b.ws) : Calls Try.prog 17 #[.agg (cc a u v), .agg (cc b u' v')] w fun e w' => e = .returned (.bool (sb a b && tt a b)) ∧ Later w w' := by
  obtain ⟨R, hR⟩ : ∃ R, (sb a b && tt a b) = R := ⟨_, rfl⟩
  rw [hR]
  unfold sb tt at hR
  have HG := Lib.hid (((Later.refl w).alloc (cc a u v) 33).alloc (cc b u' v') 33)
  have HA := Lib.hid ((At.new w (cc a u v) 33).put (.cells (cc b u' v') 33))
  have HB := Lib.hid (At.new (w.alloc (.cells (cc a u v) 33)) (cc b u' v') 33)
  simp only [World.size_alloc] at HB
  have HU := Lib.hid hu
  have HU' := Lib.hid hu'
  have HW := Lib.hid hv
  have HW' := Lib.hid hv'
  clear hu hu' hv hv'
  have HR := Lib.hid hR
  clear hR
  cases e0 : (a.f == b.f) with
  | false =>
    have HV : Hid (R = false) := Lib.hid (by rw [← HR.out]; simp only [e0, Bool.false_and])
    have t0 : (a.f != b.f) = true := by simp only [bne, e0]; rfl
    clear HU HU' HW HW' HR HA HB
    unfold cc at *
    go_enter Try.func17, Try.ntmps17
    go_wp2_with fail
    go_ret
    exact ⟨retb HV.out.symm, HG.out⟩
  | true =>
  have t0 : (a.f != b.f) = false := by simp only [bne, e0]; rfl
  cases e1 : (a.n == b.n) with
  | false =>
    have HV : Hid (R = false) := Lib.hid (by rw [← HR.out]; simp only [e1, Bool.false_and, Bool.and_false])
    have t1 : (a.n != b.n) = true := by simp only [bne, e1]; rfl
    clear HU HU' HW HW' HR HA HB
    unfold cc at *
    go_enter Try.func17, Try.ntmps17
    go_wp2_with fail
    go_ret
    exact ⟨retb HV.out.symm, HG.out⟩
  | true =>
  have t1 : (a.n != b.n) = false := by simp only [bne, e1]; rfl
  cases e2 : (a.p == b.p) with
  | false =>
    have HV : Hid (R = false) := Lib.hid (by rw [← HR.out]; simp only [e2, Bool.false_and, Bool.and_false])
    have t2 : (a.p != b.p) = true := by simp only [bne, e2]; rfl
    clear HU HU' HW HW' HR HA HB
    unfold cc at *
    go_enter Try.func17, Try.ntmps17
    go_wp2_with fail
    go_ret
    exact ⟨retb HV.out.symm, HG.out⟩
  | true =>
  have t2 : (a.p != b.p) = false := by simp only [bne, e2]; rfl
  cases e3 : tq a b with
  | false =>
    have HV : Hid (R = false) := Lib.hid (by rw [← HR.out]; simp only [e3, Bool.false_and, Bool.and_false])
    clear HU HU' HW HW' HR HA HB
    unfold cc at *
    go_enter Try.func17, Try.ntmps17
    go_wp2_with fail
    go_ret
    exact ⟨retb HV.out.symm, HG.out⟩
  | true =>
  cases e4 : (a.r == b.r) with
  | false =>
    have HV : Hid (R = false) := Lib.hid (by rw [← HR.out]; simp only [e4, Bool.false_and, Bool.and_false])
    have t4 : (a.r != b.r) = true := by simp only [bne, e4]; rfl
    clear HU HU' HW HW' HR HA HB
    unfold cc at *
    go_enter Try.func17, Try.ntmps17
    go_wp2_with fail
    go_ret
    exact ⟨retb HV.out.symm, HG.out⟩
  | true =>
  have t4 : (a.r != b.r) = false := by simp only [bne, e4]; rfl
  cases e5 : (a.q == b.q) with
  | false =>
    have HV : Hid (R = false) := Lib.hid (by rw [← HR.out]; simp only [e5, Bool.false_and, Bool.and_false])
    have t5 : (a.q != b.q) = true := by simp only [bne, e5]; rfl
    clear HU HU' HW HW' HR HA HB
    unfold cc at *
    go_enter Try.func17, Try.ntmps17
    go_wp2_with fail
    go_ret
    exact ⟨retb HV.out.symm, HG.out⟩
  | true =>
  have t5 : (a.q != b.q) = false := by simp only [bne, e5]; rfl
  cases e6 : zq a.z b.z with
  | false =>
    have HV : Hid (R = false) := Lib.hid (by rw [← HR.out]; simp only [e6, Bool.false_and, Bool.and_false])
    clear HU HU' HW HW' HR HA HB
    unfold cc at *
    go_enter Try.func17, Try.ntmps17
    go_wp2_with fail
    go_ret
    exact ⟨retb HV.out.symm, HG.out⟩
  | true =>
  cases e7 : sq a.s b.s with
  | false =>
    have HV : Hid (R = false) := Lib.hid (by rw [← HR.out]; simp only [e7, Bool.false_and, Bool.and_false])
    clear HU HU' HW HW' HR HA HB
    unfold cc at *
    go_enter Try.func17, Try.ntmps17
    go_wp2_with fail
    go_ret
    exact ⟨retb HV.out.symm, HG.out⟩
  | true =>
  cases e8 : (a.ab == b.ab) with
  | false =>
    have HV : Hid (R = false) := Lib.hid (by rw [← HR.out]; simp only [e8, Bool.false_and, Bool.and_false])
    have t8 : (a.ab != b.ab) = true := by simp only [bne, e8]; rfl
    clear HU HU' HW HW' HR HA HB
    unfold cc at *
    go_enter Try.func17, Try.ntmps17
    go_wp2_with fail
    go_ret
    exact ⟨retb HV.out.symm, HG.out⟩
  | true =>
  have t8 : (a.ab != b.ab) = false := by simp only [bne, e8]; rfl
  have HQ : Hid (R = true ↔ a.st = b.st ∧ a.ws = b.ws) := Lib.hid (by rw [← HR.out]; simp only [e0, e1, e2, e3, e4, e5, e6, e7, e8, Bool.true_and, Bool.and_true, Bool.and_eq_true, decide_eq_true_eq])
  exact rsame_rest a b u v u' v' w HU.out HU'.out HW.out HW'.out R HQ e0 e1 e2 e3 e4 e5 e6 e7 e8

end Go.Proofs.Ythbgllbbliijlaa.Conf
