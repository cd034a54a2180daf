/-
  Texts of mine, merged: each part says what it holds. Conditions: as each theorem states.
-/
import Derived.Test.YtpkjbcgmhkkfiaaGreatDoorRows
import Derived.ProofKit
import Derived.OpenShut
import Derived.ShutString
import Derived.ChangeOld
import Derived.Below
import Derived.Carry
import Derived.Lib.SmallJoins
import Derived.RowKit
import Derived.Laws.BitsAllLaws
import Derived.ArgAppend
import Derived.Laws.Cover3
import Derived.OwnWalk
import Derived.WalkLawsBesides
import Derived.Laws.CopyOwn
import Derived.Laws.AppendOwnNone
import Derived.Laws.OwnMore
import Derived.Test.YtpkjbcgmhkkfiaaGreatDoorM1

/- Whether two configurations are the same, by the reckoning. No condition but those that each theorem states. -/
namespace Go.Proofs.YtpkjbcgmhkkfiaaGreatDoor.Conf
set_option maxRecDepth 100000
open Go.ChangeShapes Go.WideShapes Go.ChangeAt Go.RowKit
open Go.Proofs.YtpkjbcgmhkkfiaaGreatDoor.Divs Go.Proofs.YtpkjbcgmhkkfiaaGreatDoor.Grow Go.Proofs.YtpkjbcgmhkkfiaaGreatDoor.Zone
open Go.Proofs.YtpkjbcgmhkkfiaaGreatDoor.By (Sk SL bool_no bool_yes)
open Go.Proofs.YtpkjbcgmhkkfiaaGreatDoor.Each
open Go.Proofs.YtpkjbcgmhkkfiaaGreatDoor.Zo Go.Proofs.YtpkjbcgmhkkfiaaGreatDoor.Su Go.Proofs.YtpkjbcgmhkkfiaaGreatDoor.Cf

attribute [local go_sem high] equal_win equal_times equal_sun equal_zn

theorem sk_form {W : World} {v : Value} {xs : List Int} (h : Sk .i64 W v xs) : ∃ ad cap, v = .slice ad xs.length cap ∧ xs.length ≤ 9223372036854775807 ∧ (∀ i x, xs[i]? = some x → ∃ B off, ad = some ⟨B, off, none⟩ ∧ W.cell? ⟨B, off + i, none⟩ = some (.int .i64 x)) := by
  obtain ⟨ad, cap, rfl, h1, h2, h3, h4⟩ := h
  exact ⟨ad, cap, rfl, by omega, h4⟩

theorem wk_form {W : World} {v : Value} {xs : List Wn} (h : Wk W v xs) : ∃ ad cap, v = .slice ad xs.length cap ∧ xs.length ≤ 9223372036854775807 ∧ (∀ i x, xs[i]? = some x → ∃ B off, ad = some ⟨B, off, none⟩ ∧ W.rangeAt B (off + i * 7) (wc x)) := by
  rcases Nat.eq_zero_or_pos xs.length with h0 | h0
  · obtain ⟨ad, cap, rfl, hm⟩ := h.len
    refine ⟨ad, cap, rfl, hm, fun i x hx => ?_⟩
    have := (List.getElem?_eq_some_iff.1 hx).1
    omega
  · obtain ⟨b, off, cap, rfl, hm, _, hc⟩ := h.has h0
    exact ⟨_, cap, rfl, hm, fun i x hx => ⟨b, off, rfl, hc i x hx⟩⟩

set_option maxHeartbeats 4000000 in
theorem rsame_rest (a b : Cg) (u v u' v' : Value) (w : World) (hu : Sk .i64 w u a.st) (hu' : Sk .i64 w u' b.st) (hv : Wk w v a.ws) (hv' : Wk w v' b.ws) (R : Bool) (HQ : Hid (R = true ↔ a.st = b.st ∧ a.ws = b.ws))
    (e0 : (a.f == b.f) = true) (e1 : (a.n == b.n) = true) (e2 : (a.p == b.p) = true) (e3 : tq a b = true) (e4 : (a.r == b.r) = true) (e5 : (a.q == b.q) = true) (e6 : zq a.z b.z = true) (e7 : sq a.s b.s = true) (e8 : (a.ab == b.ab) = true) : Calls Tryz.prog 17 #[.agg (cc a u v), .agg (cc b u' v')] w fun e w' => e = .returned (.bool R) ∧ Later w w' := by
  have t0 : (a.f != b.f) = false := by simp only [bne, e0]; rfl
  have t1 : (a.n != b.n) = false := by simp only [bne, e1]; rfl
  have t2 : (a.p != b.p) = false := by simp only [bne, e2]; rfl
  have t4 : (a.r != b.r) = false := by simp only [bne, e4]; rfl
  have t5 : (a.q != b.q) = false := by simp only [bne, e5]; rfl
  have t8 : (a.ab != b.ab) = false := by simp only [bne, e8]; rfl
  have HF : Hid (¬ (a.st = b.st ∧ a.ws = b.ws) → R = false) := Lib.hid (fun h => by
    cases e : R with
    | false => rfl
    | true => exact absurd (HQ.out.1 e) h)
  have HG := Lib.hid (((Later.refl w).alloc (cc a u v) 33).alloc (cc b u' v') 33)
  have HA := Lib.hid ((At.new w (cc a u v) 33).put (.cells (cc b u' v') 33))
  have HB := Lib.hid (At.new (w.alloc (.cells (cc a u v) 33)) (cc b u' v') 33)
  simp only [World.size_alloc] at HB
  have ca3 := Lib.hid (HA.out 3 _ rfl)
  have cb3 := Lib.hid (HB.out 3 _ rfl)
  have ca36 := Lib.hid (HA.out 36 _ rfl)
  have cb36 := Lib.hid (HB.out 36 _ rfl)
  obtain ⟨d1, p1, rfl, m1, hc1⟩ := sk_form (hu.later HG.out)
  obtain ⟨d2, p2, rfl, m2, hc2⟩ := sk_form (hu'.later HG.out)
  obtain ⟨d3, p3, rfl, m3, hc3⟩ := wk_form (hv.later HG.out)
  obtain ⟨d4, p4, rfl, m4, hc4⟩ := wk_form (hv'.later HG.out)
  have HC1 := Lib.hid hc1
  have HC2 := Lib.hid hc2
  have HC3 := Lib.hid hc3
  have HC4 := Lib.hid hc4
  clear hu hu' hv hv' hc1 hc2 hc3 hc4 HA HB
  by_cases l1 : a.st.length = b.st.length
  case neg =>
    have t : ((a.st.length : Int) != (b.st.length : Int)) = true := by simpa using fun h => l1 (by omega)
    have HV := Lib.hid (HF.out (fun h => l1 (by rw [h.1])))
    clear l1 HC1 HC2 HC3 HC4 ca3 cb3 ca36 cb36 HF HQ
    unfold cc at *
    go_enter Tryz.func17, Tryz.ntmps17
    go_wp2_with fail
    go_ret
    exact ⟨retb HV.out.symm, HG.out⟩
  by_cases l2 : a.ws.length = b.ws.length
  case neg =>
    have t : ((a.st.length : Int) != (b.st.length : Int)) = false := by rw [l1]; simp
    have t' : ((a.ws.length : Int) != (b.ws.length : Int)) = true := by simpa using fun h => l2 (by omega)
    have HV := Lib.hid (HF.out (fun h => l2 (by rw [h.2])))
    clear l1 l2 HC1 HC2 HC3 HC4 ca3 cb3 ca36 cb36 HF HQ
    unfold cc at *
    go_enter Tryz.func17, Tryz.ntmps17
    go_wp2_with fail
    go_ret
    exact ⟨retb HV.out.symm, HG.out⟩
  have s1 : ((a.st.length : Int) != (b.st.length : Int)) = false := by rw [l1]; simp
  have s2 : ((a.ws.length : Int) != (b.ws.length : Int)) = false := by rw [l2]; simp
  have L1 := Lib.hid l1
  have L2 := Lib.hid l2
  clear l1 l2
  unfold cc at *
  go_enter Tryz.func17, Tryz.ntmps17
  go_wp2_with fail
  generalize (w.alloc (.cells _ 33)).alloc (.cells _ 33) = W0 at *
  clear e0 e1 e2 e3 e4 e5 e6 e7 e8 t0 t1 t2 t4 t5 t8 s1 s2
  have x1 : W0.cell? ⟨w.heap.size, 3, none⟩ = some (.slice d1 a.st.length p1) := ca3.out
  have x2 : W0.cell? ⟨w.heap.size + 1, 3, none⟩ = some (.slice d2 b.st.length p2) := cb3.out
  have X3 : Hid (W0.cell? ⟨w.heap.size, 36, none⟩ = some (.slice d3 a.ws.length p3)) := Lib.hid ca36.out
  have X4 : Hid (W0.cell? ⟨w.heap.size + 1, 36, none⟩ = some (.slice d4 b.ws.length p4)) := Lib.hid cb36.out
  clear ca3 cb3 ca36 cb36
  generalize a.st = xs at *
  generalize b.st = ys at *
  generalize a.ws = fs at *
  generalize b.ws = gs at *
  obtain ⟨n, hn⟩ : ∃ n, ys.length = n := ⟨_, rfl⟩
  have HN := Lib.hid hn
  have HX : Hid (xs.length = n) := Lib.hid (by rw [L1.out, hn])
  rw [hn] at x2 m2
  rw [HX.out] at x1 m1
  clear hn
  rw [HX.out, HN.out]
  go_loopw [5] (fun x wr => ERel xs ys W0 x wr) (fun x _ => (n - intOf x).toNat)
  case atStart => exact ⟨0, 0, by omega, rfl, by simp, rfl⟩
  case round =>
    obtain ⟨i, k, hi, rfl, ht, rfl⟩ := hrel
    rw [HX.out] at hi
    have HE := Lib.hid ht
    clear ht
    by_cases hlt : i < n
    · obtain ⟨x, hx⟩ : ∃ x, xs[i]? = some x := ⟨_, List.getElem?_eq_getElem (by rw [HX.out]; exact hlt)⟩
      obtain ⟨y, hy⟩ : ∃ y, ys[i]? = some y := ⟨_, List.getElem?_eq_getElem (by rw [HN.out]; exact hlt)⟩
      obtain ⟨B1, o1, rfl, c1⟩ := HC1.out i x hx
      obtain ⟨B2, o2, rfl, c2⟩ := HC2.out i y hy
      have EX := Lib.hid hx
      have EY := Lib.hid hy
      clear hx hy
      by_cases hac : x = y
      · subst hac
        have t : (x != x) = false := by simp
        have HS := Lib.hid (same_on xs ys i x EX.out EY.out HE.out)
        go_wp2_with fail
        go_quiet (fail)
        go_wp2_with fail
        go_roundw
        case rel => exact ⟨i + 1, _, by rw [HX.out]; omega, by go_num, HS.out, rfl⟩
        case measure => simp [intOf]; omega
      · have t : (x != y) = true := by simpa using hac
        have HV : Hid (R = false) := Lib.hid (HF.out (by
          rintro ⟨rfl, _⟩
          have := EX.out.symm.trans EY.out
          simp at this
          exact hac this))
        clear hac
        go_wp2_with fail
        go_quiet (fail)
        go_wp2_with fail
        go_ret
        exact ⟨retb HV.out.symm, HG.out⟩
    · have hn : ¬ i < n := hlt
      have HS := Lib.hid (same_all xs ys i (by rw [HX.out]; omega) L1.out HE.out)
      go_wp2_with fail
      have HG1 := Lib.hid (gtrans HG.out (later_drewN W0 k))
      have x3 := gsome (later_drewN W0 k) X3.out
      have x4 := gsome (later_drewN W0 k) X4.out
      have HC5 : Hid (∀ i x, fs[i]? = some x → ∃ B off, d3 = some ⟨B, off, none⟩ ∧ (W0.drewN k).rangeAt B (off + i * 7) (wc x)) := Lib.hid (fun i x hx => by
        obtain ⟨B, o, e, c⟩ := HC3.out i x hx
        exact ⟨B, o, e, fun j y hy => gsome (later_drewN W0 k) (c j y hy)⟩)
      have HC6 : Hid (∀ i x, gs[i]? = some x → ∃ B off, d4 = some ⟨B, off, none⟩ ∧ (W0.drewN k).rangeAt B (off + i * 7) (wc x)) := Lib.hid (fun i x hx => by
        obtain ⟨B, o, e, c⟩ := HC4.out i x hx
        exact ⟨B, o, e, fun j y hy => gsome (later_drewN W0 k) (c j y hy)⟩)
      clear x1 x2 X3 X4 HC1 HC2 HC3 HC4
      generalize W0.drewN k = W1 at *
      obtain ⟨m, hm⟩ : ∃ m, gs.length = m := ⟨_, rfl⟩
      have HN2 := Lib.hid hm
      have HX2 : Hid (fs.length = m) := Lib.hid (by rw [L2.out, hm])
      rw [hm] at x4 m4
      rw [HX2.out] at x3 m3
      clear hm
      go_loopw [6] (fun x wr => ERel fs gs W1 x wr) (fun x _ => (m - intOf x).toNat)
      case atStart => exact ⟨0, 0, by omega, rfl, by simp, rfl⟩
      case round =>
        obtain ⟨i, k, hi, rfl, ht, rfl⟩ := hrel
        rw [HX2.out] at hi
        have HE2 := Lib.hid ht
        clear ht
        by_cases hlt : i < m
        · obtain ⟨x, hx⟩ : ∃ x, fs[i]? = some x := ⟨_, List.getElem?_eq_getElem (by rw [HX2.out]; exact hlt)⟩
          obtain ⟨y, hy⟩ : ∃ y, gs[i]? = some y := ⟨_, List.getElem?_eq_getElem (by rw [HN2.out]; exact hlt)⟩
          obtain ⟨B1, o1, rfl, r1⟩ := HC5.out i x hx
          obtain ⟨B2, o2, rfl, r2⟩ := HC6.out i y hy
          have EX := Lib.hid hx
          have EY := Lib.hid hy
          clear hx hy
          have pc0 := r1 0 _ rfl
          have pc1 := r1 1 _ rfl
          have pc2 := r1 2 _ rfl
          have pc3 := r1 3 _ rfl
          have pc4 := r1 4 _ rfl
          have pc5 := r1 5 _ rfl
          have pc6 := r1 6 _ rfl
          have qc0 := r2 0 _ rfl
          have qc1 := r2 1 _ rfl
          have qc2 := r2 2 _ rfl
          have qc3 := r2 3 _ rfl
          have qc4 := r2 4 _ rfl
          have qc5 := r2 5 _ rfl
          have qc6 := r2 6 _ rfl
          clear r1 r2
          simp only [Nat.add_zero] at pc0 qc0
          by_cases hac : x = y
          · subst hac
            have t : ws x x = true := (ws_iff _ _).2 rfl
            have HT := Lib.hid (same_on fs gs i x EX.out EY.out HE2.out)
            go_wp2_with fail
            go_quiet (fail)
            go_wp2_with fail
            go_roundw
            case rel => exact ⟨i + 1, _, by rw [HX2.out]; omega, by go_num, HT.out, rfl⟩
            case measure => simp [intOf]; omega
          · have t : ws x y = false := by
              cases e : ws x y with
              | false => rfl
              | true => exact absurd ((ws_iff _ _).1 e) hac
            have HV : Hid (R = false) := Lib.hid (HF.out (by
              rintro ⟨_, rfl⟩
              have := EX.out.symm.trans EY.out
              simp at this
              exact hac this))
            clear hac
            go_wp2_with fail
            go_quiet (fail)
            go_wp2_with fail
            go_ret
            exact ⟨retb HV.out.symm, HG1.out⟩
        · have hn' : ¬ i < m := hlt
          have HV : Hid (R = true) := Lib.hid (HQ.out.2 ⟨HS.out, same_all fs gs i (by rw [HX2.out]; omega) L2.out HE2.out⟩)
          go_wp2_with fail
          go_ret
          exact ⟨retb HV.out.symm, gtrans HG1.out (later_drewN W1 _)⟩

set_option maxHeartbeats 4000000 in
theorem rsame_any (a b : Cg) (u v u' v' : Value) (w : World) (hu : Sk .i64 w u a.st) (hu' : Sk .i64 w u' b.st) (hv : Wk w v a.ws) (hv' : Wk w v' b.ws) : Calls Tryz.prog 17 #[.agg (cc a u v), .agg (cc b u' v')] w fun e w' => e = .returned (.bool (sb a b && tt a b)) ∧ Later w w' := by
  obtain ⟨R, hR⟩ : ∃ R, (sb a b && tt a b) = R := ⟨_, rfl⟩
  rw [hR]
  unfold sb tt at hR
  have HG := Lib.hid (((Later.refl w).alloc (cc a u v) 33).alloc (cc b u' v') 33)
  have HA := Lib.hid ((At.new w (cc a u v) 33).put (.cells (cc b u' v') 33))
  have HB := Lib.hid (At.new (w.alloc (.cells (cc a u v) 33)) (cc b u' v') 33)
  simp only [World.size_alloc] at HB
  have HU := Lib.hid hu
  have HU' := Lib.hid hu'
  have HW := Lib.hid hv
  have HW' := Lib.hid hv'
  clear hu hu' hv hv'
  have HR := Lib.hid hR
  clear hR
  cases e0 : (a.f == b.f) with
  | false =>
    have HV : Hid (R = false) := Lib.hid (by rw [← HR.out]; simp only [e0, Bool.false_and])
    have t0 : (a.f != b.f) = true := by simp only [bne, e0]; rfl
    clear HU HU' HW HW' HR HA HB
    unfold cc at *
    go_enter Tryz.func17, Tryz.ntmps17
    go_wp2_with fail
    go_ret
    exact ⟨retb HV.out.symm, HG.out⟩
  | true =>
  have t0 : (a.f != b.f) = false := by simp only [bne, e0]; rfl
  cases e1 : (a.n == b.n) with
  | false =>
    have HV : Hid (R = false) := Lib.hid (by rw [← HR.out]; simp only [e1, Bool.false_and, Bool.and_false])
    have t1 : (a.n != b.n) = true := by simp only [bne, e1]; rfl
    clear HU HU' HW HW' HR HA HB
    unfold cc at *
    go_enter Tryz.func17, Tryz.ntmps17
    go_wp2_with fail
    go_ret
    exact ⟨retb HV.out.symm, HG.out⟩
  | true =>
  have t1 : (a.n != b.n) = false := by simp only [bne, e1]; rfl
  cases e2 : (a.p == b.p) with
  | false =>
    have HV : Hid (R = false) := Lib.hid (by rw [← HR.out]; simp only [e2, Bool.false_and, Bool.and_false])
    have t2 : (a.p != b.p) = true := by simp only [bne, e2]; rfl
    clear HU HU' HW HW' HR HA HB
    unfold cc at *
    go_enter Tryz.func17, Tryz.ntmps17
    go_wp2_with fail
    go_ret
    exact ⟨retb HV.out.symm, HG.out⟩
  | true =>
  have t2 : (a.p != b.p) = false := by simp only [bne, e2]; rfl
  cases e3 : tq a b with
  | false =>
    have HV : Hid (R = false) := Lib.hid (by rw [← HR.out]; simp only [e3, Bool.false_and, Bool.and_false])
    clear HU HU' HW HW' HR HA HB
    unfold cc at *
    go_enter Tryz.func17, Tryz.ntmps17
    go_wp2_with fail
    go_ret
    exact ⟨retb HV.out.symm, HG.out⟩
  | true =>
  cases e4 : (a.r == b.r) with
  | false =>
    have HV : Hid (R = false) := Lib.hid (by rw [← HR.out]; simp only [e4, Bool.false_and, Bool.and_false])
    have t4 : (a.r != b.r) = true := by simp only [bne, e4]; rfl
    clear HU HU' HW HW' HR HA HB
    unfold cc at *
    go_enter Tryz.func17, Tryz.ntmps17
    go_wp2_with fail
    go_ret
    exact ⟨retb HV.out.symm, HG.out⟩
  | true =>
  have t4 : (a.r != b.r) = false := by simp only [bne, e4]; rfl
  cases e5 : (a.q == b.q) with
  | false =>
    have HV : Hid (R = false) := Lib.hid (by rw [← HR.out]; simp only [e5, Bool.false_and, Bool.and_false])
    have t5 : (a.q != b.q) = true := by simp only [bne, e5]; rfl
    clear HU HU' HW HW' HR HA HB
    unfold cc at *
    go_enter Tryz.func17, Tryz.ntmps17
    go_wp2_with fail
    go_ret
    exact ⟨retb HV.out.symm, HG.out⟩
  | true =>
  have t5 : (a.q != b.q) = false := by simp only [bne, e5]; rfl
  cases e6 : zq a.z b.z with
  | false =>
    have HV : Hid (R = false) := Lib.hid (by rw [← HR.out]; simp only [e6, Bool.false_and, Bool.and_false])
    clear HU HU' HW HW' HR HA HB
    unfold cc at *
    go_enter Tryz.func17, Tryz.ntmps17
    go_wp2_with fail
    go_ret
    exact ⟨retb HV.out.symm, HG.out⟩
  | true =>
  cases e7 : sq a.s b.s with
  | false =>
    have HV : Hid (R = false) := Lib.hid (by rw [← HR.out]; simp only [e7, Bool.false_and, Bool.and_false])
    clear HU HU' HW HW' HR HA HB
    unfold cc at *
    go_enter Tryz.func17, Tryz.ntmps17
    go_wp2_with fail
    go_ret
    exact ⟨retb HV.out.symm, HG.out⟩
  | true =>
  cases e8 : (a.ab == b.ab) with
  | false =>
    have HV : Hid (R = false) := Lib.hid (by rw [← HR.out]; simp only [e8, Bool.false_and, Bool.and_false])
    have t8 : (a.ab != b.ab) = true := by simp only [bne, e8]; rfl
    clear HU HU' HW HW' HR HA HB
    unfold cc at *
    go_enter Tryz.func17, Tryz.ntmps17
    go_wp2_with fail
    go_ret
    exact ⟨retb HV.out.symm, HG.out⟩
  | true =>
  have t8 : (a.ab != b.ab) = false := by simp only [bne, e8]; rfl
  have HQ : Hid (R = true ↔ a.st = b.st ∧ a.ws = b.ws) := Lib.hid (by rw [← HR.out]; simp only [e0, e1, e2, e3, e4, e5, e6, e7, e8, Bool.true_and, Bool.and_true, Bool.and_eq_true, decide_eq_true_eq])
  exact rsame_rest a b u v u' v' w HU.out HU'.out HW.out HW'.out R HQ e0 e1 e2 e3 e4 e5 e6 e7 e8

end Go.Proofs.YtpkjbcgmhkkfiaaGreatDoor.Conf

/- A configuration that is small, and rows of stops and of windows that are appended. Conditions: as each theorem states. -/
namespace Go.Proofs.YtpkjbcgmhkkfiaaGreatDoor.Conf
set_option maxRecDepth 100000
open Go.ChangeShapes Go.WideShapes Go.ChangeAt Go.RowKit
open Go.Proofs.YtpkjbcgmhkkfiaaGreatDoor.Divs Go.Proofs.YtpkjbcgmhkkfiaaGreatDoor.Grow Go.Proofs.YtpkjbcgmhkkfiaaGreatDoor.Zone
open Go.Proofs.YtpkjbcgmhkkfiaaGreatDoor.By (Sk SL bool_no bool_yes)
open Go.Proofs.YtpkjbcgmhkkfiaaGreatDoor.Each
open Go.Proofs.YtpkjbcgmhkkfiaaGreatDoor.Zo Go.Proofs.YtpkjbcgmhkkfiaaGreatDoor.Su Go.Proofs.YtpkjbcgmhkkfiaaGreatDoor.Cf

/-- Has one few stops and windows? -/
def fw (c : Cg) : Bool := decide (c.st.length ≤ 80 ∧ c.ws.length ≤ 20)

theorem fw_iff (c : Cg) : fw c = true ↔ c.st.length ≤ 80 ∧ c.ws.length ≤ 20 := by simp [fw]

set_option maxHeartbeats 1000000 in
theorem few_any (c : Cg) (u v : Value) (w : World) (hu : Sk .i64 w u c.st) (hv : Wk w v c.ws) : Calls Tryz.prog 7 #[.agg (cc c u v)] w fun e w' => e = .returned (.bool (fw c)) ∧ Later w w' := by
  have HR := Lib.hid (fw_iff c)
  generalize fw c = R at *
  have HG := Lib.hid ((Later.refl w).alloc (cc c u v) 33)
  obtain ⟨d1, p1, rfl, m1, _⟩ := sk_form hu
  obtain ⟨d2, p2, rfl, m2, _⟩ := wk_form hv
  clear hu hv
  unfold cc at *
  generalize c.st.length = m at *
  generalize c.ws.length = n at *
  by_cases h1 : m ≤ 80
  · have t1 : decide ((m : Int) ≤ 80) = true := by simp; omega
    by_cases h2 : n ≤ 20
    · have t2 : decide ((n : Int) ≤ 20) = true := by simp; omega
      have HV : Hid (R = true) := Lib.hid (HR.out.2 ⟨h1, h2⟩)
      clear h1 h2 HR
      go_enter Tryz.func7, Tryz.ntmps7
      go_wp2_with fail
      go_ret
      exact ⟨retb HV.out.symm, HG.out⟩
    · have t2 : decide ((n : Int) ≤ 20) = false := by simp; omega
      have HV : Hid (R = false) := Lib.hid (by
        cases e : R with
        | false => rfl
        | true => exact absurd (HR.out.1 e).2 h2)
      clear h1 h2 HR
      go_enter Tryz.func7, Tryz.ntmps7
      go_wp2_with fail
      go_ret
      exact ⟨retb HV.out.symm, HG.out⟩
  · have t1 : decide ((m : Int) ≤ 80) = false := by simp; omega
    have HV : Hid (R = false) := Lib.hid (by
      cases e : R with
      | false => rfl
      | true => exact absurd (HR.out.1 e).1 h1)
    clear h1 HR
    go_enter Tryz.func7, Tryz.ntmps7
    go_wp2_with fail
    go_ret
    exact ⟨retb HV.out.symm, HG.out⟩

/-- A slice that owns these windows. -/
def WL (W : World) (b : Nat) (v : Value) (xs : List Wn) : Prop := W.ownsRow b 58 7 v xs.length (fl xs)

theorem WL.later {W W' : World} {b : Nat} {v : Value} {xs : List Wn} (h : WL W b v xs) (g : Later W W') : WL W' b v xs :=
  World.ownsRow.kept h g.grownBy (by cases v.ownBlock <;> simp)

theorem win_grown {w a b : World} {v : Value} {xs : List Wn} (g : Later w a) (f : WL a w.heap.size v xs) (h : a.grownBy b v.ownBlock) : Later w b :=
  Later.of_below (g.below.grown h g.size (fun j e => (World.ownsRow.lt f j e).1))

theorem WL.wk {W : World} {b : Nat} {v : Value} {xs : List Wn} (h : WL W b v xs) : Wk W v xs := by
  rcases h.2 with ⟨hv, h0⟩ | ⟨g, cap, cur, rfl, _, _, h1, h2, _⟩
  · obtain rfl : xs = [] := List.length_eq_zero_iff.1 h0
    exact ⟨none, 0, hv, by simp, by omega, by simp, by simp [fl]⟩
  · refine ⟨_, cap, rfl, h1, by simpa [maxLen] using h2, by simp, fun i x hx => ⟨g, 0, rfl, ?_⟩⟩
    have c := World.ownsRow.cells h (g := g) rfl i x hx
    rw [By.add_zero] at c
    rw [Nat.zero_add]
    exact c

theorem WL.made (W0 w : World) (h : Later W0 w) : WL (w.alloc (.cells #[] 58)) W0.heap.size (.slice (some ⟨w.heap.size, 0, none⟩) 0 0) [] := by
  refine ⟨rfl, .inr ⟨w.heap.size, 0, #[], rfl, h.size, heap_alloc_new _ _, by simp, by simp, by simp, by simp [fl]⟩⟩

theorem ints_made (W0 w : World) (h : Later W0 w) : SL .i64 3 (w.alloc (.cells #[] 3)) W0.heap.size (.slice (some ⟨w.heap.size, 0, none⟩) 0 0) [] := by
  refine ⟨rfl, .inr ⟨w.heap.size, 0, #[], rfl, h.size, heap_alloc_new _ _, by simp, by simp, by simp, by simp⟩⟩

theorem append_ints {w : World} {ops : Array Oper} {rest : List Oper} {o : Oper} {a : Act} {Q : Exit → Act → World → Prop} (hgd : o.guard = none) (s x : Operand)
    (ho : o.op = .call { callee := .builtin .append, args := #[s, x], argTypes := #[22, 22] })
    (W0 : World) (hl : Later W0 w) (v : Value) (xs : List Int) (hs : a.eval s = v) (hown : SL .i64 3 w W0.heap.size v xs)
    (u : Value) (ys : List Int) (hx : a.eval x = u) (hy : Sk .i64 w u ys) (hb : xs.length + ys.length ≤ 100000)
    (h : ∀ v' w', SL .i64 3 w' W0.heap.size v' (xs ++ ys) → Later W0 w' → wpList Tryz.prog ops Q rest (a.put o.dst v') w') : wpList Tryz.prog ops Q (o :: rest) a w := by
  obtain ⟨i0, hi, hz0, hz1, hz2⟩ := info_parts By.info_int
  rcases hy.src with ⟨rfl, rfl⟩ | ⟨ad, cap, rfl, hc⟩
  · refine wpList_append_own_none hgd s x 22 ho W0.heap.size 3 i0 1 Tryz.underlying22 hi v _ _ hs hown hx ?_
    exact h v w (by rw [List.append_nil]; exact hown) hl
  · refine wpList_append_own w hgd s x 22 ho W0.heap.size 3 i0 (.int .i64 0) 1 8 Tryz.underlying22 hi hz0 hz1 hz2 rfl (by decide) v _ _ hs hown ad ys.length cap (ys.map (Value.int .i64)) hx (by simp) hc (by intro u hu; obtain ⟨y, _, rfl⟩ := List.mem_map.1 hu; rfl) (by simp only [maxLen]; omega) (by omega) hl.size ?_
    intro v' w' h1 h2 _
    refine h v' w' ?_ (By.later_grown hl hown h2)
    unfold By.SL
    rw [List.length_append, List.map_append]
    exact h1

theorem info_win : (Tryz.prog.info? 58).map (fun i => (i.zero, i.size, i.bytes)) = some (some (.agg #[.int .i64 0, .int .i64 0, .int .i64 0, .int .i64 0, .int .i64 0, .int .i64 0, .int .i64 0]), 7, 56) := by kernel_rfl

theorem Wk.src {W : World} {v : Value} {xs : List Wn} (h : Wk W v xs) :
    (v = .slice none 0 0 ∧ xs = []) ∨ ∃ a cap, v = .slice (some a) xs.length cap ∧ ∀ j u, (fl xs)[j]? = some u → W.cell? (a.add j) = some u := by
  obtain ⟨ad, cap, rfl, h1, h2, h3, h4⟩ := h
  cases ad with
  | none =>
    obtain rfl := h3 rfl
    obtain rfl := List.length_eq_zero_iff.1 (Nat.le_zero.1 h1)
    exact .inl ⟨rfl, rfl⟩
  | some a =>
    refine .inr ⟨a, cap, rfl, fun j u hu => ?_⟩
    obtain ⟨b, off, e, c⟩ := h4 j u hu
    obtain rfl := Option.some.inj e
    rw [Addr.add_mid]
    exact c

theorem fl_cell (xs : List Wn) : ∀ u ∈ fl xs, u.oneCell' = true := by
  intro u hu
  obtain ⟨x, _, hx⟩ := List.mem_flatMap.1 hu
  simp only [wc, List.mem_cons, List.not_mem_nil, or_false] at hx
  rcases hx with rfl | rfl | rfl | rfl | rfl | rfl | rfl <;> rfl

theorem append_wins {w : World} {ops : Array Oper} {rest : List Oper} {o : Oper} {a : Act} {Q : Exit → Act → World → Prop} (hgd : o.guard = none) (s x : Operand)
    (ho : o.op = .call { callee := .builtin .append, args := #[s, x], argTypes := #[31, 31] })
    (W0 : World) (hl : Later W0 w) (v : Value) (xs : List Wn) (hs : a.eval s = v) (hown : WL w W0.heap.size v xs)
    (u : Value) (ys : List Wn) (hx : a.eval x = u) (hy : Wk w u ys) (hb : xs.length + ys.length ≤ 100000)
    (h : ∀ v' w', WL w' W0.heap.size v' (xs ++ ys) → Later W0 w' → wpList Tryz.prog ops Q rest (a.put o.dst v') w') : wpList Tryz.prog ops Q (o :: rest) a w := by
  obtain ⟨i0, hi, hz0, hz1, hz2⟩ := info_parts info_win
  rcases hy.src with ⟨rfl, rfl⟩ | ⟨ad, cap, rfl, hc⟩
  · refine wpList_append_own_none hgd s x 31 ho W0.heap.size 58 i0 7 Tryz.underlying31 hi v _ _ hs hown hx ?_
    exact h v w (by rw [List.append_nil]; exact hown) hl
  · refine wpList_append_own w hgd s x 31 ho W0.heap.size 58 i0 _ 7 56 Tryz.underlying31 hi hz0 hz1 hz2 rfl (by decide) v _ _ hs hown ad ys.length cap (fl ys) hx (fl_len ys) hc (fl_cell ys) (by simp only [maxLen]; omega) (by omega) hl.size ?_
    intro v' w' h1 h2 _
    refine h v' w' ?_ (win_grown hl hown h2)
    unfold WL
    rw [List.length_append, fl_app]
    exact h1

end Go.Proofs.YtpkjbcgmhkkfiaaGreatDoor.Conf

/- Cells that are set, rows that are kept by that, and a configuration's result out of its cells. Conditions: as each theorem states. -/
namespace Go.Proofs.YtpkjbcgmhkkfiaaGreatDoor.Conf
set_option maxRecDepth 100000
open Go.ChangeShapes Go.WideShapes Go.ChangeAt Go.RowKit
open Go.Proofs.YtpkjbcgmhkkfiaaGreatDoor.Divs Go.Proofs.YtpkjbcgmhkkfiaaGreatDoor.Grow Go.Proofs.YtpkjbcgmhkkfiaaGreatDoor.Zone
open Go.Proofs.YtpkjbcgmhkkfiaaGreatDoor.By (Sk SL bool_no bool_yes)
open Go.Proofs.YtpkjbcgmhkkfiaaGreatDoor.Each
open Go.Proofs.YtpkjbcgmhkkfiaaGreatDoor.Zo Go.Proofs.YtpkjbcgmhkkfiaaGreatDoor.Su Go.Proofs.YtpkjbcgmhkkfiaaGreatDoor.Cf

theorem heap_set_other (W : World) (A i g : Nat) (y : Value) (h : g ≠ A) : (W.setCell ⟨A, i, none⟩ y).heap[g]? = W.heap[g]? := by
  simp [World.setCell, Array.getElem?_modify, Ne.symm h]

theorem owns_set {W : World} {b : Nat} {e : TypeId} {n m : Nat} {v : Value} {xs : List Value} (h : W.ownsRow b e n v m xs) {A : Nat} (hA : A < b) (i : Nat) (y : Value) : (W.setCell ⟨A, i, none⟩ y).ownsRow b e n v m xs := by
  refine ⟨h.1, ?_⟩
  rcases h.2 with h | ⟨g, cap, cur, hv, h1, h2, h3⟩
  · exact .inl h
  · exact .inr ⟨g, cap, cur, hv, h1, by rw [heap_set_other _ _ _ _ _ (by omega)]; exact h2, h3⟩

theorem owns_sets {b : Nat} {e : TypeId} {n m : Nat} {v : Value} {xs : List Value} {A : Nat} (hA : A < b) (vs : List Value) : ∀ (W : World) (o : Nat), W.ownsRow b e n v m xs → (W.setCells A o vs).ownsRow b e n v m xs := by
  induction vs with
  | nil => intro W o h; exact h
  | cons y r ih => intro W o h; exact ih _ _ (owns_set h hA _ _)

theorem later_sets {w : World} {A : Nat} (hA : w.heap.size ≤ A) (vs : List Value) : ∀ (W : World) (o : Nat), Later w W → Later w (W.setCells A o vs) := by
  induction vs with
  | nil => intro W o h; exact h
  | cons y r ih => intro W o h; exact ih _ _ (h.setCell hA _)

theorem Row.there {B : Nat} {t : TypeId} {cs : Array Value} {W : World} (h : Row B t cs W) : W.there B 0 cs.size := by
  intro j hj
  rw [Nat.zero_add]
  refine ⟨?_, h.frozen j⟩
  rw [h.cell j (Array.getElem?_eq_getElem hj)]
  rfl

theorem results_at {fn : Func} {p : Tmp} (h : fn.results = #[.cell p 33]) (tmps : Array Value) (W : World) (g : Nat) (C : Array Value) (hC : C.size = 37) (hp : tmps.getD p undef = .pointer (some ⟨g, 0, none⟩)) (hA : At W g C) : (results fn tmps).run Tryz.prog W = .ok (.agg C) W := by
  have hp' : tmps[p]?.getD undef = .pointer (some ⟨g, 0, none⟩) := by simpa using hp
  have hi : (Tryz.prog.info? 33).map (·.size) = some C.toList.length := by
    rw [Array.length_toList, hC]
    kernel_rfl
  have := run_loadVar_mid (P := Tryz.prog) W g 0 33 C.toList _ (fun j v hv => by rw [Nat.zero_add]; exact hA j v (by simpa using hv)) Tryz.underlying33 rfl hi
  simp [results, h, hp', asAddr, this]

end Go.Proofs.YtpkjbcgmhkkfiaaGreatDoor.Conf

/- A configuration in memory of its own. Conditions: as each theorem states. -/
namespace Go.Proofs.YtpkjbcgmhkkfiaaGreatDoor.Conf
set_option maxRecDepth 100000
open Go.ChangeShapes Go.WideShapes Go.ChangeAt Go.RowKit
open Go.Proofs.YtpkjbcgmhkkfiaaGreatDoor.Divs Go.Proofs.YtpkjbcgmhkkfiaaGreatDoor.Grow Go.Proofs.YtpkjbcgmhkkfiaaGreatDoor.Zone
open Go.Proofs.YtpkjbcgmhkkfiaaGreatDoor.By (Sk SL bool_no bool_yes)
open Go.Proofs.YtpkjbcgmhkkfiaaGreatDoor.Each
open Go.Proofs.YtpkjbcgmhkkfiaaGreatDoor.Zo Go.Proofs.YtpkjbcgmhkkfiaaGreatDoor.Su Go.Proofs.YtpkjbcgmhkkfiaaGreatDoor.Cf

theorem ints_made' (w : World) (g B : Nat) (hg : g = w.heap.size) (hB : B ≤ w.heap.size) : SL .i64 3 (w.alloc (.cells #[] 3)) B (.slice (some ⟨g, 0, none⟩) 0 0) [] := by
  subst hg
  exact ⟨rfl, .inr ⟨w.heap.size, 0, #[], rfl, hB, heap_alloc_new _ _, by simp, by simp, by simp, by simp⟩⟩

theorem wins_made' (w : World) (g B : Nat) (hg : g = w.heap.size) (hB : B ≤ w.heap.size) : WL (w.alloc (.cells #[] 58)) B (.slice (some ⟨g, 0, none⟩) 0 0) [] := by
  subst hg
  exact ⟨rfl, .inr ⟨w.heap.size, 0, #[], rfl, hB, heap_alloc_new _ _, by simp, by simp, by simp, by simp [fl]⟩⟩

theorem append_ints' {w : World} {ops : Array Oper} {rest : List Oper} {o : Oper} {a : Act} {Q : Exit → Act → World → Prop} (hgd : o.guard = none) (s x : Operand)
    (ho : o.op = .call { callee := .builtin .append, args := #[s, x], argTypes := #[22, 22] })
    (W0 : World) (hl : Later W0 w) (B : Nat) (hB : B = W0.heap.size) (v : Value) (xs : List Int) (hs : a.eval s = v) (hown : SL .i64 3 w B v xs)
    (u : Value) (ys : List Int) (hx : a.eval x = u) (hy : Sk .i64 w u ys) (hb : xs.length + ys.length ≤ 100000)
    (h : ∀ v' w', SL .i64 3 w' B v' (xs ++ ys) → Later W0 w' → wpList Tryz.prog ops Q rest (a.put o.dst v') w') : wpList Tryz.prog ops Q (o :: rest) a w := by
  subst hB
  exact append_ints hgd s x ho W0 hl v xs hs hown u ys hx hy hb h

theorem append_wins' {w : World} {ops : Array Oper} {rest : List Oper} {o : Oper} {a : Act} {Q : Exit → Act → World → Prop} (hgd : o.guard = none) (s x : Operand)
    (ho : o.op = .call { callee := .builtin .append, args := #[s, x], argTypes := #[31, 31] })
    (W0 : World) (hl : Later W0 w) (B : Nat) (hB : B = W0.heap.size) (v : Value) (xs : List Wn) (hs : a.eval s = v) (hown : WL w B v xs)
    (u : Value) (ys : List Wn) (hx : a.eval x = u) (hy : Wk w u ys) (hb : xs.length + ys.length ≤ 100000)
    (h : ∀ v' w', WL w' B v' (xs ++ ys) → Later W0 w' → wpList Tryz.prog ops Q rest (a.put o.dst v') w') : wpList Tryz.prog ops Q (o :: rest) a w := by
  subst hB
  exact append_wins hgd s x ho W0 hl v xs hs hown u ys hx hy hb h

end Go.Proofs.YtpkjbcgmhkkfiaaGreatDoor.Conf

/- Configurations and windows as arguments: their cells. No condition but those that each theorem states. -/
namespace Go.Proofs.YtpkjbcgmhkkfiaaGreatDoor.Conf
set_option maxRecDepth 100000
open Go.ChangeShapes Go.WideShapes Go.ChangeAt Go.RowKit
open Go.Proofs.YtpkjbcgmhkkfiaaGreatDoor.Divs Go.Proofs.YtpkjbcgmhkkfiaaGreatDoor.Grow Go.Proofs.YtpkjbcgmhkkfiaaGreatDoor.Zone
open Go.Proofs.YtpkjbcgmhkkfiaaGreatDoor.By (Sk SL sk_nil)
open Go.Proofs.YtpkjbcgmhkkfiaaGreatDoor.Zo Go.Proofs.YtpkjbcgmhkkfiaaGreatDoor.Su Go.Proofs.YtpkjbcgmhkkfiaaGreatDoor.Cf

theorem own : ownKnob Tryz.prog.godebug = none := by kernel_rfl
theorem laidOut : laidOutB Tryz.prog = true := by kernel_rfl
theorem cellsI : Tryz.prog.cellsOf 3 = 1 := by kernel_rfl
theorem cellsB : Tryz.prog.cellsOf 4 = 1 := by kernel_rfl
theorem cellsC : Tryz.prog.cellsOf 33 = 37 := by kernel_rfl
theorem cellsW : Tryz.prog.cellsOf 58 = 7 := by kernel_rfl
theorem cellsT : Tryz.prog.cellsOf 24 = 7 := by kernel_rfl
theorem cellsZ : Tryz.prog.cellsOf 28 = 10 := by kernel_rfl
theorem cellsU : Tryz.prog.cellsOf 26 = 4 := by kernel_rfl
theorem cellsS : Tryz.prog.cellsOf 30 = 12 := by kernel_rfl
theorem cellsL : Tryz.prog.cellsOf 22 = 1 := by kernel_rfl
theorem cellsV : Tryz.prog.cellsOf 31 = 1 := by kernel_rfl

section
variable {H : Type} {enc : TypeId × Value → H} {w : World} {base : Nat} {spare : Nat → Bool} {held : Bool}

theorem part {t : TypeId} {fs : Array Field} {fuel : Nat} {cs : List Value} {x : DataW H × List MemPlace} (ht : Tryz.prog.underlying t = some (.struct fs)) (h : DataW.trod enc Tryz.prog w base spare held fuel t cs = some x) (i : Nat) (f : Field) (hf : fs[i]? = some f) :
    ∃ n y, DataW.trod enc Tryz.prog w base spare held n f.type ((cs.drop f.offset).take (Tryz.prog.cellsOf f.type)) = some y := by
  obtain ⟨xs, n, _, _, _, hl, hall⟩ := DataW.trod_struct ht h
  have hi : i < fs.size := (Array.getElem?_eq_some_iff.1 hf).1
  exact ⟨n, xs[i]'(by omega), by rw [hall i f hf]; exact List.getElem?_eq_getElem (by omega)⟩

theorem cell_int {n : Nat} {c : Value} {y : DataW H × List MemPlace} (h : DataW.trod enc Tryz.prog w base spare held n 3 [c] = some y) : ∃ a, c = .int .i64 a := by
  obtain ⟨a, e, _, _⟩ := DataW.trod_int Tryz.underlying3 h
  simp only [List.cons.injEq, and_true] at e
  exact ⟨a, e⟩

theorem cell_bool {n : Nat} {c : Value} {y : DataW H × List MemPlace} (h : DataW.trod enc Tryz.prog w base spare held n 4 [c] = some y) : ∃ a, c = .bool a := by
  obtain ⟨a, e, _⟩ := DataW.trod_bool Tryz.underlying4 h
  simp only [List.cons.injEq, and_true] at e
  exact ⟨a, e⟩

theorem open_turn {n : Nat} {c0 c1 c2 c3 : Value} {x : DataW H × List MemPlace} (h : DataW.trod enc Tryz.prog w base spare held n 26 [c0, c1, c2, c3] = some x) :
    ∃ a0 a1 a2 a3 : Int, c0 = .int .i64 a0 ∧ c1 = .int .i64 a1 ∧ c2 = .int .i64 a2 ∧ c3 = .int .i64 a3 := by
  obtain ⟨n0, y0, h0⟩ := part Tryz.underlying26 h 0 _ rfl
  obtain ⟨n1, y1, h1⟩ := part Tryz.underlying26 h 1 _ rfl
  obtain ⟨n2, y2, h2⟩ := part Tryz.underlying26 h 2 _ rfl
  obtain ⟨n3, y3, h3⟩ := part Tryz.underlying26 h 3 _ rfl
  simp [cellsI] at h0 h1 h2 h3
  obtain ⟨a0, e0⟩ := cell_int h0
  obtain ⟨a1, e1⟩ := cell_int h1
  obtain ⟨a2, e2⟩ := cell_int h2
  obtain ⟨a3, e3⟩ := cell_int h3
  exact ⟨a0, a1, a2, a3, e0, e1, e2, e3⟩

theorem open_times {n : Nat} {c0 c1 c2 c3 c4 c5 c6 : Value} {x : DataW H × List MemPlace} (h : DataW.trod enc Tryz.prog w base spare held n 24 [c0, c1, c2, c3, c4, c5, c6] = some x) :
    ∃ a0 a1 a2 a3 a4 a5 a6 : Int, c0 = .int .i64 a0 ∧ c1 = .int .i64 a1 ∧ c2 = .int .i64 a2 ∧ c3 = .int .i64 a3 ∧ c4 = .int .i64 a4 ∧ c5 = .int .i64 a5 ∧ c6 = .int .i64 a6 := by
  obtain ⟨n0, y0, h0⟩ := part Tryz.underlying24 h 0 _ rfl
  obtain ⟨n1, y1, h1⟩ := part Tryz.underlying24 h 1 _ rfl
  obtain ⟨n2, y2, h2⟩ := part Tryz.underlying24 h 2 _ rfl
  obtain ⟨n3, y3, h3⟩ := part Tryz.underlying24 h 3 _ rfl
  obtain ⟨n4, y4, h4⟩ := part Tryz.underlying24 h 4 _ rfl
  obtain ⟨n5, y5, h5⟩ := part Tryz.underlying24 h 5 _ rfl
  obtain ⟨n6, y6, h6⟩ := part Tryz.underlying24 h 6 _ rfl
  simp [cellsI] at h0 h1 h2 h3 h4 h5 h6
  obtain ⟨a0, e0⟩ := cell_int h0
  obtain ⟨a1, e1⟩ := cell_int h1
  obtain ⟨a2, e2⟩ := cell_int h2
  obtain ⟨a3, e3⟩ := cell_int h3
  obtain ⟨a4, e4⟩ := cell_int h4
  obtain ⟨a5, e5⟩ := cell_int h5
  obtain ⟨a6, e6⟩ := cell_int h6
  exact ⟨a0, a1, a2, a3, a4, a5, a6, e0, e1, e2, e3, e4, e5, e6⟩

theorem open_wn {n : Nat} {c0 c1 c2 c3 c4 c5 c6 : Value} {x : DataW H × List MemPlace} (h : DataW.trod enc Tryz.prog w base spare held n 58 [c0, c1, c2, c3, c4, c5, c6] = some x) :
    ∃ a0 a1 a2 a3 a4 a5 a6 : Int, c0 = .int .i64 a0 ∧ c1 = .int .i64 a1 ∧ c2 = .int .i64 a2 ∧ c3 = .int .i64 a3 ∧ c4 = .int .i64 a4 ∧ c5 = .int .i64 a5 ∧ c6 = .int .i64 a6 := by
  obtain ⟨n0, y0, h0⟩ := part Tryz.underlying58 h 0 _ rfl
  obtain ⟨n1, y1, h1⟩ := part Tryz.underlying58 h 1 _ rfl
  obtain ⟨n2, y2, h2⟩ := part Tryz.underlying58 h 2 _ rfl
  obtain ⟨n3, y3, h3⟩ := part Tryz.underlying58 h 3 _ rfl
  obtain ⟨n4, y4, h4⟩ := part Tryz.underlying58 h 4 _ rfl
  obtain ⟨n5, y5, h5⟩ := part Tryz.underlying58 h 5 _ rfl
  obtain ⟨n6, y6, h6⟩ := part Tryz.underlying58 h 6 _ rfl
  simp [cellsI] at h0 h1 h2 h3 h4 h5 h6
  obtain ⟨a0, e0⟩ := cell_int h0
  obtain ⟨a1, e1⟩ := cell_int h1
  obtain ⟨a2, e2⟩ := cell_int h2
  obtain ⟨a3, e3⟩ := cell_int h3
  obtain ⟨a4, e4⟩ := cell_int h4
  obtain ⟨a5, e5⟩ := cell_int h5
  obtain ⟨a6, e6⟩ := cell_int h6
  exact ⟨a0, a1, a2, a3, a4, a5, a6, e0, e1, e2, e3, e4, e5, e6⟩

theorem open_zone {n : Nat} {c0 c1 c2 c3 c4 c5 c6 c7 c8 c9 : Value} {x : DataW H × List MemPlace} (h : DataW.trod enc Tryz.prog w base spare held n 28 [c0, c1, c2, c3, c4, c5, c6, c7, c8, c9] = some x) :
    ∃ z : Zn, c0 = .int .i64 z.b ∧ c1 = .int .i64 z.s ∧ c2 = .int .i64 z.p.m ∧ c3 = .int .i64 z.p.k ∧ c4 = .int .i64 z.p.v ∧ c5 = .int .i64 z.p.u ∧ c6 = .int .i64 z.q.m ∧ c7 = .int .i64 z.q.k ∧ c8 = .int .i64 z.q.v ∧ c9 = .int .i64 z.q.u := by
  obtain ⟨n0, y0, h0⟩ := part Tryz.underlying28 h 0 _ rfl
  obtain ⟨n1, y1, h1⟩ := part Tryz.underlying28 h 1 _ rfl
  obtain ⟨n2, y2, h2⟩ := part Tryz.underlying28 h 2 _ rfl
  obtain ⟨n3, y3, h3⟩ := part Tryz.underlying28 h 3 _ rfl
  simp [cellsI] at h0 h1
  simp [cellsU] at h2 h3
  obtain ⟨b, e0⟩ := cell_int h0
  obtain ⟨s, e1⟩ := cell_int h1
  obtain ⟨a0, a1, a2, a3, e2, e3, e4, e5⟩ := open_turn h2
  obtain ⟨b0, b1, b2, b3, e6, e7, e8, e9⟩ := open_turn h3
  exact ⟨⟨b, s, ⟨a0, a1, a2, a3⟩, ⟨b0, b1, b2, b3⟩⟩, e0, e1, e2, e3, e4, e5, e6, e7, e8, e9⟩

theorem open_sn {n : Nat} {c0 c1 c2 c3 c4 c5 c6 c7 c8 c9 c10 c11 : Value} {x : DataW H × List MemPlace} (h : DataW.trod enc Tryz.prog w base spare held n 30 [c0, c1, c2, c3, c4, c5, c6, c7, c8, c9, c10, c11] = some x) :
    ∃ s : Nat → Int, c0 = .int .i64 (s 0) ∧ c1 = .int .i64 (s 1) ∧ c2 = .int .i64 (s 2) ∧ c3 = .int .i64 (s 3) ∧ c4 = .int .i64 (s 4) ∧ c5 = .int .i64 (s 5) ∧ c6 = .int .i64 (s 6) ∧ c7 = .int .i64 (s 7) ∧ c8 = .int .i64 (s 8) ∧ c9 = .int .i64 (s 9) ∧ c10 = .int .i64 (s 10) ∧ c11 = .int .i64 (s 11) := by
  obtain ⟨xs, m, _, _, _, hl, hall⟩ := DataW.trod_array Tryz.underlying30 h
  have go : ∀ i, i < 12 → ∃ y, DataW.trod enc Tryz.prog w base spare held m 3 (([c0, c1, c2, c3, c4, c5, c6, c7, c8, c9, c10, c11].drop (i * Tryz.prog.cellsOf 3)).take (Tryz.prog.cellsOf 3)) = some y := fun i hi => ⟨xs[i]'(by omega), by rw [hall i hi]; exact List.getElem?_eq_getElem (by omega)⟩
  obtain ⟨y0, h0⟩ := go 0 (by omega)
  obtain ⟨y1, h1⟩ := go 1 (by omega)
  obtain ⟨y2, h2⟩ := go 2 (by omega)
  obtain ⟨y3, h3⟩ := go 3 (by omega)
  obtain ⟨y4, h4⟩ := go 4 (by omega)
  obtain ⟨y5, h5⟩ := go 5 (by omega)
  obtain ⟨y6, h6⟩ := go 6 (by omega)
  obtain ⟨y7, h7⟩ := go 7 (by omega)
  obtain ⟨y8, h8⟩ := go 8 (by omega)
  obtain ⟨y9, h9⟩ := go 9 (by omega)
  obtain ⟨y10, h10⟩ := go 10 (by omega)
  obtain ⟨y11, h11⟩ := go 11 (by omega)
  simp [cellsI] at h0 h1 h2 h3 h4 h5 h6 h7 h8 h9 h10 h11
  obtain ⟨a0, e0⟩ := cell_int h0
  obtain ⟨a1, e1⟩ := cell_int h1
  obtain ⟨a2, e2⟩ := cell_int h2
  obtain ⟨a3, e3⟩ := cell_int h3
  obtain ⟨a4, e4⟩ := cell_int h4
  obtain ⟨a5, e5⟩ := cell_int h5
  obtain ⟨a6, e6⟩ := cell_int h6
  obtain ⟨a7, e7⟩ := cell_int h7
  obtain ⟨a8, e8⟩ := cell_int h8
  obtain ⟨a9, e9⟩ := cell_int h9
  obtain ⟨a10, e10⟩ := cell_int h10
  obtain ⟨a11, e11⟩ := cell_int h11
  exact ⟨fun i => [a0, a1, a2, a3, a4, a5, a6, a7, a8, a9, a10, a11].getD i 0, e0, e1, e2, e3, e4, e5, e6, e7, e8, e9, e10, e11⟩

/-- A slice of ints. -/
theorem open_st {n : Nat} {v : Value} {x : DataW H × List MemPlace} (h : DataW.trod enc Tryz.prog w base spare held n 22 [v] = some x) : ∃ xs : List Int, Sk .i64 w v xs := by
  rcases open_ints Tryz.underlying22 Tryz.underlying3 (by kernel_rfl) h with ⟨hcs, _⟩ | ⟨x, len, cap, zs, hcs, _, hl, hm, hz, _, hcell, hwz⟩
  · simp only [List.cons.injEq, and_true] at hcs
    subst hcs
    exact ⟨[], sk_nil _ _⟩
  · simp only [List.cons.injEq, and_true] at hcs
    subst hcs
    have h2 : zs.length = if spare x.block = true then cap else len := by simpa using hz
    have hz' : len ≤ zs.length := by rw [h2]; split <;> omega
    have he : (zs.take len).length = len := by rw [List.length_take]; omega
    refine ⟨zs.take len, some x, cap, by rw [he], by rw [he]; exact hl, by simpa [maxLen] using hm, by simp, fun i y hy => ?_⟩
    have hi : i < len := by
      have := (List.getElem?_eq_some_iff.1 hy).1
      omega
    obtain ⟨b, off, rfl, hc⟩ := ints_at hcell (by omega)
    refine ⟨b, off, rfl, ?_⟩
    rw [List.getElem?_take_of_lt hi] at hy
    have := hc i (by omega)
    rwa [List.getD_eq_getElem?_getD, hy] at this

theorem list7 {α : Type} (l : List α) (h : l.length = 7) : ∃ c0 c1 c2 c3 c4 c5 c6, l = [c0, c1, c2, c3, c4, c5, c6] := by
  match l, h with
  | [c0, c1, c2, c3, c4, c5, c6], _ => exact ⟨c0, c1, c2, c3, c4, c5, c6, rfl⟩

/-- The windows behind cells. -/
theorem wins_of (a : Addr) (len : Nat) (h : ∀ i, i < len → ∃ x : Wn, w.cells? base (a.add (i * 7)) 7 = some (wc x)) : ∃ xs : List Wn, xs.length = len ∧ ∀ i x, xs[i]? = some x → w.cells? base (a.add (i * 7)) 7 = some (wc x) := by
  induction len with
  | zero => exact ⟨[], rfl, by simp⟩
  | succ k ih =>
    obtain ⟨xs, hl, hx⟩ := ih (fun i hi => h i (by omega))
    obtain ⟨x, hk⟩ := h k (by omega)
    refine ⟨xs ++ [x], by simp [hl], fun i y hy => ?_⟩
    by_cases e : i < k
    · rw [List.getElem?_append_left (by omega)] at hy
      exact hx i y hy
    · rw [List.getElem?_append_right (by omega)] at hy
      have hi : i - xs.length = 0 := by
        have := (List.getElem?_eq_some_iff.1 hy).1
        simp at this
        omega
      rw [hi] at hy
      have ei : i = k := by omega
      simp only [List.getElem?_cons_zero, Option.some.injEq] at hy
      subst hy ei
      exact hk

theorem open_wins {n : Nat} {v : Value} {x : DataW H × List MemPlace} (h : DataW.trod enc Tryz.prog w base spare held n 31 [v] = some x) : ∃ xs : List Wn, Wk w v xs := by
  rcases DataW.trod_slice Tryz.underlying31 h with ⟨hcs, _⟩ | ⟨a, len, cap, elems, rest, m, _, hcs, _, hb, hl, hm, he, hall, _, _⟩
  · simp only [List.cons.injEq, and_true] at hcs
    subst hcs
    exact ⟨[], none, 0, rfl, by simp, by omega, by simp, by simp [fl]⟩
  · simp only [List.cons.injEq, and_true] at hcs
    subst hcs
    rw [cellsW] at hall
    obtain ⟨xs, hxl, hx⟩ := wins_of (w := w) (base := base) a len (fun i hi => by
      have h1 := hall i hi
      rw [List.getElem?_eq_getElem (by omega), Option.bind_eq_some_iff] at h1
      obtain ⟨cs, hc, ht⟩ := h1
      obtain ⟨c0, c1, c2, c3, c4, c5, c6, rfl⟩ := list7 cs (World.cells?_some hc).2.1
      obtain ⟨a0, a1, a2, a3, a4, a5, a6, rfl, rfl, rfl, rfl, rfl, rfl, rfl⟩ := open_wn ht
      exact ⟨⟨a0, a1, a2, a3, a4, a5, a6⟩, hc⟩)
    subst hxl
    refine ⟨xs, some a, cap, rfl, hl, by simpa [maxLen] using hm, by simp, fun i y hy => ?_⟩
    have hi : i < xs.length * 7 := by
      have := (List.getElem?_eq_some_iff.1 hy).1
      rwa [fl_len] at this
    have hq : i / 7 < xs.length := by omega
    have hr : i % 7 < 7 := by omega
    have hxi : xs[i / 7]? = some (xs[i / 7]) := List.getElem?_eq_getElem hq
    have e1 : i = i / 7 * 7 + i % 7 := by omega
    rw [e1, fl_get hxi hr] at hy
    have hc := (World.cells?_some (hx _ _ hxi)).2.2 (i % 7) hr
    rw [hy] at hc
    obtain ⟨b, off, spot⟩ := a
    have hspot : spot = none := by
      have h0 : xs[0]? = some (xs[0]'(by omega)) := List.getElem?_eq_getElem (by omega)
      have := (World.cells?_some (hx _ _ h0)).2.2 0 (by omega)
      exact World.cell?_spot (this.trans (show (wc _)[0]? = some _ from rfl))
    subst hspot
    refine ⟨b, off, rfl, ?_⟩
    rw [Go.WideShapes.add_plain, Go.WideShapes.add_plain] at hc
    rw [e1, ← Nat.add_assoc]
    exact hc

theorem open_win {r : Reach} {b0 : Nat} {v : Value} {d : DataW H} {p : List MemPlace} (hv : Value.okWide Tryz.prog w r b0 58 v) (h : DataW.Trod enc Tryz.prog w base spare held 58 v d p) :
    ∃ x : Wn, v = .agg (wc x).toArray := by
  obtain ⟨cs, rfl, hsz⟩ := okWide_struct Tryz.underlying58 hv
  obtain ⟨l⟩ := cs
  obtain ⟨c0, c1, c2, c3, c4, c5, c6, rfl⟩ := list7 l (hsz.trans cellsW)
  obtain ⟨fuel, hf⟩ := h
  obtain ⟨a0, a1, a2, a3, a4, a5, a6, rfl, rfl, rfl, rfl, rfl, rfl, rfl⟩ := open_wn hf
  exact ⟨⟨a0, a1, a2, a3, a4, a5, a6⟩, rfl⟩

theorem list37 {α : Type} (l : List α) (h : l.length = 37) : ∃ c0 c1 c2 c3 c4 c5 c6 c7 c8 c9 c10 c11 c12 c13 c14 c15 c16 c17 c18 c19 c20 c21 c22 c23 c24 c25 c26 c27 c28 c29 c30 c31 c32 c33 c34 c35 c36, l = [c0, c1, c2, c3, c4, c5, c6, c7, c8, c9, c10, c11, c12, c13, c14, c15, c16, c17, c18, c19, c20, c21, c22, c23, c24, c25, c26, c27, c28, c29, c30, c31, c32, c33, c34, c35, c36] := by
  match l, h with
  | c0 :: c1 :: c2 :: c3 :: c4 :: c5 :: c6 :: c7 :: c8 :: c9 :: c10 :: c11 :: c12 :: c13 :: c14 :: c15 :: c16 :: c17 :: c18 :: c19 :: c20 :: c21 :: c22 :: c23 :: c24 :: c25 :: c26 :: c27 :: c28 :: c29 :: c30 :: c31 :: c32 :: c33 :: c34 :: c35 :: c36 :: [], _ => exact ⟨c0, c1, c2, c3, c4, c5, c6, c7, c8, c9, c10, c11, c12, c13, c14, c15, c16, c17, c18, c19, c20, c21, c22, c23, c24, c25, c26, c27, c28, c29, c30, c31, c32, c33, c34, c35, c36, rfl⟩

theorem open_cfg {r : Reach} {b0 : Nat} {v : Value} {d : DataW H} {p : List MemPlace} (hv : Value.okWide Tryz.prog w r b0 33 v) (h : DataW.Trod enc Tryz.prog w base spare held 33 v d p) :
    ∃ (c : Cg) (x y : Value), v = .agg (cc c x y) ∧ Sk .i64 w x c.st ∧ Wk w y c.ws := by
  obtain ⟨cs, rfl, hsz⟩ := okWide_struct Tryz.underlying33 hv
  obtain ⟨l⟩ := cs
  obtain ⟨c0, c1, c2, c3, c4, c5, c6, c7, c8, c9, c10, c11, c12, c13, c14, c15, c16, c17, c18, c19, c20, c21, c22, c23, c24, c25, c26, c27, c28, c29, c30, c31, c32, c33, c34, c35, c36, rfl⟩ := list37 l (hsz.trans cellsC)
  obtain ⟨fuel, hf⟩ := h
  obtain ⟨n0, y0, h0⟩ := part Tryz.underlying33 hf 0 _ rfl
  obtain ⟨n1, y1, h1⟩ := part Tryz.underlying33 hf 1 _ rfl
  obtain ⟨n2, y2, h2⟩ := part Tryz.underlying33 hf 2 _ rfl
  obtain ⟨n3, y3, h3⟩ := part Tryz.underlying33 hf 3 _ rfl
  obtain ⟨n4, y4, h4⟩ := part Tryz.underlying33 hf 4 _ rfl
  obtain ⟨n5, y5, h5⟩ := part Tryz.underlying33 hf 5 _ rfl
  obtain ⟨n6, y6, h6⟩ := part Tryz.underlying33 hf 6 _ rfl
  obtain ⟨n7, y7, h7⟩ := part Tryz.underlying33 hf 7 _ rfl
  obtain ⟨n8, y8, h8⟩ := part Tryz.underlying33 hf 8 _ rfl
  obtain ⟨n9, y9, h9⟩ := part Tryz.underlying33 hf 9 _ rfl
  obtain ⟨n10, y10, h10⟩ := part Tryz.underlying33 hf 10 _ rfl
  simp [cellsI, Value.cells] at h0
  simp [cellsI, Value.cells] at h1
  simp [cellsI, Value.cells] at h2
  simp [cellsL, Value.cells] at h3
  simp [cellsT, Value.cells] at h4
  simp [cellsI, Value.cells] at h5
  simp [cellsI, Value.cells] at h6
  simp [cellsZ, Value.cells] at h7
  simp [cellsS, Value.cells] at h8
  simp [cellsB, Value.cells] at h9
  simp [cellsV, Value.cells] at h10
  obtain ⟨a0, rfl⟩ := cell_int h0
  obtain ⟨a1, rfl⟩ := cell_int h1
  obtain ⟨a2, rfl⟩ := cell_int h2
  obtain ⟨st, hs⟩ := open_st h3
  obtain ⟨t0, t1, t2, t3, t4, t5, t6, rfl, rfl, rfl, rfl, rfl, rfl, rfl⟩ := open_times h4
  obtain ⟨a5, rfl⟩ := cell_int h5
  obtain ⟨a6, rfl⟩ := cell_int h6
  obtain ⟨z, rfl, rfl, rfl, rfl, rfl, rfl, rfl, rfl, rfl, rfl⟩ := open_zone h7
  obtain ⟨s, rfl, rfl, rfl, rfl, rfl, rfl, rfl, rfl, rfl, rfl, rfl, rfl⟩ := open_sn h8
  obtain ⟨ab, rfl⟩ := cell_bool h9
  obtain ⟨ws, hw⟩ := open_wins h10
  exact ⟨⟨a0, a1, a2, st, t0, t1, t2, t3, t4, t5, t6, a5, a6, z, s, ab, ws⟩, _, _, rfl, hs, hw⟩

end

end Go.Proofs.YtpkjbcgmhkkfiaaGreatDoor.Conf

/- A configuration in memory of its own. Conditions: as each theorem states. -/
namespace Go.Proofs.YtpkjbcgmhkkfiaaGreatDoor.Conf
set_option maxRecDepth 100000
open Go.ChangeShapes Go.WideShapes Go.ChangeAt Go.RowKit
open Go.Proofs.YtpkjbcgmhkkfiaaGreatDoor.Divs Go.Proofs.YtpkjbcgmhkkfiaaGreatDoor.Grow Go.Proofs.YtpkjbcgmhkkfiaaGreatDoor.Zone
open Go.Proofs.YtpkjbcgmhkkfiaaGreatDoor.By (Sk SL bool_no bool_yes)
open Go.Proofs.YtpkjbcgmhkkfiaaGreatDoor.Each
open Go.Proofs.YtpkjbcgmhkkfiaaGreatDoor.Zo Go.Proofs.YtpkjbcgmhkkfiaaGreatDoor.Su Go.Proofs.YtpkjbcgmhkkfiaaGreatDoor.Cf

theorem owns_base {W : World} {b c : Nat} {e : TypeId} {n m : Nat} {v : Value} {xs : List Value} (h : W.ownsRow b e n v m xs) (hb : c ≤ b) : W.ownsRow c e n v m xs := by
  refine ⟨h.1, ?_⟩
  rcases h.2 with h | ⟨g, cap, cur, hv, h1, h2⟩
  · exact .inl h
  · exact .inr ⟨g, cap, cur, hv, Nat.le_trans hb h1, h2⟩

theorem Row.apart {B : Nat} {t : TypeId} {cs : Array Value} {W : World} (h : Row B t cs W) (A i : Nat) (y : Value) (ha : B ≠ A) : Row B t cs (W.setCell ⟨A, i, none⟩ y) := by
  unfold Row at *
  rw [heap_set_other _ _ _ _ _ ha]
  exact h

set_option maxHeartbeats 2000000 in
theorem own_any (c : Cg) (u v : Value) (w : World) (hu : Sk .i64 w u c.st) (hv : Wk w v c.ws) (hs : c.st.length ≤ 80) (hw : c.ws.length ≤ 20) : Calls Tryz.prog 10 #[.agg (cc c u v)] w fun e w' =>
    ∃ u' v', e = .returned (.agg (cc c u' v')) ∧ SL .i64 3 w' w.heap.size u' c.st ∧ WL w' w.heap.size v' c.ws ∧ Later w w' := by
  obtain ⟨C, hC⟩ : ∃ C, C = cc c u v := ⟨_, rfl⟩
  rw [← hC]
  have f3 : C[3]? = some u := by rw [hC]; rfl
  have F36 : Hid (C[36]? = some v) := Lib.hid (by rw [hC]; rfl)
  have HZ : Hid (C.size = 37) := Lib.hid (by rw [hC]; rfl)
  have HU := Lib.hid hu
  have HV := Lib.hid hv
  have HC := Lib.hid hC
  obtain ⟨d0, q0, rfl, _, _⟩ := sk_form hu
  obtain ⟨d9, q9, rfl, _, _⟩ := wk_form hv
  clear hC hu hv
  go_enter Tryz.func10, Tryz.ntmps10
  go_wp2_with (first
    | (at_builtin; refine append_ints' rfl _ _ rfl _ ((Later.refl _).alloc _ _) (w.heap.size + 1 + 1) (by simp) _ [] rfl (ints_made' _ _ _ (by simp) (by simp)) _ c.st rfl (HU.out.later ((((Later.refl w).alloc _ _).alloc _ _).alloc _ _)) (by simp; omega) ?_; intro u' w1 hs1 hg1; rw [List.nil_append] at hs1; obtain ⟨d1, q1, rfl, _, _⟩ := sk_form (By.SL.sk hs1); have HA1 := Lib.hid (((Row.new w C 33).later ((Later.refl _).alloc _ _)).later hg1); have HR1 := Lib.hid ((Row.new _ _ _).later hg1); have HG1 := Lib.hid (gtrans (((Later.refl w).alloc _ _).alloc _ _) hg1); have HS1 := Lib.hid hs1; have HSZ : Hid (w.heap.size + 2 ≤ w1.heap.size) := Lib.hid (by have := hg1.size; simp at this; omega); clear hs1 hg1; have a3 := HA1.out.cell 3 f3; have a36 := ((HA1.out.set 3 (.slice d1 c.st.length q1)).later ((Later.refl _).alloc #[] 58)).cell 36 (v := .slice d9 c.ws.length q9) (by rw [Array.getElem?_setIfInBounds_ne (by omega)]; exact F36.out); have z3 := HA1.out.frozen 3)
    | (at_builtin; refine append_wins' rfl _ _ rfl _ ((Later.refl _).alloc _ _) _ rfl _ [] rfl (wins_made' _ _ _ (by simp) (by simp)) _ c.ws rfl (HV.out.later ((HG1.out.setCell (Nat.le_refl _) _).alloc _ _)) (by simp; omega) ?_; intro v' w2 hs2 hg2; rw [List.nil_append] at hs2; obtain ⟨d2, q2, rfl, _, _⟩ := wk_form (WL.wk hs2); have HA2 := Lib.hid ((HA1.out.set 3 _).later hg2); have b36 := HA2.out.cell 36 (v := .slice d9 c.ws.length q9) (by rw [Array.getElem?_setIfInBounds_ne (by omega)]; exact F36.out); have y36 := HA2.out.frozen 36; have HS2 := Lib.hid hs2; have HG2 := Lib.hid hg2; clear hs2 hg2; obtain ⟨D, hD⟩ : ∃ D, D = (cc c (.slice d1 c.st.length q1) (.slice d2 c.ws.length q2)) := ⟨_, rfl⟩; have HD := Lib.hid hD; have D37 : Hid (D.size = 37) := Lib.hid (by rw [hD]; rfl); have D1 : Hid (D.all (·.oneCell') = true) := Lib.hid (by rw [hD]; unfold cc; simp [Value.oneCell']); clear hD; have HA3 : Hid (At (w2.setCell ⟨w.heap.size, 36, none⟩ (.slice d2 c.ws.length q2)) w.heap.size D) := Lib.hid (by have h := (HA2.out.set 36 (.slice d2 c.ws.length q2)).at; rw [HC.out] at h; rw [HD.out]; exact h); have HR3 := Lib.hid (((HR1.out.apart w.heap.size 3 (.slice d1 c.st.length q1) (by simp)).later HG2.out).apart w.heap.size 36 (.slice d2 c.ws.length q2) (by simp)); have HT3 : Hid ((w2.setCell ⟨w.heap.size, 36, none⟩ (.slice d2 c.ws.length q2)).there (w.heap.size + 1) 0 D.size) := Lib.hid (by rw [D37.out]; have h := HR3.out.there; simp only [World.size_alloc] at h; exact h); clear HR3 HR1)
    | (refine load_at D D37.out rfl (.tmp 1) rfl w.heap.size rfl HA3.out ?_)
    | (refine wpList_store_mid rfl 33 (.tmp 2) (.tmp 13) rfl (w.heap.size + 1) 0 D rfl rfl HT3.out (by rw [D37.out]; kernel_rfl) D1.out ?_))
  have hAt : At ((w2.setCell ⟨w.heap.size, 36, none⟩ (.slice d2 c.ws.length q2)).setCells (w.heap.size + 1) 0 D.toList) (w.heap.size + 1) D := fun j x hx => by
    have := World.rangeAt_setCells_same (w2.setCell ⟨w.heap.size, 36, none⟩ (.slice d2 c.ws.length q2)) (w.heap.size + 1) 0 D.toList (by rw [Array.length_toList]; exact HT3.out) j x (by simpa using hx)
    rwa [Nat.zero_add] at this
  refine bodyPost_ret (v := .agg D) (results_at (fn := Tryz.f10) Tryz.results10 _ _ (w.heap.size + 1) D D37.out rfl hAt) rfl ?_
  refine ⟨.slice d1 c.st.length q1, .slice d2 c.ws.length q2, by rw [HD.out], ?_, ?_, ?_⟩
  · have h1 : By.SL .i64 3 (w1.setCell ⟨w.heap.size, 3, none⟩ (.slice d1 c.st.length q1)) (w.heap.size + 1 + 1) (.slice d1 c.st.length q1) c.st := owns_set HS1.out (by omega) _ _
    exact owns_base (owns_sets (by omega) _ _ _ (owns_set (h1.later HG2.out) (by omega) _ _)) (by omega)
  · have hsz : w.heap.size + 1 < (w1.setCell ⟨w.heap.size, 3, none⟩ (.slice d1 c.st.length q1)).heap.size := by
      have := HSZ.out
      simp
      omega
    exact owns_base (owns_sets hsz _ _ _ (owns_set HS2.out (by omega) _ _)) (by omega)
  · exact later_sets (by omega) _ _ _ ((gtrans (HG1.out.setCell (Nat.le_refl _) _) HG2.out).setCell (Nat.le_refl _) _)

end Go.Proofs.YtpkjbcgmhkkfiaaGreatDoor.Conf

/- Plain facts on what may be when one thing is changed. Conditions: as each theorem states. -/
namespace Go.Proofs.YtpkjbcgmhkkfiaaGreatDoor.Conf
set_option maxRecDepth 100000
open Go.Proofs.YtpkjbcgmhkkfiaaGreatDoor.Zo Go.Proofs.YtpkjbcgmhkkfiaaGreatDoor.Su Go.Proofs.YtpkjbcgmhkkfiaaGreatDoor.Cf

set_option linter.unusedSimpArgs false in
theorem ce_ok (c : Cg) : ce c = 0 ↔ so c = true ∧ to c = true ∧ ti c = true ∧ ck c.z = 0 ∧ sk c.s = 0 ∧ c.ws.length ≤ 16 ∧ wa c.ws = true := by
  unfold ce
  by_cases h1 : so c = true
  · by_cases h2 : to c = true
    · by_cases h3 : ti c = true
      · by_cases h4 : ck c.z = 0
        · by_cases h5 : sk c.s = 0
          · by_cases h6 : c.ws.length ≤ 16
            · by_cases h7 : wa c.ws = true
              · simp only [h1, h2, h3, h4, h5, h6, h7, if_true, true_and]
              · simp only [h1, h2, h3, h4, h5, h6, h7, if_true, if_false, true_and]
                simp
            · simp only [h1, h2, h3, h4, h5, h6, if_true, if_false, true_and, false_and]
              simp
          · simp only [h1, h2, h3, h4, h5, if_true, if_false, true_and, false_and]
        · simp only [h1, h2, h3, h4, if_true, if_false, true_and, false_and]
      · simp only [h1, h2, h3, if_true, if_false, true_and, false_and]
        simp
    · simp only [h1, h2, if_true, if_false, true_and, false_and]
      simp
  · simp only [h1, if_false, false_and]
    simp

/-- With other windows. -/
def cw (c : Cg) (l : List Wn) : Cg := { c with ws := l }

/-- With other stops. -/
def ct (c : Cg) (l : List Int) : Cg := { c with st := l }

/-- With another lead. -/
def cl (c : Cg) (n : Int) : Cg := { c with e := n }

/-- With other floors. -/
def cf (c : Cg) (n : Int) : Cg := { c with f := n }

/-- With another place's zone and sunsets. -/
def cp (c d : Cg) : Cg := { c with z := d.z, s := d.s }

theorem ce_cw (c : Cg) (l : List Wn) (h : ce c = 0) : ce (cw c l) = if l.length ≤ 16 then (if wa l = true then 0 else 104) else 103 := by
  obtain ⟨h1, h2, h3, h4, h5, -, -⟩ := (ce_ok c).mp h
  have e1 : so (cw c l) = true := h1
  have e2 : to (cw c l) = true := h2
  have e3 : ti (cw c l) = true := h3
  have e4 : ck (cw c l).z = 0 := h4
  have e5 : sk (cw c l).s = 0 := h5
  unfold ce
  rw [if_pos e1, if_pos e2, if_pos e3, if_pos e4, if_pos e5]
  rfl

theorem ce_more (c : Cg) (x : Wn) (h : ce c = 0) (hn : c.ws.length + 1 ≤ 16) : ce (cw c (c.ws ++ [x])) = we x := by
  rw [ce_cw c _ h, if_pos (by simpa using hn)]
  have hw := ((ce_ok c).mp h).2.2.2.2.2.2
  unfold wa at hw ⊢
  rw [List.all_append, hw]
  unfold we
  simp

theorem ce_much (c : Cg) (x : Wn) (h : ce c = 0) (hn : ¬ c.ws.length + 1 ≤ 16) : ce (cw c (c.ws ++ [x])) = 103 := by
  rw [ce_cw c _ h, if_neg (by simpa using hn)]

theorem ce_less (c : Cg) (l : List Wn) (h : ce c = 0) (hn : l.length ≤ c.ws.length) (hm : ∀ x ∈ l, x ∈ c.ws) : ce (cw c l) = 0 := by
  obtain ⟨-, -, -, -, -, h6, h7⟩ := (ce_ok c).mp h
  rw [ce_cw c l h, if_pos (Nat.le_trans hn h6), if_pos]
  unfold wa at h7 ⊢
  rw [List.all_eq_true] at h7 ⊢
  exact fun x hx => h7 x (hm x hx)

theorem win_ok (c : Cg) (h : ce c = 0) (i : Nat) (x : Wn) (hx : c.ws[i]? = some x) : we x = 0 := by
  have h7 := ((ce_ok c).mp h).2.2.2.2.2.2
  unfold wa at h7
  rw [List.all_eq_true] at h7
  exact (we_ok x).mpr (h7 x (List.mem_of_getElem? hx))

theorem ce_stop (c : Cg) (l : List Int) (h : so c = true) (hl : l.length < 2) : ce (ct c l) = 101 := by
  have e1 : so (ct c l) = true := h
  have e2 : ¬ to (ct c l) = true := by
    rw [to_iff]
    show ¬ (2 ≤ l.length ∧ _)
    omega
  unfold ce
  rw [if_pos e1, if_neg e2]

theorem ce_floor (c : Cg) : ce (cf c 1) = 100 := by
  unfold ce
  rw [if_neg]
  intro h
  have := (so_floors h).1
  have e : (cf c 1).f = 1 := rfl
  omega

theorem ck_three (z : Zn) : ck z = 0 ∨ ck z = 60 ∨ ck z = 61 ∨ ck z = 62 := by
  unfold ck
  split
  · simp
  · split
    · simp
    · split <;> simp

theorem sk_three (s : Nat → Int) : sk s = 0 ∨ sk s = 70 ∨ sk s = 71 := by
  unfold sk
  split
  · split <;> simp
  · simp

theorem ce_first (c d : Cg) (h : ce c = 100 ∨ ce c = 101 ∨ ce c = 102) : ce (cp c d) = ce c := by
  have e1 : so (cp c d) = so c := rfl
  have e2 : to (cp c d) = to c := rfl
  have e3 : ti (cp c d) = ti c := rfl
  unfold ce at h ⊢
  rw [e1, e2, e3]
  by_cases h1 : so c = true
  · by_cases h2 : to c = true
    · by_cases h3 : ti c = true
      · exfalso
        rw [if_pos h1, if_pos h2, if_pos h3] at h
        have := ck_three c.z
        have := sk_three c.s
        split at h
        · split at h
          · split at h
            · split at h <;> omega
            · omega
          · omega
        · omega
      · rw [if_pos h1, if_pos h2, if_neg h3, if_pos h1, if_pos h2, if_neg h3]
    · rw [if_pos h1, if_neg h2, if_pos h1, if_neg h2]
  · rw [if_neg h1, if_neg h1]

theorem ce_place (c d : Cg) (h : ce c = 0) (g : ce d = 0) : ce (cp c d) = 0 := by
  obtain ⟨h1, h2, h3, -, -, h6, h7⟩ := (ce_ok c).mp h
  obtain ⟨-, -, -, h4, h5, -, -⟩ := (ce_ok d).mp g
  exact (ce_ok _).mpr ⟨h1, h2, h3, h4, h5, h6, h7⟩

/-- The least dwell. -/
def ls (c : Cg) : Int := min (min c.d c.r) c.q

theorem ls_in (c : Cg) (h : ce c = 0) : 1 ≤ ls c ∧ ls c ≤ 60 := by
  have h3 := ((ce_ok c).mp h).2.2.1
  simp only [ti, Bool.and_eq_true, bt_iff] at h3
  unfold ls
  omega

theorem ce_lead (c : Cg) (n : Int) (h : ce c = 0) : ce (cl c n) = if 1 ≤ n ∧ n ≤ ls c then 0 else 102 := by
  obtain ⟨h1, h2, h3, h4, h5, h6, h7⟩ := (ce_ok c).mp h
  have e1 : so (cl c n) = true := h1
  have e2 : to (cl c n) = true := h2
  have e3 : ti (cl c n) = true ↔ 1 ≤ n ∧ n ≤ ls c := by
    unfold ls
    simp only [ti, Bool.and_eq_true, bt_iff] at h3 ⊢
    simp only [cl]
    omega
  by_cases g : 1 ≤ n ∧ n ≤ ls c
  · rw [if_pos g]
    exact (ce_ok _).mpr ⟨e1, e2, e3.mpr g, h4, h5, h6, h7⟩
  · rw [if_neg g]
    unfold ce
    rw [if_pos e1, if_pos e2, if_neg (fun x => g (e3.mp x))]

theorem sq_self (s : Nat → Int) : sq s s = true := by simp [sq]

theorem sb_self (c : Cg) (l : List Wn) : sb c (cw c l) = true := by simp [sb, tq, cw]

theorem zq_self (z : Zn) : zq z z = true := by simp [zq]

theorem tt_cw (c : Cg) (l : List Wn) : tt c (cw c l) = decide (c.ws = l) := by
  show (zq c.z c.z && (sq c.s c.s && ((c.ab == c.ab) && decide (c.ws = l)))) = _
  rw [zq_self, sq_self, beq_self_eq_true, Bool.true_and, Bool.true_and, Bool.true_and]

theorem same_cw (c : Cg) (l : List Wn) : (sb c (cw c l) && tt c (cw c l)) = decide (c.ws = l) := by
  rw [sb_self, tt_cw, Bool.true_and]

theorem ft_cw (c : Cg) (l : List Wn) (h : ce c = 0) (g : ce (cw c l) = 0) : ft c (cw c l) = true := by
  unfold ft
  rw [h, g]
  simp [cw]

theorem ft_not (c d : Cg) (h : ce d ≠ 0) : ft c d = false := by
  unfold ft
  have : (ce d == 0) = false := by simpa using h
  rw [this]
  simp

/-- The example's sunsets. -/
def ps : Nat → Int := fun i => [1000, 1050, 1100, 1150, 1180, 1200, 1170, 1130, 1080, 1030, 1000, 990].getD i 0

/-- The example's window. -/
def pw : Wn := ⟨1, 2, 0, 65, 0, 1200, 600⟩

/-- The example. -/
def pc : Cg := ⟨4, 1, 0, [0, 1, 3], 2, 1, 2, 4, 1, 2, 3, 5, 3, ⟨0, 0, ⟨0, 0, 0, 0⟩, ⟨0, 0, 0, 0⟩⟩, ps, false, [pw]⟩

/-- No configuration. -/
def oc : Cg := ⟨0, 0, 0, [], 0, 0, 0, 0, 0, 0, 0, 0, 0, ⟨0, 0, ⟨0, 0, 0, 0⟩, ⟨0, 0, 0, 0⟩⟩, fun _ => 0, false, []⟩

/-- No window. -/
def ow : Wn := ⟨0, 0, 0, 0, 0, 0, 0⟩

theorem pc_ok : ce pc = 0 := by
  refine (ce_ok _).mpr ⟨by decide, by decide, by decide, by decide, ?_, by decide, by decide⟩
  refine (sk_ok _).mpr ⟨?_, ?_⟩
  · unfold okM; decide
  · unfold okS; decide

theorem pc_self : (sb pc pc && tt pc pc) = true := by
  show (sb pc (cw pc pc.ws) && tt pc (cw pc pc.ws)) = true
  rw [same_cw]
  simp

theorem pc_fits : ft pc pc = true := by
  unfold ft
  rw [pc_ok]
  rfl

theorem pc_oc : (sb pc oc && tt pc oc) = false := by rfl

theorem pw_ok : we pw = 0 := by decide

theorem ow_not : we ow = 104 := by decide

end Go.Proofs.YtpkjbcgmhkkfiaaGreatDoor.Conf

/- Configurations that are stored whole, and the example. Conditions: as each theorem states. -/
namespace Go.Proofs.YtpkjbcgmhkkfiaaGreatDoor.Conf
set_option maxRecDepth 100000
open Go.ChangeShapes Go.WideShapes Go.ChangeAt Go.RowKit
open Go.Proofs.YtpkjbcgmhkkfiaaGreatDoor.Divs Go.Proofs.YtpkjbcgmhkkfiaaGreatDoor.Grow Go.Proofs.YtpkjbcgmhkkfiaaGreatDoor.Zone
open Go.Proofs.YtpkjbcgmhkkfiaaGreatDoor.By (Sk SL bool_no bool_yes)
open Go.Proofs.YtpkjbcgmhkkfiaaGreatDoor.Each
open Go.Proofs.YtpkjbcgmhkkfiaaGreatDoor.Zo Go.Proofs.YtpkjbcgmhkkfiaaGreatDoor.Su Go.Proofs.YtpkjbcgmhkkfiaaGreatDoor.Cf

/-- Cells that are set, from one on. -/
def sets (cs : Array Value) (o : Nat) : List Value → Array Value
  | [] => cs
  | v :: r => sets (cs.setIfInBounds o v) (o + 1) r

theorem Row.sets {B : Nat} {t : TypeId} (vs : List Value) : ∀ (W : World) (cs : Array Value) (o : Nat), Row B t cs W → Row B t (Conf.sets cs o vs) (W.setCells B o vs) := by
  induction vs with
  | nil => intro W cs o h; exact h
  | cons y r ih => intro W cs o h; exact ih _ _ _ (h.set o y)

theorem sets_get (vs : List Value) : ∀ (cs : Array Value) (o i : Nat), o + vs.length ≤ cs.size → (sets cs o vs)[i]? = if o ≤ i ∧ i < o + vs.length then vs[i - o]? else cs[i]? := by
  induction vs with
  | nil =>
    intro cs o i h
    rw [if_neg (by simp)]
    rfl
  | cons y r ih =>
    intro cs o i h
    simp only [List.length_cons] at h
    show (sets (cs.setIfInBounds o y) (o + 1) r)[i]? = _
    rw [ih _ _ _ (by simp; omega)]
    by_cases e : i = o
    · subst e
      rw [if_neg (by omega), if_pos (by simp), Nat.sub_self]
      simp [show i < cs.size by omega]
    · rw [Array.getElem?_setIfInBounds_ne (Ne.symm e)]
      by_cases g : o + 1 ≤ i ∧ i < o + 1 + r.length
      · rw [if_pos g, if_pos (by simp; omega)]
        obtain ⟨k, rfl⟩ : ∃ k, i = o + 1 + k := ⟨i - (o + 1), by omega⟩
        have e1 : o + 1 + k - (o + 1) = k := by omega
        have e2 : o + 1 + k - o = k + 1 := by omega
        rw [e1, e2, List.getElem?_cons_succ]
      · rw [if_neg g, if_neg (by simp; omega)]

theorem sets_all (cs D : Array Value) (h : cs.size = D.size) : sets cs 0 D.toList = D := by
  apply Array.ext_getElem?
  intro i
  rw [sets_get _ _ _ _ (by simp; omega)]
  by_cases g : 0 ≤ i ∧ i < 0 + D.toList.length
  · rw [if_pos g]
    simp
  · rw [if_neg g]
    simp only [Array.length_toList] at g
    rw [Array.getElem?_eq_none (by omega), Array.getElem?_eq_none (by omega)]

theorem heap_sets_other {A g : Nat} (h : g ≠ A) (vs : List Value) : ∀ (W : World) (o : Nat), (W.setCells A o vs).heap[g]? = W.heap[g]? := by
  induction vs with
  | nil => intro W o; rfl
  | cons y r ih => intro W o; exact (ih _ _).trans (heap_set_other _ _ _ _ _ h)

/-- A configuration is stored whole. -/
theorem store_row {ops : Array Oper} {rest : List Oper} {o : Oper} {a : Act} {W : World} {Q : Exit → Act → World → Prop} (hgd : o.guard = none) (x y : Operand) (ho : o.op = .store 33 x y) (g : Nat) (hx : a.eval x = .pointer (some ⟨g, 0, none⟩)) (D : Array Value) (hD : D.size = 37) (hone : D.all (·.oneCell') = true) (hy : a.eval y = .agg D)
    (cs : Array Value) {t : TypeId} (hcs : cs.size = 37) (hR : Row g t cs W) (w0 : World) (hL : Later w0 W) (hB : w0.heap.size ≤ g) (hK : ∀ W', Row g t D W' → Later w0 W' → (∀ b, b ≠ g → W'.heap[b]? = W.heap[b]?) → wpList Tryz.prog ops Q rest (a.put o.dst undef) W') : wpList Tryz.prog ops Q (o :: rest) a W := by
  refine wpList_store_mid hgd 33 x y ho g 0 D hx hy ?_ (by rw [hD]; kernel_rfl) hone ?_
  · have := hR.there
    rw [hcs] at this
    rw [hD]
    exact this
  · refine hK _ ?_ (later_sets hB _ _ _ hL) (fun b hb => heap_sets_other hb _ _ _)
    have := Row.sets D.toList W cs 0 hR
    rwa [sets_all cs D (by omega)] at this

theorem row_new' (W : World) (cs : Array Value) (t : TypeId) (g : Nat) (hg : g = W.heap.size) : Row g t cs (W.alloc (.cells cs t)) := by
  subst hg
  exact Row.new W cs t

theorem cc_size (c : Cg) (u v : Value) : (cc c u v).size = 37 := rfl

theorem cc_one (c : Cg) (d d' : Option Addr) (n q n' q' : Nat) : (cc c (.slice d n q) (.slice d' n' q')).all (·.oneCell') = true := by
  unfold cc
  simp [Value.oneCell']

set_option maxHeartbeats 1000000 in
theorem plain_any (w : World) : Calls Tryz.prog 18 #[] w fun e w' => ∃ u v, e = .returned (.agg (cc pc u v)) ∧ Sk .i64 w' u pc.st ∧ Wk w' v pc.ws ∧ Later w w' := by
  obtain ⟨D, hD⟩ : ∃ D, D = cc pc (.slice (some ⟨w.heap.size + 1, 0, none⟩) 3 3) (.slice (some ⟨w.heap.size + 1 + 1, 0, none⟩) 1 1) := ⟨_, rfl⟩
  have HD := Lib.hid hD
  have D37 : Hid (D.size = 37) := Lib.hid (by rw [hD]; rfl)
  have D1 : Hid (D.all (·.oneCell') = true) := Lib.hid (by rw [hD]; exact cc_one _ _ _ _ _ _ _)
  clear hD
  go_enter Tryz.func18, Tryz.ntmps18
  go_wp2_with (refine store_row rfl (.tmp 0) (.tmp 6) rfl w.heap.size rfl D D37.out D1.out (by rw [HD.out]; rfl) _ rfl (((Row.new w _ _).later ((Later.refl _).alloc _ _)).later ((Later.refl _).alloc _ _)) w ((((Later.refl w).alloc _ _).alloc _ _).alloc _ _) (Nat.le_refl _) ?_; intro W' hR hL ho)
  refine bodyPost_ret (v := .agg D) (results_at (fn := Tryz.f18) Tryz.results18 _ _ w.heap.size D D37.out rfl hR.at) rfl ?_
  refine ⟨_, _, by rw [HD.out], ?_, ?_, hL⟩
  · have h1 : Row (w.heap.size + 1) 3 #[.int .i64 0, .int .i64 1, .int .i64 3] W' := by
      unfold Row
      rw [ho _ (by omega)]
      exact (row_new' _ _ _ _ (by simp)).later ((Later.refl _).alloc _ _)
    refine Sk.row (xs := pc.st) (cap := 3) h1 ?_ (by decide) (by decide)
    intro i x hx
    match i with
    | 0 => simp [pc] at hx; subst hx; rfl
    | 1 => simp [pc] at hx; subst hx; rfl
    | 2 => simp [pc] at hx; subst hx; rfl
    | i + 3 => simp [pc] at hx
  · have h2 : Row (w.heap.size + 1 + 1) 58 (wc pw).toArray W' := by
      unfold Row
      rw [ho _ (by omega)]
      exact row_new' _ _ _ _ (by simp)
    refine ⟨_, 1, rfl, by decide, by decide, by simp, fun i x hx => ⟨_, 0, rfl, ?_⟩⟩
    rw [Nat.zero_add]
    refine h2.cell i ?_
    have e : fl pc.ws = wc pw := rfl
    rw [e] at hx
    simpa using hx

end Go.Proofs.YtpkjbcgmhkkfiaaGreatDoor.Conf

/- The example's answers. No condition but those that each theorem states. -/
namespace Go.Proofs.YtpkjbcgmhkkfiaaGreatDoor.Conf
set_option maxRecDepth 100000
open Go.ChangeShapes Go.WideShapes Go.ChangeAt Go.RowKit
open Go.Proofs.YtpkjbcgmhkkfiaaGreatDoor.Divs Go.Proofs.YtpkjbcgmhkkfiaaGreatDoor.Grow Go.Proofs.YtpkjbcgmhkkfiaaGreatDoor.Zone
open Go.Proofs.YtpkjbcgmhkkfiaaGreatDoor.By (Sk SL bool_no bool_yes)
open Go.Proofs.YtpkjbcgmhkkfiaaGreatDoor.Each
open Go.Proofs.YtpkjbcgmhkkfiaaGreatDoor.Zo Go.Proofs.YtpkjbcgmhkkfiaaGreatDoor.Su Go.Proofs.YtpkjbcgmhkkfiaaGreatDoor.Cf

/-- A window is loaded, by an operation that is wanted. -/
theorem load_win_in {ops : Array Oper} {rest : List Oper} {o : Oper} {a : Act} {W : World} {Q : Exit → Act → World → Prop} (y : Wn) (hw : Region.wanted o (yielded ops a.tmps) = true) (x : Operand) (ho : o.op = .load 58 x) (B off : Nat) (hx : a.eval x = .pointer (some ⟨B, off, none⟩)) (h : W.rangeAt B off (wc y)) (hK : wpList Tryz.prog ops Q rest (a.put o.dst (.agg (wc y).toArray)) W) : wpList Tryz.prog ops Q (o :: rest) a W := by
  unfold wpList
  rw [if_pos hw]
  exact .inl (wp_load_mid (P := Tryz.prog) 58 x ho B off hx (wc y) _ h Tryz.underlying58 rfl (by kernel_rfl) hK)

theorem oc_st (w : World) : Sk .i64 w (.slice none 0 0) oc.st := By.sk_nil _ _

theorem oc_ws (w : World) : Wk w (.slice none 0 0) oc.ws := ⟨none, 0, rfl, by decide, by omega, by simp, by simp [oc, fl]⟩

end Go.Proofs.YtpkjbcgmhkkfiaaGreatDoor.Conf

/- Configurations by their cells: what the functions answer of them. Conditions: as each theorem states. -/
namespace Go.Proofs.YtpkjbcgmhkkfiaaGreatDoor.Conf
set_option maxRecDepth 100000
open Go.ChangeShapes Go.WideShapes Go.ChangeAt Go.RowKit
open Go.Proofs.YtpkjbcgmhkkfiaaGreatDoor.Divs Go.Proofs.YtpkjbcgmhkkfiaaGreatDoor.Grow Go.Proofs.YtpkjbcgmhkkfiaaGreatDoor.Zone
open Go.Proofs.YtpkjbcgmhkkfiaaGreatDoor.By (Sk SL bool_no bool_yes)
open Go.Proofs.YtpkjbcgmhkkfiaaGreatDoor.Each
open Go.Proofs.YtpkjbcgmhkkfiaaGreatDoor.Zo Go.Proofs.YtpkjbcgmhkkfiaaGreatDoor.Su Go.Proofs.YtpkjbcgmhkkfiaaGreatDoor.Cf

/-- D are the cells of c. -/
def Is (W : World) (D : Array Value) (c : Cg) : Prop := ∃ u v, D = cc c u v ∧ Sk .i64 W u c.st ∧ Wk W v c.ws

theorem Is.later {W W' : World} {D : Array Value} {c : Cg} (h : Is W D c) (g : Later W W') : Is W' D c := by
  obtain ⟨u, v, rfl, hu, hv⟩ := h
  exact ⟨u, v, rfl, hu.later g, hv.later g⟩

theorem Is.size {W : World} {D : Array Value} {c : Cg} (h : Is W D c) : D.size = 37 := by
  obtain ⟨u, v, rfl, hu, hv⟩ := h
  rfl

theorem Is.one {W : World} {D : Array Value} {c : Cg} (h : Is W D c) : D.all (·.oneCell') = true := by
  obtain ⟨u, v, rfl, hu, hv⟩ := h
  obtain ⟨d0, q0, rfl, _, _⟩ := sk_form hu
  obtain ⟨d1, q1, rfl, _, _⟩ := wk_form hv
  exact cc_one _ _ _ _ _ _ _

/-- D are the cells of c, and its slices are owned from B on. -/
def Own (W : World) (B : Nat) (D : Array Value) (c : Cg) : Prop := ∃ u v, D = cc c u v ∧ SL .i64 3 W B u c.st ∧ WL W B v c.ws

theorem Own.is {W : World} {B : Nat} {D : Array Value} {c : Cg} (h : Own W B D c) : Is W D c := by
  obtain ⟨u, v, rfl, hu, hv⟩ := h
  exact ⟨u, v, rfl, By.SL.sk hu, WL.wk hv⟩

theorem Own.later {W W' : World} {B : Nat} {D : Array Value} {c : Cg} (h : Own W B D c) (g : Later W W') : Own W' B D c := by
  obtain ⟨u, v, rfl, hu, hv⟩ := h
  exact ⟨u, v, rfl, hu.later g, hv.later g⟩

theorem few_of {W : World} {D : Array Value} {c : Cg} (h : Is W D c) : Calls Tryz.prog 7 #[.agg D] W fun e w' => e = .returned (.bool (fw c)) ∧ Later W w' := by
  obtain ⟨u, v, rfl, hu, hv⟩ := h
  exact few_any c u v W hu hv

theorem check_of {W : World} {D : Array Value} {c : Cg} (h : Is W D c) : Calls Tryz.prog 14 #[.agg D] W fun e w' => e = .returned (.int .i64 (ce c)) ∧ Later W w' := by
  obtain ⟨u, v, rfl, hu, hv⟩ := h
  exact check_any c u v W hu hv

theorem rcheck_of {W : World} {D : Array Value} {c : Cg} (h : Is W D c) : Calls Tryz.prog 11 #[.agg D] W fun e w' => e = .returned (.int .i64 (ce c)) ∧ Later W w' := by
  obtain ⟨u, v, rfl, hu, hv⟩ := h
  exact rcfg_any c u v W hu hv

theorem same_of {W : World} {D E : Array Value} {c d : Cg} (h : Is W D c) (k : Is W E d) : Calls Tryz.prog 16 #[.agg D, .agg E] W fun e w' => e = .returned (.bool (sb c d && tt c d)) ∧ Later W w' := by
  obtain ⟨u, v, rfl, hu, hv⟩ := h
  obtain ⟨u', v', rfl, hu', hv'⟩ := k
  exact same_any c d u v u' v' W hu hu' hv hv'

theorem rsame_of {W : World} {D E : Array Value} {c d : Cg} (h : Is W D c) (k : Is W E d) : Calls Tryz.prog 17 #[.agg D, .agg E] W fun e w' => e = .returned (.bool (sb c d && tt c d)) ∧ Later W w' := by
  obtain ⟨u, v, rfl, hu, hv⟩ := h
  obtain ⟨u', v', rfl, hu', hv'⟩ := k
  exact rsame_any c d u v u' v' W hu hu' hv hv'

theorem own_of {W : World} {D : Array Value} {c : Cg} (h : Is W D c) (hf : fw c = true) : Calls Tryz.prog 10 #[.agg D] W fun e w' => ∃ E, e = .returned (.agg E) ∧ Own w' W.heap.size E c ∧ Later W w' := by
  obtain ⟨u, v, rfl, hu, hv⟩ := h
  obtain ⟨h1, h2⟩ := (fw_iff c).mp hf
  refine (own_any c u v W hu hv h1 h2).mono ?_
  rintro e w' ⟨u', v', rfl, hs, hw, hg⟩
  exact ⟨_, rfl, ⟨u', v', rfl, hs, hw⟩, hg⟩

theorem cc_lead (c : Cg) (u v : Value) (n : Int) : (cc c u v).setIfInBounds 8 (.int .i64 n) = cc (cl c n) u v := by simp [cc, cl]

theorem cc_floors (c : Cg) (u v : Value) (n : Int) : (cc c u v).setIfInBounds 0 (.int .i64 n) = cc (cf c n) u v := by simp [cc, cf]

set_option maxHeartbeats 2000000 in
theorem cc_place (c d : Cg) (u v : Value) : sets (sets (cc c u v) 13 (zc d.z).toList) 23 (Sun.sc d.s).toList = cc (cp c d) u v := by
  simp [sets, cc, cp, zc, Sun.sc]

theorem Is.lead {W : World} {D : Array Value} {c : Cg} (h : Is W D c) (n : Int) : Is W (D.setIfInBounds 8 (.int .i64 n)) (cl c n) := by
  obtain ⟨u, v, rfl, hu, hv⟩ := h
  exact ⟨u, v, cc_lead c u v n, hu, hv⟩

theorem Is.floors {W : World} {D : Array Value} {c : Cg} (h : Is W D c) (n : Int) : Is W (D.setIfInBounds 0 (.int .i64 n)) (cf c n) := by
  obtain ⟨u, v, rfl, hu, hv⟩ := h
  exact ⟨u, v, cc_floors c u v n, hu, hv⟩

theorem Is.place {W : World} {D : Array Value} {c : Cg} (h : Is W D c) (d : Cg) : Is W (sets (sets D 13 (zc d.z).toList) 23 (Sun.sc d.s).toList) (cp c d) := by
  obtain ⟨u, v, rfl, hu, hv⟩ := h
  exact ⟨u, v, cc_place c d u v, hu, hv⟩

end Go.Proofs.YtpkjbcgmhkkfiaaGreatDoor.Conf

/- A window that is appended to a row of its own, and what is kept by that. Conditions: as each theorem states. -/
namespace Go.Proofs.YtpkjbcgmhkkfiaaGreatDoor.Conf
open Go.ChangeShapes Go.WideShapes Go.ChangeAt Go.RowKit
open Go.Proofs.YtpkjbcgmhkkfiaaGreatDoor.Divs Go.Proofs.YtpkjbcgmhkkfiaaGreatDoor.Grow Go.Proofs.YtpkjbcgmhkkfiaaGreatDoor.Zone
open Go.Proofs.YtpkjbcgmhkkfiaaGreatDoor.By (Sk SL bool_no bool_yes)
open Go.Proofs.YtpkjbcgmhkkfiaaGreatDoor.Each
open Go.Proofs.YtpkjbcgmhkkfiaaGreatDoor.Zo Go.Proofs.YtpkjbcgmhkkfiaaGreatDoor.Su Go.Proofs.YtpkjbcgmhkkfiaaGreatDoor.Cf

theorem grown_same (w : World) (r : Option Nat) : w.grownBy w r := ⟨rfl, rfl, rfl, Nat.le_refl _, fun _ _ _ => rfl⟩

theorem append_wins_g {w : World} {ops : Array Oper} {rest : List Oper} {o : Oper} {a : Act} {Q : Exit → Act → World → Prop} (hgd : o.guard = none) (s x : Operand)
    (ho : o.op = .call { callee := .builtin .append, args := #[s, x], argTypes := #[31, 31] })
    (B : Nat) (hB : B ≤ w.heap.size) (v : Value) (xs : List Wn) (hs : a.eval s = v) (hown : WL w B v xs)
    (u : Value) (ys : List Wn) (hx : a.eval x = u) (hy : Wk w u ys) (hb : xs.length + ys.length ≤ 100000)
    (h : ∀ v' w', WL w' B v' (xs ++ ys) → w.grownBy w' v.ownBlock → wpList Tryz.prog ops Q rest (a.put o.dst v') w') : wpList Tryz.prog ops Q (o :: rest) a w := by
  obtain ⟨i0, hi, hz0, hz1, hz2⟩ := info_parts info_win
  rcases hy.src with ⟨rfl, rfl⟩ | ⟨ad, cap, rfl, hc⟩
  · refine wpList_append_own_none hgd s x 31 ho B 58 i0 7 Tryz.underlying31 hi v _ _ hs hown hx ?_
    exact h v w (by rw [List.append_nil]; exact hown) (grown_same _ _)
  · refine wpList_append_own w hgd s x 31 ho B 58 i0 _ 7 56 Tryz.underlying31 hi hz0 hz1 hz2 rfl (by decide) v _ _ hs hown ad ys.length cap (fl ys) hx (fl_len ys) hc (fl_cell ys) (by simp only [maxLen]; omega) (by omega) hB ?_
    intro v' w' h1 h2 _
    refine h v' w' ?_ h2
    unfold WL
    rw [List.length_append, fl_app]
    exact h1

theorem own_row {W : World} {b : Nat} {e : TypeId} {n m : Nat} {v : Value} {xs : List Value} (h : W.ownsRow b e n v m xs) {g : Nat} (hv : v.ownBlock = some g) : ∃ cur, Row g e cur W := by
  rcases h.2 with ⟨rfl, _⟩ | ⟨g', cap, cur, rfl, h1, h2, h3⟩
  · simp [Value.ownBlock] at hv
  · simp only [Value.ownBlock, Option.some.injEq] at hv
    subst hv
    exact ⟨cur, h2⟩

theorem row_apart {W : World} {g : Nat} {t t' : TypeId} {cs cs' : Array Value} (h : Row g t cs W) (h' : Row g t' cs' W) : t = t' := by
  unfold Row at h h'
  rw [h] at h'
  simp only [Option.some.injEq, Obj.cells.injEq] at h'
  exact h'.2.1

theorem own_apart {W : World} {b : Nat} {e : TypeId} {n m : Nat} {v : Value} {xs : List Value} (h : W.ownsRow b e n v m xs) {g : Nat} {t : TypeId} {cs : Array Value} (hR : Row g t cs W) (ht : t ≠ e) : some g ≠ v.ownBlock := by
  intro hv
  obtain ⟨cur, hr⟩ := own_row h hv.symm
  exact ht (row_apart hR hr)

theorem Row.grown {B : Nat} {t : TypeId} {cs : Array Value} {W W' : World} {r : Option Nat} (h : Row B t cs W) (g : W.grownBy W' r) (hn : some B ≠ r) : Row B t cs W' := (g.block B h.lt hn).trans h

theorem owns_grown {W W' : World} {b : Nat} {e : TypeId} {n m : Nat} {v : Value} {xs : List Value} {r : Option Nat} (h : W.ownsRow b e n v m xs) (g : W.grownBy W' r) (hn : ∀ k, v.ownBlock = some k → some k ≠ r) : W'.ownsRow b e n v m xs := by
  refine ⟨h.1, ?_⟩
  rcases h.2 with h | ⟨g', cap, cur, rfl, h1, h2, h3⟩
  · exact .inl h
  · exact .inr ⟨g', cap, cur, rfl, h1, Row.grown h2 g (hn g' rfl), h3⟩

theorem owns_set' {W : World} {b : Nat} {e : TypeId} {n m : Nat} {v : Value} {xs : List Value} (h : W.ownsRow b e n v m xs) {A : Nat} (hn : some A ≠ v.ownBlock) (i : Nat) (y : Value) : (W.setCell ⟨A, i, none⟩ y).ownsRow b e n v m xs := by
  refine ⟨h.1, ?_⟩
  rcases h.2 with h | ⟨g', cap, cur, rfl, h1, h2, h3⟩
  · exact .inl h
  · refine .inr ⟨g', cap, cur, rfl, h1, ?_, h3⟩
    rw [heap_set_other _ _ _ _ _ (fun e => hn (by rw [← e]; rfl))]
    exact h2

theorem wk_new (W : World) (x : Wn) (g : Nat) (hg : g = W.heap.size) : Wk (W.alloc (.cells (wc x).toArray 58)) (.slice (some ⟨g, 0, none⟩) 1 1) [x] := by
  refine ⟨_, 1, rfl, by simp, by decide, by simp, fun i y hy => ⟨_, 0, rfl, ?_⟩⟩
  rw [Nat.zero_add]
  rw [fl_one] at hy
  exact (row_new' _ _ _ _ hg).cell i (by simpa using hy)

theorem cc_wins (c : Cg) (u v v' : Value) (l : List Wn) : (cc c u v).setIfInBounds 36 v' = cc (cw c l) u v' := by simp [cc, cw]

theorem cc_stops (c : Cg) (u v u' : Value) (l : List Int) : (cc c u v).setIfInBounds 3 u' = cc (ct c l) u' v := by simp [cc, ct]

/-- A configuration's windows are appended to, and it is given the row. -/
theorem append_done {w0 W w6 : World} {B gD : Nat} {F : Array Value} {c : Cg} {u v v' : Value} {xs l : List Wn} (hF : F = cc c u v) (hs : SL .i64 3 W B u c.st) (hw : WL W B v xs) (hR : Row gD 33 F W) (hL : Later w0 W) (hB : B = w0.heap.size) (hD : B ≤ gD) (hv : WL w6 B v' l) (hg : W.grownBy w6 v.ownBlock) :
    Row gD 33 F w6 ∧ Row gD 33 (F.setIfInBounds 36 v') (w6.setCell ⟨gD, 36, none⟩ v') ∧ Own (w6.setCell ⟨gD, 36, none⟩ v') B (F.setIfInBounds 36 v') (cw c l) ∧ Later w0 (w6.setCell ⟨gD, 36, none⟩ v') := by
  have hR6 : Row gD 33 F w6 := hR.grown hg (own_apart hw hR (by decide))
  have hs6 : SL .i64 3 w6 B u c.st := owns_grown hs hg (fun k hk => by
    obtain ⟨cur, hr⟩ := own_row hs hk
    exact own_apart hw hr (by decide))
  subst hB
  refine ⟨hR6, hR6.set 36 v', ⟨u, v', by rw [hF]; exact cc_wins c u v v' l, ?_, ?_⟩, (win_grown hL hw hg).setCell hD _⟩
  · exact owns_set' hs6 (own_apart hs6 hR6 (by decide)) _ _
  · exact owns_set' hv (own_apart hv hR6 (by decide)) _ _

end Go.Proofs.YtpkjbcgmhkkfiaaGreatDoor.Conf

/- Places: slices of pointers to numbers, what numbersAt reads there and putNumbers writes there. Conditions: as each theorem states. -/
namespace Go.Proofs.YtpkjbcgmhkkfiaaGreatDoor.Cod
set_option maxRecDepth 100000
open Go.ChangeShapes Go.WideShapes Go.ChangeAt Go.RowKit
open Go.Proofs.YtpkjbcgmhkkfiaaGreatDoor.Divs Go.Proofs.YtpkjbcgmhkkfiaaGreatDoor.Grow Go.Proofs.YtpkjbcgmhkkfiaaGreatDoor.Zone
open Go.Proofs.YtpkjbcgmhkkfiaaGreatDoor.By (Sk SL)
open Go.Proofs.YtpkjbcgmhkkfiaaGreatDoor.Zo Go.Proofs.YtpkjbcgmhkkfiaaGreatDoor.Su Go.Proofs.YtpkjbcgmhkkfiaaGreatDoor.Cf Go.Proofs.YtpkjbcgmhkkfiaaGreatDoor.Conf

/-- w' is w, but for the block B, with new blocks behind. -/
def But (B : Nat) (w w' : World) : Prop := (w'.os = w.os ∧ w'.tape = w.tape) ∧ w'.output = w.output ∧ w.heap.size ≤ w'.heap.size ∧ ∀ k, k < w.heap.size → k ≠ B → w'.heap[k]? = w.heap[k]?

theorem But.refl (B : Nat) (w : World) : But B w w := ⟨⟨rfl, rfl⟩, rfl, Nat.le_refl _, fun _ _ _ => rfl⟩

theorem But.trans {B : Nat} {a b c : World} (h : But B a b) (k : But B b c) : But B a c :=
  ⟨⟨k.1.1.trans h.1.1, k.1.2.trans h.1.2⟩, k.2.1.trans h.2.1, Nat.le_trans h.2.2.1 k.2.2.1, fun i hi hb => (k.2.2.2 i (Nat.lt_of_lt_of_le hi h.2.2.1) hb).trans (h.2.2.2 i hi hb)⟩

theorem But.of_later {B : Nat} {a b : World} (h : Later a b) : But B a b := ⟨h.1, h.2.1, h.2.2.1, fun k hk _ => h.2.2.2 k hk⟩

theorem But.size {B : Nat} {a b : World} (h : But B a b) : a.heap.size ≤ b.heap.size := h.2.2.1

theorem But.later {B : Nat} {x a b : World} (h : But B a b) (g : Later x a) (hB : x.heap.size ≤ B) : Later x b :=
  ⟨⟨h.1.1.trans g.1.1, h.1.2.trans g.1.2⟩, h.2.1.trans g.2.1, Nat.le_trans g.2.2.1 h.2.2.1, fun k hk => (h.2.2.2 k (Nat.lt_of_lt_of_le hk g.2.2.1) (by omega)).trans (g.2.2.2 k hk)⟩

theorem But.cell {B : Nat} {a b : World} (h : But B a b) {g o : Nat} {v : Value} (hg : g ≠ B) (hc : a.cell? ⟨g, o, none⟩ = some v) : b.cell? ⟨g, o, none⟩ = some v :=
  (World.cell?_of_block (w := a) (h.2.2.2 g (World.block_lt_of_cell? _ _ hc) hg)).trans hc

theorem But.row {B g : Nat} {t : TypeId} {cs : Array Value} {a b : World} (h : But B a b) (hg : g ≠ B) (hr : Row g t cs a) : Row g t cs b :=
  (h.2.2.2 g hr.lt hg).trans hr

theorem But.set {B : Nat} (w : World) (i : Nat) (y : Value) : But B w (w.setCell ⟨B, i, none⟩ y) := by
  refine ⟨⟨rfl, rfl⟩, rfl, by simp [World.setCell], fun k _ hb => ?_⟩
  simp [World.setCell, Array.getElem?_modify, Ne.symm hb]

/-- The pointer to a place. -/
def pv (p : Nat × Nat) : Value := .pointer (some ⟨p.1, p.2, none⟩)

/-- v is a slice of pointers to these places, laid since the world had n blocks. -/
def Ps (n : Nat) (W : World) (v : Value) (ps : List (Nat × Nat)) : Prop :=
  ∃ g cap, v = .slice (some ⟨g, 0, none⟩) ps.length cap ∧ ps.length ≤ 100 ∧ n ≤ g ∧ ∀ (i : Nat) (p : Nat × Nat), ps[i]? = some p → W.cell? ⟨g, i, none⟩ = some (pv p)

theorem Ps.later {n : Nat} {W W' : World} {v : Value} {ps : List (Nat × Nat)} (h : Ps n W v ps) (g : Later W W') : Ps n W' v ps := by
  obtain ⟨k, cap, rfl, h1, h2, h3⟩ := h
  exact ⟨k, cap, rfl, h1, h2, fun i p hp => gsome g (h3 i p hp)⟩

theorem Ps.base {n m : Nat} {W : World} {v : Value} {ps : List (Nat × Nat)} (h : Ps n W v ps) (hm : m ≤ n) : Ps m W v ps := by
  obtain ⟨k, cap, rfl, h1, h2, h3⟩ := h
  exact ⟨k, cap, rfl, h1, Nat.le_trans hm h2, h3⟩

/-- Numbers that are 0. -/
def zi (n : Nat) : List Value := List.replicate n (.int .i64 0)

theorem make_ints (n : Nat) (h : n ≤ 100000) : ∀ W : World, (Instr.makeSlice 22 (.int .i64 (n : Int)) (.int .i64 (n : Int))).run Tryz.prog W = .ok (.slice (some ⟨W.heap.size, 0, none⟩) n n) (W.alloc (.cells (zi n).toArray 3)) := by
  intro W
  obtain ⟨i0, hi, hz0, hz1, hz2⟩ := info_parts By.info_int
  have := run_make (P := Tryz.prog) W 22 3 i0 (.int .i64 0) Tryz.underlying22 hi hz0 .i64 .i64 n n (by omega) (by omega) (by rw [hz2]; omega) (by omega)
  rw [hz1] at this
  rw [this]
  have e : madeCells (Value.int .i64 0).cells ((n : Int).toNat * 1) = (zi n).toArray := by
    rw [show (n : Int).toNat * 1 = n by simp]
    apply Array.ext'
    rw [show (Value.int .i64 0).cells = #[.int .i64 0] from rfl, toList_madeCells_one]
    rfl
  rw [e]
  simp

def NRel (xs : List Int) (g : Nat) (w : World) (i : Value) (wr : World) : Prop :=
  ∃ (j : Nat) (cs : Array Value), j ≤ xs.length ∧ i = .int .i64 (j : Int) ∧ Row g 3 cs wr ∧ cs.size = xs.length ∧ (∀ k, k < j → cs[k]? = some (.int .i64 (xs.getD k 0))) ∧ Later w wr

theorem set_on {xs : List Int} {cs : Array Value} {j : Nat} (hs : cs.size = xs.length) (hj : j < xs.length) (h : ∀ k, k < j → cs[k]? = some (.int .i64 (xs.getD k 0))) :
    ∀ k, k < j + 1 → (cs.setIfInBounds j (.int .i64 (xs.getD j 0)))[k]? = some (.int .i64 (xs.getD k 0)) := by
  intro k hk
  by_cases e : k = j
  · subst e
    simp [hs, hj]
  · rw [Array.getElem?_setIfInBounds_ne (by omega)]
    exact h k (by omega)

theorem sl_row {W : World} {g b : Nat} {cs : Array Value} {xs : List Int} (h : Row g 3 cs W) (hz : cs.size = xs.length) (hd : ∀ k, k < xs.length → cs[k]? = some (.int .i64 (xs.getD k 0))) (hn : xs.length ≤ 100) (hb : b ≤ g := by exact Nat.le_refl _) :
    SL .i64 3 W b (.slice (some ⟨g, 0, none⟩) xs.length xs.length) xs := by
  refine ⟨by simp, .inr ⟨g, xs.length, cs, rfl, hb, h, Nat.le_refl _, by simp only [maxLen]; omega, by omega, ?_⟩⟩
  rw [Nat.mul_one, List.take_of_length_le (by simp [hz])]
  apply List.ext_getElem?
  intro k
  by_cases hk : k < xs.length
  · have e := hd k hk
    rw [List.getD_eq_getElem?_getD, List.getElem?_eq_getElem hk] at e
    simpa [hk] using e
  · rw [List.getElem?_eq_none (by simp [hz]; omega), List.getElem?_eq_none (by simp; omega)]

set_option maxHeartbeats 1000000 in
theorem numbers_any (ps : List (Nat × Nat)) (xs : List Int) (n : Nat) (v : Value) (w : World) (hv : Ps n w v ps) (hl : ps.length = xs.length) (hc : ∀ i p, ps[i]? = some p → w.cell? ⟨p.1, p.2, none⟩ = some (.int .i64 (xs.getD i 0))) :
    Calls Tryz.prog 37 #[v] w fun e w' => ∃ u, e = .returned u ∧ SL .i64 3 w' w.heap.size u xs ∧ Later w w' := by
  obtain ⟨bp, cap, rfl, hn, hb, hp⟩ := hv
  rw [hl] at hn ⊢
  have mk := make_ints xs.length (by omega)
  have HP := Lib.hid hp
  have HC := Lib.hid hc
  have HL := Lib.hid hl
  have HN := Lib.hid hn
  clear hp hc hl hb
  go_enter Tryz.func37, Tryz.ntmps37
  go_wp2_with fail
  go_loopw [11] (fun i wr => NRel xs w.heap.size w i wr) (fun i _ => xs.length - (intOf i).toNat)
  case atStart => exact ⟨0, (zi xs.length).toArray, by omega, rfl, heap_alloc_new _ _, by simp [zi], fun k hk => absurd hk (by omega), (Later.refl w).alloc _ _⟩
  case round =>
    obtain ⟨j, cs, hj, rfl, hr, hsz, hd, hg⟩ := hrel
    have HR := Lib.hid hr
    have HG := Lib.hid hg
    have HD := Lib.hid hd
    have HZ := Lib.hid hsz
    clear hr hg hd hsz
    by_cases hlt : j < xs.length
    · obtain ⟨⟨pb, po⟩, hp⟩ : ∃ p, ps[j]? = some p := ⟨_, List.getElem?_eq_getElem (by rw [HL.out]; exact hlt)⟩
      obtain ⟨x, hx⟩ : ∃ x, x = xs.getD j 0 := ⟨_, rfl⟩
      have c1 : wr.cell? ⟨bp, j, none⟩ = some (.pointer (some ⟨pb, po, none⟩)) := gsome HG.out (HP.out j _ hp)
      have c2 : wr.cell? ⟨pb, po, none⟩ = some (.int .i64 x) := by rw [hx]; exact gsome HG.out (HC.out j _ hp)
      have c3 : wr.cell? ⟨w.heap.size, j, none⟩ = some (cs[j]'(by rw [HZ.out]; exact hlt)) := HR.out.cell j (Array.getElem?_eq_getElem _)
      have f3 := HR.out.frozen j
      generalize cs[j]'(by rw [HZ.out]; exact hlt) = y at c3
      have HX := Lib.hid hlt
      have HE := Lib.hid hx
      clear hp hx
      go_wp2_with fail
      go_roundw
      case rel => exact ⟨j + 1, cs.setIfInBounds j (.int .i64 x), by omega, by go_num, HR.out.set j _, by rw [Array.size_setIfInBounds]; exact HZ.out, by rw [HE.out]; exact set_on HZ.out HX.out HD.out, HG.out.setCell (Nat.le_refl _) _⟩
      case measure => simp [intOf]; omega
    · obtain rfl : j = xs.length := by omega
      go_wp2_with fail
      go_ret
      exact ⟨_, rfl, sl_row HR.out HZ.out HD.out HN.out, HG.out⟩

/-- These numbers laid at these places, one behind the other. -/
def sw (w : World) (ps : List (Nat × Nat)) (xs : List Int) : Nat → World
  | 0 => w
  | k + 1 => (sw w ps xs k).setCell ⟨(ps.getD k (0, 0)).1, (ps.getD k (0, 0)).2, none⟩ (.int .i64 (xs.getD k 0))

theorem sw_keeps (w : World) (ps : List (Nat × Nat)) (xs : List Int) (k : Nat) (b : Nat) (h : ∀ i, i < k → (ps.getD i (0, 0)).1 ≠ b) : (sw w ps xs k).heap[b]? = w.heap[b]? := by
  induction k with
  | zero => rfl
  | succ j ih =>
    rw [sw, ← ih (fun i hi => h i (by omega))]
    exact Below.heap_setCell _ _ _ _ (fun e => h j (by omega) e.symm)

theorem sw_there (w : World) (ps : List (Nat × Nat)) (xs : List Int) (k : Nat) (a : Addr) (h : ∃ y, w.cell? a = some y) : ∃ y, (sw w ps xs k).cell? a = some y := by
  induction k with
  | zero => exact h
  | succ j ih =>
    obtain ⟨y, hy⟩ := ih
    rw [sw]
    by_cases e : a = ⟨(ps.getD j (0, 0)).1, (ps.getD j (0, 0)).2, none⟩
    · rw [e] at hy ⊢
      exact ⟨_, World.cell?_setCell_same _ _ _ hy⟩
    · exact ⟨y, by rw [World.cell?_setCell_other (h := fun x => e x.symm)]; exact hy⟩

theorem sw_frozen (w : World) (ps : List (Nat × Nat)) (xs : List Int) (k : Nat) (a : Addr) : (sw w ps xs k).frozen? a = w.frozen? a := by
  induction k with
  | zero => rfl
  | succ j ih => rw [sw, World.frozen?_setCell, ih]

theorem put_no (ps : List (Nat × Nat)) (xs : List Int) (n : Nat) (v u e0 : Value) (w : World) (hv : Ps n w v ps) (hu : Sk .i64 w u xs) (hl : ps.length ≠ xs.length) (he : w.cell? ⟨0, 0, none⟩ = some e0) :
    Calls Tryz.prog 101 #[v, u] w fun e w' => e = .returned e0 ∧ w = w' := by
  obtain ⟨bp, cap, rfl, hn, hb, hp⟩ := hv
  obtain ⟨ad, cap', rfl, hm⟩ := hu.len
  have t : ((xs.length : Int) != (ps.length : Int)) = true := by
    have : ¬ (xs.length : Int) = (ps.length : Int) := by omega
    simpa using this
  clear hu hp hl
  go_enter Tryz.func101, Tryz.ntmps101
  go_wp2_with fail
  go_ret
  exact ⟨rfl, rfl⟩

def URel (ps : List (Nat × Nat)) (xs : List Int) (w : World) (i : Value) (wr : World) : Prop := ∃ j : Nat, j ≤ xs.length ∧ i = .int .i64 (j : Int) ∧ wr = sw w ps xs j

set_option maxHeartbeats 1000000 in
theorem put_yes (ps : List (Nat × Nat)) (xs : List Int) (bp cp br off cr : Nat) (w : World) (hl : ps.length = xs.length) (hn : xs.length ≤ 100)
    (hp : ∀ i p, ps[i]? = some p → w.cell? ⟨bp, i, none⟩ = some (pv p) ∧ (∃ y, w.cell? ⟨p.1, p.2, none⟩ = some y) ∧ w.frozen? ⟨p.1, p.2, none⟩ = false ∧ p.1 ≠ bp ∧ p.1 ≠ br)
    (hx : ∀ i, i < xs.length → w.cell? ⟨br, off + i, none⟩ = some (.int .i64 (xs.getD i 0))) :
    Calls Tryz.prog 101 #[.slice (some ⟨bp, 0, none⟩) ps.length cp, .slice (some ⟨br, off, none⟩) xs.length cr] w fun e w' => e = .returned .nilIface ∧ w' = sw w ps xs xs.length := by
  rw [hl]
  have t : ((xs.length : Int) != (xs.length : Int)) = false := by simp
  have HP := Lib.hid hp
  have HX := Lib.hid hx
  have HL := Lib.hid hl
  have KP : Hid (∀ j, j ≤ xs.length → (sw w ps xs j).heap[bp]? = w.heap[bp]?) := Lib.hid (fun j hj => sw_keeps w ps xs j bp (fun i hi => by
    rw [List.getD_eq_getElem?_getD, List.getElem?_eq_getElem (show i < ps.length by omega)]
    exact (hp i _ (List.getElem?_eq_getElem (show i < ps.length by omega))).2.2.2.1))
  have KR : Hid (∀ j, j ≤ xs.length → (sw w ps xs j).heap[br]? = w.heap[br]?) := Lib.hid (fun j hj => sw_keeps w ps xs j br (fun i hi => by
    rw [List.getD_eq_getElem?_getD, List.getElem?_eq_getElem (show i < ps.length by omega)]
    exact (hp i _ (List.getElem?_eq_getElem (show i < ps.length by omega))).2.2.2.2))
  clear hp hx hl
  go_enter Tryz.func101, Tryz.ntmps101
  go_wp2_with fail
  go_loopw [15] (fun i wr => URel ps xs w i wr) (fun i _ => xs.length - (intOf i).toNat)
  case atStart => exact ⟨0, by omega, rfl, rfl⟩
  case round =>
    obtain ⟨j, hj, rfl, hw⟩ := hrel
    by_cases hlt : j < xs.length
    · obtain ⟨⟨pb, po⟩, hp⟩ : ∃ p, ps[j]? = some p := ⟨_, List.getElem?_eq_getElem (by rw [HL.out]; exact hlt)⟩
      obtain ⟨q1, q2, q3, q4, q5⟩ := HP.out j _ hp
      have hgd : ps.getD j (0, 0) = (pb, po) := by rw [List.getD_eq_getElem?_getD, hp]; rfl
      have c1 : wr.cell? ⟨bp, j, none⟩ = some (.pointer (some ⟨pb, po, none⟩)) := by rw [hw]; exact (World.cell?_of_block (w := w) (KP.out j hj)).trans q1
      obtain ⟨x, hx⟩ : ∃ x, x = xs.getD j 0 := ⟨_, rfl⟩
      have c2 : wr.cell? ⟨br, off + j, none⟩ = some (.int .i64 x) := by rw [hw, hx]; exact (World.cell?_of_block (w := w) (KR.out j hj)).trans (HX.out j hlt)
      obtain ⟨y, c3⟩ : ∃ y, wr.cell? ⟨pb, po, none⟩ = some y := by rw [hw]; exact sw_there w ps xs j _ q2
      have f3 : wr.frozen? ⟨pb, po, none⟩ = false := by rw [hw, sw_frozen]; exact q3
      have HW := Lib.hid hw
      have HD := Lib.hid hgd
      have HE := Lib.hid hx
      clear hp q1 q2 q3 q4 q5 hw hgd hx
      go_wp2_with fail
      go_roundw
      case rel => exact ⟨j + 1, by omega, by go_num, by rw [sw, HD.out, ← HW.out, HE.out]⟩
      case measure => simp [intOf]; omega
    · obtain rfl : j = xs.length := by omega
      go_wp2_with fail
      go_ret
      exact ⟨rfl, rfl⟩

end Go.Proofs.YtpkjbcgmhkkfiaaGreatDoor.Cod

/- Where the numbers of each row stand: what the functions that list places answer. Conditions: as each theorem states. -/
namespace Go.Proofs.YtpkjbcgmhkkfiaaGreatDoor.Cod
set_option maxRecDepth 100000
open Go.ChangeShapes Go.WideShapes Go.ChangeAt Go.RowKit
open Go.Proofs.YtpkjbcgmhkkfiaaGreatDoor.Divs Go.Proofs.YtpkjbcgmhkkfiaaGreatDoor.Grow Go.Proofs.YtpkjbcgmhkkfiaaGreatDoor.Zone
open Go.Proofs.YtpkjbcgmhkkfiaaGreatDoor.By (Sk SL)
open Go.Proofs.YtpkjbcgmhkkfiaaGreatDoor.Zo Go.Proofs.YtpkjbcgmhkkfiaaGreatDoor.Su Go.Proofs.YtpkjbcgmhkkfiaaGreatDoor.Cf Go.Proofs.YtpkjbcgmhkkfiaaGreatDoor.Conf

theorem ps_new (w : World) (ps : List (Nat × Nat)) (h : ps.length ≤ 100) : Ps w.heap.size (w.alloc (.cells (ps.map pv).toArray 75)) (.slice (some ⟨w.heap.size, 0, none⟩) ps.length ps.length) ps := by
  refine ⟨_, _, rfl, h, Nat.le_refl _, fun i p hp => ?_⟩
  rw [World.cell?_alloc_new]
  simp [hp]

theorem places_building (B M : Nat) (w : World) : Calls Tryz.prog 38 #[.pointer (some ⟨B, 0, none⟩), .pointer (some ⟨M, 0, none⟩)] w fun e w' => ∃ u, e = .returned u ∧ Ps w.heap.size w' u [(B, 0), (B, 1), (B, 2), (B, 11), (B, 12), (M, 0)] ∧ Later w w' := by
  go_enter Tryz.func38, Tryz.ntmps38
  go_wp2_with fail
  go_region
  go_wp2_with fail
  go_ret
  exact ⟨_, rfl, ps_new w [(B, 0), (B, 1), (B, 2), (B, 11), (B, 12), (M, 0)] (by simp), (Later.refl w).alloc _ _⟩

theorem places_times (B : Nat) (w : World) : Calls Tryz.prog 39 #[.pointer (some ⟨B, 4, none⟩)] w fun e w' => ∃ u, e = .returned u ∧ Ps w.heap.size w' u [(B, 4), (B, 5), (B, 6), (B, 7), (B, 8), (B, 9), (B, 10)] ∧ Later w w' := by
  go_enter Tryz.func39, Tryz.ntmps39
  go_wp2_with fail
  go_region
  go_wp2_with fail
  go_ret
  exact ⟨_, rfl, ps_new w [(B, 4), (B, 5), (B, 6), (B, 7), (B, 8), (B, 9), (B, 10)] (by simp), (Later.refl w).alloc _ _⟩

theorem places_zone (B : Nat) (w : World) : Calls Tryz.prog 40 #[.pointer (some ⟨B, 13, none⟩)] w fun e w' => ∃ u, e = .returned u ∧ Ps w.heap.size w' u [(B, 13), (B, 14), (B, 15), (B, 16), (B, 17), (B, 18), (B, 19), (B, 20), (B, 21), (B, 22)] ∧ Later w w' := by
  go_enter Tryz.func40, Tryz.ntmps40
  go_wp2_with fail
  go_region
  go_wp2_with fail
  go_ret
  exact ⟨_, rfl, ps_new w [(B, 13), (B, 14), (B, 15), (B, 16), (B, 17), (B, 18), (B, 19), (B, 20), (B, 21), (B, 22)] (by simp), (Later.refl w).alloc _ _⟩

theorem places_window (B : Nat) (w : World) : Calls Tryz.prog 66 #[.pointer (some ⟨B, 0, none⟩)] w fun e w' => ∃ u, e = .returned u ∧ Ps w.heap.size w' u [(B, 0), (B, 1), (B, 2), (B, 3), (B, 4), (B, 5), (B, 6)] ∧ Later w w' := by
  go_enter Tryz.func66, Tryz.ntmps66
  go_wp2_with fail
  go_region
  go_wp2_with fail
  go_ret
  exact ⟨_, rfl, ps_new w [(B, 0), (B, 1), (B, 2), (B, 3), (B, 4), (B, 5), (B, 6)] (by simp), (Later.refl w).alloc _ _⟩

theorem info_ptr : (Tryz.prog.info? 75).map (fun i => (i.zero, i.size, i.bytes)) = some (some (.pointer none), 1, 8) := by kernel_rfl

/-- Where the sunsets stand. -/
def sps (B : Nat) : List (Nat × Nat) := [(B, 23), (B, 24), (B, 25), (B, 26), (B, 27), (B, 28), (B, 29), (B, 30), (B, 31), (B, 32), (B, 33), (B, 34)]

theorem sps_get (B k : Nat) (hk : k < 12) : (sps B)[k]? = some (B, 23 + k) := by
  have : k = 0 ∨ k = 1 ∨ k = 2 ∨ k = 3 ∨ k = 4 ∨ k = 5 ∨ k = 6 ∨ k = 7 ∨ k = 8 ∨ k = 9 ∨ k = 10 ∨ k = 11 := by omega
  rcases this with rfl | rfl | rfl | rfl | rfl | rfl | rfl | rfl | rfl | rfl | rfl | rfl <;> rfl

def TRel (B : Nat) (w : World) (v i : Value) (wr : World) : Prop := ∃ k : Nat, k ≤ 12 ∧ i = .int .i64 (k : Int) ∧ wr.ownsRow w.heap.size 75 1 v k (((sps B).take k).map pv) ∧ Later w wr

theorem sps_on (B k : Nat) (hk : k < 12) : ((sps B).take (k + 1)).map pv = ((sps B).take k).map pv ++ [.pointer (some ⟨B, 23 + k, none⟩)] := by
  rw [List.take_add_one, sps_get B k hk, List.map_append]
  rfl

theorem owned_later {w a b : World} {e : TypeId} {n : Nat} {v : Value} {xs : List Value} {m : Nat} (g : Later w a) (f : a.ownsRow w.heap.size e m v n xs) (h : a.grownBy b v.ownBlock) : Later w b :=
  Later.of_below (g.below.grown h g.size (fun j e => (World.ownsRow.lt f j e).1))

theorem owned_kept {W W' : World} {e : TypeId} {b n m : Nat} {v : Value} {xs : List Value} (h : W.ownsRow b e m v n xs) (g : Later W W') : W'.ownsRow b e m v n xs :=
  World.ownsRow.kept h g.grownBy (by cases v.ownBlock <;> simp)

theorem ps_owned {w W : World} {v : Value} {ps : List (Nat × Nat)} (h : W.ownsRow w.heap.size 75 1 v ps.length (ps.map pv)) (hp : 0 < ps.length) (hn : ps.length ≤ 100) : Ps w.heap.size W v ps := by
  rcases h.2 with ⟨_, h0⟩ | ⟨g, cap, cur, rfl, h1, _⟩
  · omega
  · refine ⟨g, cap, rfl, hn, h1, fun i p hi => ?_⟩
    have c := World.ownsRow.cells h (g := g) rfl i (pv p) (by rw [List.getElem?_map, hi]; rfl)
    rwa [By.add_zero] at c

set_option maxHeartbeats 1000000 in
theorem places_sun (B : Nat) (w : World) : Calls Tryz.prog 41 #[.pointer (some ⟨B, 23, none⟩)] w fun e w' => ∃ u, e = .returned u ∧ Ps w.heap.size w' u (sps B) ∧ Later w w' := by
  obtain ⟨i0, hi, hz0, hz1, hz2⟩ := info_parts info_ptr
  have HI := Lib.hid hi
  have HZ0 := Lib.hid hz0
  have HZ1 := Lib.hid hz1
  have HZ2 := Lib.hid hz2
  clear hi hz0 hz1 hz2
  go_enter Tryz.func41, Tryz.ntmps41
  go_wp2_with fail
  go_loopw [3, 5] (fun v i wr => TRel B w v i wr) (fun _ i _ => 12 - (intOf i).toNat)
  case atStart => exact ⟨0, by omega, rfl, World.ownsRow_nil _ _ _ _, Later.refl _⟩
  case round =>
    obtain ⟨k, hk, rfl, ho, hg⟩ := hrel
    have HO := Lib.hid ho
    have HG := Lib.hid hg
    clear ho hg
    by_cases hlt : k < 12
    · have HK := Lib.hid hlt
      have hs := sps_on B k hlt
      have HS := Lib.hid hs
      clear hs
      go_wp2_with (at_builtin; go_loud (refine wpList_append_own _ rfl _ _ 72 rfl w.heap.size 75 i0 (.pointer none) 1 8 Tryz.underlying72 HI.out HZ0.out HZ1.out HZ2.out rfl (by decide) _ _ _ rfl (World.ownsRow.alloc HO.out _) ⟨wr.heap.size, 0, none⟩ 1 1 [.pointer (some ⟨B, 23 + k, none⟩)] rfl rfl (cell_one_new _ _ _) (by simp [Value.oneCell']) (by simp only [maxLen]; omega) (by omega) (by have := HG.out.size; simp only [World.size_alloc] at this ⊢; omega) ?_); go_loud (intro v' w4 hown' hgrow _; have HG4 := Lib.hid (owned_later (HG.out.put _) (owned_kept HO.out ((Later.refl _).put _)) hgrow); have HO4 : Hid (w4.ownsRow w.heap.size 75 1 v' (k + 1) (((sps B).take (k + 1)).map pv)) := Lib.hid (by rw [HS.out]; exact hown'); clear hown' hgrow))
      go_roundw
      case rel => exact ⟨k + 1, by omega, by go_num, HO4.out, HG4.out⟩
      case measure => simp [intOf]; omega
    · obtain rfl : k = 12 := by omega
      go_wp2_with fail
      go_ret
      exact ⟨_, rfl, ps_owned HO.out (by simp [sps]) (by simp [sps]), HG.out⟩

end Go.Proofs.YtpkjbcgmhkkfiaaGreatDoor.Cod

/- Plain numbers and bytes: a number's code, its digits by 128, the number that begins in bytes, rows of numbers; that what is put is got, and that what is got is put in just those bytes. No condition but those that each theorem states. -/
namespace Go.Proofs.YtpkjbcgmhkkfiaaGreatDoor.Wi

/-- A number's code. -/
def cd (n : Int) : Int := if 0 ≤ n then 2 * n else -2 * n - 1

/-- A code's number. -/
def nu (c : Int) : Int := if c % 2 = 1 then -1 - c / 2 else c / 2

theorem nu_cd (n : Int) : nu (cd n) = n := by
  unfold nu cd
  split <;> split <;> omega

theorem cd_nu (c : Int) (h : 0 ≤ c) : cd (nu c) = c := by
  unfold nu cd
  split <;> split <;> omega

theorem cd_nn (n : Int) : 0 ≤ cd n := by
  unfold cd
  split <;> omega

theorem cd_lt (n : Int) (h0 : -9223372036854775808 ≤ n) (h1 : n ≤ 9223372036854775807) : cd n < 18446744073709551616 := by
  unfold cd
  split <;> omega

/-- A code's bytes, at most f and one. -/
def dgs : Nat → Int → List Int
  | 0, c => [c]
  | f + 1, c => if 128 ≤ c then (c % 128 + 128) :: dgs f (c / 128) else [c]

/-- A number's bytes. -/
def pu (n : Int) : List Int := dgs 9 (cd n)

/-- What f digits and one more can hold. -/
def bd : Nat → Int
  | 0 => 2
  | f + 1 => 128 * bd f

theorem bd_nine : bd 9 = 18446744073709551616 := by decide

theorem dgs_pos (f : Nat) (c : Int) : 1 ≤ (dgs f c).length := by
  cases f with
  | zero => simp [dgs]
  | succ f => rw [dgs]; split <;> simp

theorem dgs_len (f : Nat) (c : Int) : (dgs f c).length ≤ f + 1 := by
  induction f generalizing c with
  | zero => simp [dgs]
  | succ f ih =>
    rw [dgs]
    split
    · have := ih (c / 128)
      simp; omega
    · simp

theorem dgs_byte (f : Nat) (c : Int) (h0 : 0 ≤ c) (h1 : c < bd f) : ∀ x ∈ dgs f c, 0 ≤ x ∧ x ≤ 255 := by
  induction f generalizing c with
  | zero =>
    intro x hx
    simp [dgs] at hx
    simp [bd] at h1
    omega
  | succ f ih =>
    intro x hx
    rw [dgs] at hx
    rw [bd] at h1
    split at hx
    · rcases List.mem_cons.1 hx with rfl | hx
      · omega
      · exact ih (c / 128) (by omega) (by omega) x hx
    · simp at hx
      omega

/-- The code whose bytes begin here, how many bytes it has, and an error; f more bytes may follow the first. -/
def gc : Nat → List Int → Int × Nat × Int
  | _, [] => (0, 0, 81)
  | f, x :: r =>
    if f = 0 ∧ 1 < x then (0, 0, 82)
    else if 128 ≤ x then (if (gc (f - 1) r).2.2 = 0 then (x - 128 + 128 * (gc (f - 1) r).1, (gc (f - 1) r).2.1 + 1, 0) else (0, 0, (gc (f - 1) r).2.2))
    else if f < 9 ∧ x = 0 then (0, 0, 82)
    else (x, 1, 0)

/-- What is put is got, whatever stands behind. -/
theorem gc_dgs (f : Nat) (c : Int) (t : List Int) (hf : f ≤ 9) (h0 : 0 ≤ c) (h1 : c < bd f) (hp : f < 9 → 0 < c) : gc f (dgs f c ++ t) = (c, (dgs f c).length, 0) := by
  induction f generalizing c with
  | zero =>
    simp only [bd] at h1
    have := hp (by omega)
    simp only [dgs, List.cons_append, List.nil_append, gc]
    rw [if_neg (by omega), if_neg (by omega), if_neg (by omega)]
    rfl
  | succ f ih =>
    rw [bd] at h1
    rw [dgs]
    by_cases h : 128 ≤ c
    · rw [if_pos h]
      have e := ih (c / 128) (by omega) (by omega) (by omega) (by omega)
      rw [List.cons_append, gc, if_neg (by omega), if_pos (by omega), show f + 1 - 1 = f from rfl, e]
      simp only [if_true, List.length_cons]
      rw [show c % 128 + 128 - 128 + 128 * (c / 128) = c by omega]
    · rw [if_neg h, List.cons_append, gc, if_neg (by omega), if_neg h, if_neg (by rintro ⟨a, b⟩; have := hp a; omega)]
      rfl

/-- What is got is put in just those bytes. -/
theorem dgs_gc (f : Nat) (bs : List Int) (hf : f ≤ 9) (hb : ∀ x ∈ bs, 0 ≤ x ∧ x ≤ 255) (he : (gc f bs).2.2 = 0) :
    0 ≤ (gc f bs).1 ∧ (gc f bs).1 < bd f ∧ (f < 9 → 0 < (gc f bs).1) ∧ 1 ≤ (gc f bs).2.1 ∧ (gc f bs).2.1 ≤ bs.length ∧ bs.take (gc f bs).2.1 = dgs f (gc f bs).1 := by
  induction bs generalizing f with
  | nil => simp [gc] at he
  | cons x r ih =>
    have hx := hb x (by simp)
    rw [gc] at he ⊢
    by_cases h1 : f = 0 ∧ 1 < x
    · rw [if_pos h1] at he; simp at he
    · rw [if_neg h1] at he ⊢
      by_cases h2 : 128 ≤ x
      · rw [if_pos h2] at he ⊢
        by_cases h3 : (gc (f - 1) r).2.2 = 0
        · rw [if_pos h3]
          obtain ⟨g, rfl⟩ : ∃ g, f = g + 1 := ⟨f - 1, by omega⟩
          rw [show g + 1 - 1 = g from rfl] at h3 ⊢
          obtain ⟨a, b, c, d, e, k⟩ := ih g (by omega) (fun y hy => hb y (by simp [hy])) h3
          refine ⟨?_, ?_, ?_, ?_, ?_, ?_⟩
          · show 0 ≤ x - 128 + 128 * (gc g r).1
            omega
          · show x - 128 + 128 * (gc g r).1 < 128 * bd g
            omega
          · intro _
            show 0 < x - 128 + 128 * (gc g r).1
            have := c (by omega)
            omega
          · show 1 ≤ (gc g r).2.1 + 1
            omega
          · show (gc g r).2.1 + 1 ≤ r.length + 1
            omega
          · show List.take ((gc g r).2.1 + 1) (x :: r) = dgs (g + 1) (x - 128 + 128 * (gc g r).1)
            have hp := c (by omega)
            rw [List.take_succ_cons, k, dgs, if_pos (by omega), show (x - 128 + 128 * (gc g r).1) % 128 + 128 = x by omega, show (x - 128 + 128 * (gc g r).1) / 128 = (gc g r).1 by omega]
        · rw [if_neg h3] at he
          exact absurd he h3
      · rw [if_neg h2] at he ⊢
        by_cases h3 : f < 9 ∧ x = 0
        · rw [if_pos h3] at he; simp at he
        · rw [if_neg h3]
          refine ⟨hx.1, ?_, ?_, Nat.le_refl _, by simp, ?_⟩
          · show x < bd f
            cases f with
            | zero => simp only [bd]; omega
            | succ f =>
              have : 2 ≤ bd f := by
                clear hf ih h1 h3 he
                induction f with
                | zero => simp [bd]
                | succ f ih => rw [bd]; omega
              rw [bd]; omega
          · intro hf9
            show 0 < x
            omega
          · show [x] = dgs f x
            cases f with
            | zero => rfl
            | succ f => rw [dgs, if_neg h2]

/-- An error comes with nothing. -/
theorem gc_err (f : Nat) (bs : List Int) (he : (gc f bs).2.2 ≠ 0) : (gc f bs).1 = 0 ∧ (gc f bs).2.1 = 0 := by
  cases bs with
  | nil => simp [gc]
  | cons x r =>
    rw [gc] at he ⊢
    split
    · simp
    · split
      · split
        · rename_i h1 h2 h3
          rw [if_neg h1, if_pos h2, if_pos h3] at he
          simp at he
        · simp
      · split
        · simp
        · rename_i h1 h2 h3
          rw [if_neg h1, if_neg h2, if_neg h3] at he
          simp at he

/-- Bytes that are cut end too early. -/
theorem gc_cut (f : Nat) (c : Int) (k : Nat) (hf : f ≤ 9) (h0 : 0 ≤ c) (h1 : c < bd f) (hk : k < (dgs f c).length) : gc f ((dgs f c).take k) = (0, 0, 81) := by
  induction f generalizing c k with
  | zero =>
    simp [dgs] at hk
    subst hk
    simp [dgs, gc]
  | succ f ih =>
    rw [bd] at h1
    rw [dgs] at hk ⊢
    by_cases h : 128 ≤ c
    · rw [if_pos h] at hk ⊢
      cases k with
      | zero => simp [gc]
      | succ k =>
        have e := ih (c / 128) k (by omega) (by omega) (by omega) (by simpa using hk)
        rw [List.take_succ_cons, gc, if_neg (by omega), if_pos (by omega), show f + 1 - 1 = f from rfl, e]
        simp
    · rw [if_neg h] at hk ⊢
      simp at hk
      subst hk
      simp [gc]

/-- An int. -/
def In (n : Int) : Prop := -9223372036854775808 ≤ n ∧ n ≤ 9223372036854775807

theorem gc_pu (n : Int) (t : List Int) (h : In n) : gc 9 (pu n ++ t) = (cd n, (pu n).length, 0) :=
  gc_dgs 9 (cd n) t (by omega) (cd_nn n) (by rw [bd_nine]; exact cd_lt n h.1 h.2) (by omega)

theorem pu_byte (n : Int) (h : In n) : ∀ x ∈ pu n, 0 ≤ x ∧ x ≤ 255 :=
  dgs_byte 9 (cd n) (cd_nn n) (by rw [bd_nine]; exact cd_lt n h.1 h.2)

theorem pu_len (n : Int) : (pu n).length ≤ 10 := dgs_len 9 (cd n)

theorem pu_pos (n : Int) : 1 ≤ (pu n).length := dgs_pos 9 (cd n)

theorem gc_pu_cut (n : Int) (k : Nat) (h : In n) (hk : k < (pu n).length) : gc 9 ((pu n).take k) = (0, 0, 81) :=
  gc_cut 9 (cd n) k (by omega) (cd_nn n) (by rw [bd_nine]; exact cd_lt n h.1 h.2) hk

/-- What Get answers: the number, the place behind it, the error. -/
def gN (bs : List Int) (p : Int) : Int := if 0 ≤ p ∧ p ≤ bs.length then (if (gc 9 (bs.drop p.toNat)).2.2 = 0 then nu (gc 9 (bs.drop p.toNat)).1 else 0) else 0

def gP (bs : List Int) (p : Int) : Int := if 0 ≤ p ∧ p ≤ bs.length then (if (gc 9 (bs.drop p.toNat)).2.2 = 0 then p + (gc 9 (bs.drop p.toNat)).2.1 else 0) else 0

def gE (bs : List Int) (p : Int) : Int := if 0 ≤ p ∧ p ≤ bs.length then (gc 9 (bs.drop p.toNat)).2.2 else 80

theorem g_ok (bs : List Int) (p : Int) (hb : ∀ x ∈ bs, 0 ≤ x ∧ x ≤ 255) (he : gE bs p = 0) :
    0 ≤ p ∧ p < gP bs p ∧ gP bs p ≤ bs.length ∧ (bs.drop p.toNat).take (gP bs p - p).toNat = pu (gN bs p) ∧ In (gN bs p) := by
  unfold gE at he
  by_cases h : 0 ≤ p ∧ p ≤ bs.length
  · rw [if_pos h] at he
    obtain ⟨a, b, _, d, e, k⟩ := dgs_gc 9 (bs.drop p.toNat) (by omega) (fun x hx => hb x (List.mem_of_mem_drop hx)) he
    have hP : gP bs p = p + (gc 9 (bs.drop p.toNat)).2.1 := by unfold gP; rw [if_pos h, if_pos he]
    have hN : gN bs p = nu (gc 9 (bs.drop p.toNat)).1 := by unfold gN; rw [if_pos h, if_pos he]
    rw [List.length_drop] at e
    rw [bd_nine] at b
    refine ⟨h.1, by omega, by omega, ?_, ?_⟩
    · rw [hP, hN, show (p + ((gc 9 (bs.drop p.toNat)).2.1 : Int) - p).toNat = (gc 9 (bs.drop p.toNat)).2.1 by omega, k]
      unfold pu
      rw [cd_nu _ a]
    · rw [hN]
      unfold nu In
      split <;> omega
  · rw [if_neg h] at he
    omega

theorem g_err (bs : List Int) (p : Int) (he : gE bs p ≠ 0) : gN bs p = 0 ∧ gP bs p = 0 := by
  unfold gE at he
  unfold gN gP
  by_cases h : 0 ≤ p ∧ p ≤ bs.length
  · rw [if_pos h] at he ⊢
    rw [if_pos h, if_neg he, if_neg he]
    exact ⟨rfl, rfl⟩
  · rw [if_neg h, if_neg h]
    exact ⟨rfl, rfl⟩

theorem g_at (bs : List Int) (k : Nat) (n : Int) (t : List Int) (h : In n) (hk : k ≤ bs.length) (e : bs.drop k = pu n ++ t) :
    gE bs k = 0 ∧ gN bs k = n ∧ gP bs k = k + (pu n).length := by
  have g := gc_pu n t h
  unfold gE gN gP
  have hp : (0 : Int) ≤ (k : Int) ∧ (k : Int) ≤ bs.length := by omega
  rw [if_pos hp, if_pos hp, if_pos hp, Int.toNat_natCast, e, g]
  simp [nu_cd]

theorem g_short (bs : List Int) (k : Nat) (n : Int) (j : Nat) (h : In n) (hk : k ≤ bs.length) (hj : j < (pu n).length) (e : bs.drop k = (pu n).take j) : gE bs k = 81 := by
  unfold gE
  rw [if_pos (by omega), Int.toNat_natCast, e, gc_pu_cut n j h hj]

/-- A row's bytes. -/
def ro (l : List Int) : List Int := pu l.length ++ l.flatMap pu

/-- So many numbers, from a place on: the numbers, the place behind them, the error. -/
def gn (bs : List Int) : Nat → Int → List Int × Int × Int
  | 0, p => ([], p, 0)
  | k + 1, p => if gE bs p = 0 then (if (gn bs k (gP bs p)).2.2 = 0 then (gN bs p :: (gn bs k (gP bs p)).1, (gn bs k (gP bs p)).2.1, 0) else ([], 0, (gn bs k (gP bs p)).2.2)) else ([], 0, gE bs p)

/-- What GetRow answers. -/
def grow (bs : List Int) (p m : Int) : List Int × Int × Int :=
  if gE bs p = 0 then (if 0 ≤ gN bs p ∧ gN bs p ≤ m then gn bs (gN bs p).toNat (gP bs p) else ([], 0, 83)) else ([], 0, gE bs p)

theorem gn_row (bs : List Int) (l : List Int) (k : Nat) (t : List Int) (hl : ∀ n ∈ l, In n) (hk : k ≤ bs.length) (e : bs.drop k = l.flatMap pu ++ t) :
    gn bs l.length k = (l, ((k : Int) + ((l.flatMap pu).length : Int)), 0) := by
  induction l generalizing k with
  | nil => simp [gn]
  | cons n l ih =>
    rw [List.flatMap_cons, List.append_assoc] at e
    obtain ⟨a, b, c⟩ := g_at bs k n _ (hl n (by simp)) hk e
    have hlen : (pu n).length ≤ (bs.drop k).length := by rw [e]; simp
    rw [List.length_drop] at hlen
    have d : bs.drop (k + (pu n).length) = l.flatMap pu ++ t := by
      rw [← List.drop_drop, e, List.drop_left]
    have i := ih (k + (pu n).length) (fun m hm => hl m (by simp [hm])) (by omega) d
    rw [List.length_cons, gn, if_pos a, b, c, show ((k : Int) + ((pu n).length : Int)) = ((k + (pu n).length : Nat) : Int) by omega, i]
    simp only [if_true, List.flatMap_cons, List.length_append]
    congr 2
    omega

theorem grow_row (l : List Int) (t : List Int) (m : Int) (hl : ∀ n ∈ l, In n) (hn : (l.length : Int) ≤ 9223372036854775807) (hm : (l.length : Int) ≤ m) :
    grow (ro l ++ t) 0 m = (l, ((ro l).length : Int), 0) := by
  have e0 : (ro l ++ t).drop 0 = pu l.length ++ (l.flatMap pu ++ t) := by simp [ro]
  obtain ⟨a, b, c⟩ := g_at (ro l ++ t) 0 l.length _ ⟨by omega, hn⟩ (by omega) e0
  rw [Int.natCast_zero] at a b c
  have d : (ro l ++ t).drop (0 + (pu l.length).length) = l.flatMap pu ++ t := by
    rw [← List.drop_drop, e0, List.drop_left]
  have hlen : 0 + (pu l.length).length ≤ (ro l ++ t).length := by simp [ro]
  have i := gn_row (ro l ++ t) l _ t hl hlen d
  unfold grow
  rw [if_pos a, b, c, if_pos (by omega), Int.toNat_natCast, show ((0 : Int) + ((pu l.length).length : Int)) = ((0 + (pu l.length).length : Nat) : Int) by omega, i]
  simp [ro]

theorem grow_many (l : List Int) (t : List Int) (m : Int) (hn : (l.length : Int) ≤ 9223372036854775807) (hm : m < (l.length : Int)) :
    grow (ro l ++ t) 0 m = ([], 0, 83) := by
  have e0 : (ro l ++ t).drop 0 = pu l.length ++ (l.flatMap pu ++ t) := by simp [ro]
  obtain ⟨a, b, _⟩ := g_at (ro l ++ t) 0 l.length _ ⟨by omega, hn⟩ (by omega) e0
  rw [Int.natCast_zero] at a b
  unfold grow
  rw [if_pos a, b, if_neg (by omega)]

theorem gn_cut (bs : List Int) (l : List Int) (k j : Nat) (hl : ∀ n ∈ l, In n) (hk : k ≤ bs.length) (hj : j < (l.flatMap pu).length) (e : bs.drop k = (l.flatMap pu).take j) :
    gn bs l.length k = ([], 0, 81) := by
  induction l generalizing k j with
  | nil => simp at hj
  | cons n l ih =>
    rw [List.flatMap_cons] at e hj
    rw [List.length_append] at hj
    have hn := hl n (by simp)
    rw [List.length_cons, gn]
    by_cases hlt : j < (pu n).length
    · have g := g_short bs k n j hn hk hlt (by rw [e, List.take_append_of_le_length (by omega)])
      rw [if_neg (by omega), g]
    · have e' : bs.drop k = pu n ++ (l.flatMap pu).take (j - (pu n).length) := by rw [e, List.take_append, List.take_of_length_le (by omega)]
      obtain ⟨a, b, c⟩ := g_at bs k n _ hn hk e'
      have hlen : (pu n).length ≤ (bs.drop k).length := by rw [e']; simp
      rw [List.length_drop] at hlen
      have d : bs.drop (k + (pu n).length) = (l.flatMap pu).take (j - (pu n).length) := by
        rw [← List.drop_drop, e', List.drop_left]
      have i := ih (k + (pu n).length) (j - (pu n).length) (fun m hm => hl m (by simp [hm])) (by omega) (by omega) d
      rw [if_pos a, c, show ((k : Int) + ((pu n).length : Int)) = ((k + (pu n).length : Nat) : Int) by omega, i]
      simp

theorem grow_cut (l : List Int) (j : Nat) (m : Int) (hl : ∀ n ∈ l, In n) (hn : (l.length : Int) ≤ 9223372036854775807) (hm : (l.length : Int) ≤ m) (hj : j < (ro l).length) :
    grow ((ro l).take j) 0 m = ([], 0, 81) := by
  have hi : In (l.length : Int) := ⟨by omega, hn⟩
  unfold grow
  by_cases hlt : j < (pu l.length).length
  · have g := g_short ((ro l).take j) 0 l.length j hi (by omega) hlt (by unfold ro; rw [List.drop_zero, List.take_append_of_le_length (by omega)])
    rw [Int.natCast_zero] at g
    rw [if_neg (by omega), g]
  · have e0 : ((ro l).take j).drop 0 = pu l.length ++ (l.flatMap pu).take (j - (pu l.length).length) := by
      unfold ro
      rw [List.drop_zero, List.take_append, List.take_of_length_le (by omega)]
    obtain ⟨a, b, c⟩ := g_at ((ro l).take j) 0 l.length _ hi (by omega) e0
    rw [Int.natCast_zero] at a b c
    have d : ((ro l).take j).drop (0 + (pu l.length).length) = (l.flatMap pu).take (j - (pu l.length).length) := by
      rw [← List.drop_drop, e0, List.drop_left]
    have hr : (ro l).length = (pu l.length).length + (l.flatMap pu).length := by unfold ro; rw [List.length_append]
    have hlen : 0 + (pu l.length).length ≤ ((ro l).take j).length := by rw [List.length_take]; omega
    have i := gn_cut ((ro l).take j) l _ _ hl hlen (by omega) d
    rw [if_pos a, b, c, if_pos (by omega), Int.toNat_natCast, show ((0 : Int) + ((pu l.length).length : Int)) = ((0 + (pu l.length).length : Nat) : Int) by omega, i]

/-- No number's bytes begin another one's. -/
theorem pu_apart (m n : Int) (hm : In m) (hn : In n) (k : Nat) (h : pu m = (pu n).take k) : m = n := by
  have e1 : pu n = pu m ++ (pu n).drop k := by rw [h, List.take_append_drop]
  have g1 := gc_pu n [] hn
  have g2 := gc_pu m ((pu n).drop k) hm
  rw [List.append_nil] at g1
  rw [← e1, g1] at g2
  have : cd n = cd m := by simpa using congrArg Prod.fst g2
  rw [← nu_cd m, ← nu_cd n, this]

theorem fm_len (l : List Int) : (l.flatMap pu).length ≤ 10 * l.length := by
  induction l with
  | nil => simp
  | cons n l ih =>
    have := pu_len n
    rw [List.flatMap_cons, List.length_append, List.length_cons]
    omega

theorem ro_len (l : List Int) : (ro l).length ≤ 10 * l.length + 10 := by
  have := fm_len l
  have := pu_len l.length
  unfold ro
  rw [List.length_append]
  omega

theorem ro_byte (l : List Int) (hl : ∀ n ∈ l, In n) (hn : (l.length : Int) ≤ 9223372036854775807) : ∀ x ∈ ro l, 0 ≤ x ∧ x ≤ 255 := by
  intro x hx
  unfold ro at hx
  rcases List.mem_append.1 hx with h | h
  · exact pu_byte _ ⟨by omega, hn⟩ x h
  · obtain ⟨n, h1, h2⟩ := List.mem_flatMap.1 h
    exact pu_byte n (hl n h1) x h2

end Go.Proofs.YtpkjbcgmhkkfiaaGreatDoor.Wi

/- Plain numbers for layer 9: a sum of 16 bits behind one bit, behind four, behind a byte, behind bytes; that each step is linear and one to one. No condition but those that each theorem states. -/
namespace Go.Proofs.YtpkjbcgmhkkfiaaGreatDoor.Cr

/-- A sum behind one bit that is 0. -/
def L (s : BitVec 16) : BitVec 16 := (s <<< 1) ^^^ (if s.msb then 4129#16 else 0#16)

theorem x4 (a b c d : BitVec 16) : (a ^^^ b) ^^^ (c ^^^ d) = (a ^^^ c) ^^^ (b ^^^ d) := by
  rw [BitVec.xor_assoc, BitVec.xor_assoc, ← BitVec.xor_assoc b, BitVec.xor_comm b c, BitVec.xor_assoc c]

theorem L_xor (s t : BitVec 16) : L (s ^^^ t) = L s ^^^ L t := by
  unfold L
  rw [BitVec.shiftLeft_xor_distrib, BitVec.msb_xor, x4]
  congr 1
  cases s.msb <;> cases t.msb <;> simp

theorem L_zero : L 0#16 = 0#16 := by decide

theorem xor_zero_iff (a b : BitVec 16) : a ^^^ b = 0#16 ↔ a = b := by
  constructor
  · intro h
    have : (a ^^^ b) ^^^ b = 0#16 ^^^ b := by rw [h]
    rwa [BitVec.xor_assoc, BitVec.xor_self, BitVec.xor_zero, BitVec.zero_xor] at this
  · rintro rfl
    exact BitVec.xor_self

theorem L_one (s : BitVec 16) (h : L s = 0#16) : s = 0#16 := by
  have hb : ∀ i, (L s).getLsbD i = false := by intro i; rw [h]; simp
  have h0 := hb 0
  unfold L at h0 hb
  cases hm : s.msb with
  | true =>
    rw [hm] at h0
    simp at h0
  | false =>
    simp only [hm, Bool.false_eq_true, if_false, BitVec.xor_zero] at hb
    apply BitVec.eq_of_getLsbD_eq
    intro i hi
    rcases Nat.lt_or_ge i 15 with h1 | h1
    · have := hb (i + 1)
      rw [BitVec.getLsbD_shiftLeft] at this
      simpa [show i + 1 < 16 by omega, show i + 1 - 1 = i by omega] using this
    · obtain rfl : i = 15 := by omega
      rw [BitVec.msb_eq_getLsbD_last] at hm
      simpa using hm

theorem L_inj {s t : BitVec 16} (h : L s = L t) : s = t := by
  rw [← xor_zero_iff]
  refine L_one _ ?_
  rw [L_xor, xor_zero_iff]
  exact h

/-- Behind four bits. -/
def H (s : BitVec 16) : BitVec 16 := L (L (L (L s)))

theorem H_xor (s t : BitVec 16) : H (s ^^^ t) = H s ^^^ H t := by simp only [H, L_xor]

theorem H_inj {s t : BitVec 16} (h : H s = H t) : s = t := L_inj (L_inj (L_inj (L_inj h)))

/-- Behind eight. -/
def B (s : BitVec 16) : BitVec 16 := H (H s)

theorem B_xor (s t : BitVec 16) : B (s ^^^ t) = B s ^^^ B t := by simp only [B, H_xor]

theorem B_inj {s t : BitVec 16} (h : B s = B t) : s = t := H_inj (H_inj h)

theorem B_zero : B 0#16 = 0#16 := by decide

/-- A byte as a sum's lower half, and as its higher one. -/
def lo (x : Int) : BitVec 16 := BitVec.ofInt 16 x
def up (x : Int) : BitVec 16 := lo x <<< 8

theorem lo_nat (n : Nat) : lo (n : Int) = BitVec.ofNat 16 n := by
  unfold lo
  rw [BitVec.ofInt_natCast]

theorem B_lo_nat : ∀ n : Fin 256, B (BitVec.ofNat 16 n.val) = BitVec.ofNat 16 n.val <<< 8 := by decide +kernel

theorem B_lo (x : Int) (h0 : 0 ≤ x) (h1 : x ≤ 255) : B (lo x) = up x := by
  obtain ⟨n, rfl⟩ := Int.eq_ofNat_of_zero_le h0
  unfold up
  rw [lo_nat]
  exact B_lo_nat ⟨n, by omega⟩

/-- A sum that goes on over a byte, and over bytes. -/
def bs (s : BitVec 16) (x : Int) : BitVec 16 := B (s ^^^ up x)

def mo (s : BitVec 16) (xs : List Int) : BitVec 16 := xs.foldl bs s

theorem mo_nil (s : BitVec 16) : mo s [] = s := rfl

theorem mo_cons (s : BitVec 16) (x : Int) (xs : List Int) : mo s (x :: xs) = mo (bs s x) xs := rfl

theorem mo_append (s : BitVec 16) (xs ys : List Int) : mo s (xs ++ ys) = mo (mo s xs) ys := by
  unfold mo
  rw [List.foldl_append]

theorem mo_take (s : BitVec 16) (xs : List Int) (i : Nat) (x : Int) (h : xs[i]? = some x) : mo s (xs.take (i + 1)) = bs (mo s (xs.take i)) x := by
  rw [List.take_add_one, h, Option.toList_some, mo_append]
  rfl

theorem bs_inj {s t : BitVec 16} {x : Int} (h : bs s x = bs t x) : s = t := by
  have := B_inj h
  have h2 : (s ^^^ up x) ^^^ up x = (t ^^^ up x) ^^^ up x := by rw [this]
  rwa [BitVec.xor_assoc, BitVec.xor_assoc, BitVec.xor_self, BitVec.xor_zero, BitVec.xor_zero] at h2

theorem mo_inj {s t : BitVec 16} (xs : List Int) (h : mo s xs = mo t xs) : s = t := by
  induction xs generalizing s t with
  | nil => exact h
  | cons x xs ih => exact bs_inj (ih h)

/-- Two bytes behind a sum: 0 just where they are the sum. -/
theorem mo_two (s : BitVec 16) (x y : Int) (h0 : 0 ≤ y) (h1 : y ≤ 255) : mo s [x, y] = 0#16 ↔ s = up x ^^^ lo y := by
  rw [mo_cons, mo_cons, mo_nil]
  constructor
  · intro h
    unfold bs at h
    have h := B_inj (h.trans B_zero.symm)
    rw [xor_zero_iff, ← B_lo y h0 h1] at h
    have h := B_inj h
    have h2 : (s ^^^ up x) ^^^ up x = lo y ^^^ up x := by rw [h]
    rwa [BitVec.xor_assoc, BitVec.xor_self, BitVec.xor_zero, BitVec.xor_comm] at h2
  · rintro rfl
    unfold bs
    rw [BitVec.xor_comm (up x), BitVec.xor_assoc, BitVec.xor_self, BitVec.xor_zero, B_lo y h0 h1, BitVec.xor_self, B_zero]

/-- Two bytes turned turn what comes behind them. -/
theorem mo_turned (s : BitVec 16) (x y a b : Int) (hx : up a ^^^ lo b ≠ 0#16) (h0 : 0 ≤ b) (h1 : b ≤ 255) (x' y' : Int) (ex : up x' = up x ^^^ up a) (ey : up y' = up y ^^^ up b) (q : List Int) :
    mo s ([x', y'] ++ q) ≠ mo s ([x, y] ++ q) := by
  intro h
  rw [mo_append, mo_append] at h
  have h := mo_inj q h
  simp only [mo_cons, mo_nil, bs] at h
  have h := B_inj h
  rw [ex, ey, ← BitVec.xor_assoc s, B_xor, x4] at h
  rw [← xor_zero_iff, BitVec.xor_comm, ← BitVec.xor_assoc, BitVec.xor_self, BitVec.zero_xor, xor_zero_iff, ← B_lo b h0 h1] at h
  exact hx ((xor_zero_iff _ _).2 (B_inj h))

/-- What differs sums to what the sums differ by. -/
theorem mo_xor (xs ys zs : List Int) (hl : xs.length = ys.length) (hz : zs.length = xs.length) (h : ∀ (i : Nat) (x y z : Int), xs[i]? = some x → ys[i]? = some y → zs[i]? = some z → up z = up x ^^^ up y) (s t : BitVec 16) :
    mo (s ^^^ t) zs = mo s xs ^^^ mo t ys := by
  induction xs generalizing ys zs s t with
  | nil =>
    obtain rfl := List.length_eq_zero_iff.1 hl.symm
    obtain rfl := List.length_eq_zero_iff.1 hz
    rfl
  | cons x xs ih =>
    match ys, zs, hl, hz with
    | y :: ys, z :: zs, hl, hz =>
      rw [mo_cons, mo_cons, mo_cons]
      have e : bs (s ^^^ t) z = bs s x ^^^ bs t y := by
        unfold bs
        rw [h 0 x y z rfl rfl rfl, x4, B_xor]
      rw [e]
      exact ih ys zs (by simpa using hl) (by simpa using hz) (fun i a b c ha hb hc => h (i + 1) a b c (by simpa using ha) (by simpa using hb) (by simpa using hc)) _ _

theorem up_zero : up 0 = 0#16 := by decide

/-- The sum's two bytes. -/
def sh (s : BitVec 16) : Int := (s.toNat : Int) / 256
def sl (s : BitVec 16) : Int := (s.toNat : Int) % 256

theorem sh_bd (s : BitVec 16) : 0 ≤ sh s ∧ sh s ≤ 255 := by
  have := s.isLt
  unfold sh
  omega

theorem sl_bd (s : BitVec 16) : 0 ≤ sl s ∧ sl s ≤ 255 := by
  unfold sl
  omega

theorem nat_two (x y : Nat) (hy : y < 256) : (x <<< 8) ^^^ y = x * 256 + y := by
  apply Nat.eq_of_testBit_eq
  intro i
  rw [show x * 256 + y = 2 ^ 8 * x + y by omega, Nat.testBit_two_pow_mul_add x (by simpa using hy), Nat.testBit_xor, Nat.testBit_shiftLeft]
  by_cases hi : i < 8
  · rw [if_pos hi]
    simp [show ¬ 8 ≤ i by omega]
  · rw [if_neg hi]
    have : y.testBit i = false := Nat.testBit_lt_two_pow (Nat.lt_of_lt_of_le hy (by
      have := Nat.pow_le_pow_right (show 0 < 2 by omega) (show 8 ≤ i by omega)
      simpa using this))
    simp [this, show 8 ≤ i by omega]

theorem two_nat (x y : Int) (hx0 : 0 ≤ x) (hx1 : x ≤ 255) (hy0 : 0 ≤ y) (hy1 : y ≤ 255) : ((up x ^^^ lo y).toNat : Int) = x * 256 + y := by
  obtain ⟨a, rfl⟩ := Int.eq_ofNat_of_zero_le hx0
  obtain ⟨b, rfl⟩ := Int.eq_ofNat_of_zero_le hy0
  unfold up
  rw [lo_nat, lo_nat, BitVec.toNat_xor, BitVec.toNat_shiftLeft, BitVec.toNat_ofNat, BitVec.toNat_ofNat, Nat.mod_eq_of_lt (show a < 2 ^ 16 by omega), Nat.mod_eq_of_lt (show b < 2 ^ 16 by omega), Nat.mod_eq_of_lt (show a <<< 8 < 2 ^ 16 by rw [Nat.shiftLeft_eq]; omega), nat_two a b (by omega)]
  omega

theorem two_eq (s : BitVec 16) (x y : Int) (hx0 : 0 ≤ x) (hx1 : x ≤ 255) (hy0 : 0 ≤ y) (hy1 : y ≤ 255) : s = up x ^^^ lo y ↔ (s.toNat : Int) = x * 256 + y := by
  rw [← two_nat x y hx0 hx1 hy0 hy1]
  constructor
  · rintro rfl; rfl
  · intro h
    exact BitVec.eq_of_toNat_eq (by omega)

theorem s_two (s : BitVec 16) : s = up (sh s) ^^^ lo (sl s) := by
  rw [two_eq s _ _ (sh_bd s).1 (sh_bd s).2 (sl_bd s).1 (sl_bd s).2]
  unfold sh sl
  omega

/-- The start of a sum. -/
def st : BitVec 16 := 65535#16

/-- What is sealed. -/
def se (xs : List Int) : List Int := xs ++ [sh (mo st xs), sl (mo st xs)]

/-- What is opened, and its error. -/
def op (xs : List Int) : List Int × Int :=
  if xs.length < 2 then ([], 90) else if mo st xs = 0#16 then (xs.take (xs.length - 2), 0) else ([], 91)

theorem mo_se (xs : List Int) : mo st (se xs) = 0#16 := by
  unfold se
  rw [mo_append, mo_two _ _ _ (sl_bd _).1 (sl_bd _).2]
  exact s_two _

theorem se_len (xs : List Int) : (se xs).length = xs.length + 2 := by simp [se]

theorem se_byte (xs : List Int) (h : ∀ x ∈ xs, 0 ≤ x ∧ x ≤ 255) : ∀ x ∈ se xs, 0 ≤ x ∧ x ≤ 255 := by
  intro x hx
  rcases List.mem_append.1 hx with h1 | h1
  · exact h x h1
  · simp at h1
    rcases h1 with rfl | rfl
    · exact sh_bd _
    · exact sl_bd _

theorem op_se (xs : List Int) : op (se xs) = (xs, 0) := by
  unfold op
  rw [if_neg (by rw [se_len]; omega), if_pos (mo_se xs), se_len]
  simp [se]

/-- Bytes, and two behind them. -/
theorem two_last (xs : List Int) (h : 2 ≤ xs.length) : ∃ p x y, xs = p ++ [x, y] ∧ p = xs.take (xs.length - 2) ∧ xs[xs.length - 2]? = some x ∧ xs[xs.length - 1]? = some y := by
  obtain ⟨x, hx⟩ : ∃ x, xs[xs.length - 2]? = some x := ⟨_, List.getElem?_eq_getElem (by omega)⟩
  obtain ⟨y, hy⟩ : ∃ y, xs[xs.length - 1]? = some y := ⟨_, List.getElem?_eq_getElem (by omega)⟩
  refine ⟨xs.take (xs.length - 2), x, y, ?_, rfl, hx, hy⟩
  have e1 : xs.take (xs.length - 2 + 1) = xs.take (xs.length - 2) ++ [x] := by rw [List.take_add_one, hx]; rfl
  have e2 : xs.take (xs.length - 2 + 1 + 1) = xs.take (xs.length - 2 + 1) ++ [y] := by
    rw [List.take_add_one, show xs.length - 2 + 1 = xs.length - 1 by omega, hy]; rfl
  rw [e1, List.take_of_length_le (by omega)] at e2
  rw [e2]
  simp

theorem op_two (p : List Int) (x y : Int) (hx : 0 ≤ x ∧ x ≤ 255) (hy : 0 ≤ y ∧ y ≤ 255) : op (p ++ [x, y]) = if ((mo st p).toNat : Int) = x * 256 + y then (p, 0) else ([], 91) := by
  unfold op
  have e : mo st (p ++ [x, y]) = 0#16 ↔ ((mo st p).toNat : Int) = x * 256 + y := by
    rw [mo_append, mo_two _ _ _ hy.1 hy.2, two_eq _ _ _ hx.1 hx.2 hy.1 hy.2]
  rw [if_neg (by simp)]
  simp only [e]
  simp

/-- What is opened is sealed so. -/
theorem se_op (xs : List Int) (h : ∀ x ∈ xs, 0 ≤ x ∧ x ≤ 255) (ho : (op xs).2 = 0) : se (op xs).1 = xs := by
  unfold op at ho
  by_cases h1 : xs.length < 2
  · rw [if_pos h1] at ho; simp at ho
  · obtain ⟨p, x, y, rfl, _, _, _⟩ := two_last xs (by omega)
    have hx := h x (by simp)
    have hy := h y (by simp)
    rw [if_neg h1] at ho
    by_cases h2 : mo st (p ++ [x, y]) = 0#16
    · unfold op
      rw [if_neg h1, if_pos h2]
      rw [mo_append, mo_two _ _ _ hy.1 hy.2, two_eq _ _ _ hx.1 hx.2 hy.1 hy.2] at h2
      have e1 : sh (mo st p) = x := by unfold sh; omega
      have e2 : sl (mo st p) = y := by unfold sl; omega
      simp [se, e1, e2]
    · rw [if_neg h2] at ho; simp at ho

theorem op_byte (xs : List Int) (h : ∀ x ∈ xs, 0 ≤ x ∧ x ≤ 255) : ∀ x ∈ (op xs).1, 0 ≤ x ∧ x ≤ 255 := by
  unfold op
  split
  · simp
  · split
    · exact fun x hx => h x (List.mem_of_mem_take hx)
    · simp

theorem op_len (xs : List Int) : (op xs).1.length ≤ xs.length := by
  unfold op
  split
  · simp
  · split
    · simp only [List.length_take]; omega
    · simp

/-- With two bytes turned it is not opened. -/
theorem op_turned (xs : List Int) (i : Nat) (x y x' y' a b : Int) (hz : mo st xs = 0#16) (h1 : xs[i]? = some x) (h2 : xs[i + 1]? = some y) (ha : 0 ≤ a ∧ a ≤ 255) (hb : 0 ≤ b ∧ b ≤ 255) (hab : ¬ (a = 0 ∧ b = 0)) (ex : up x' = up x ^^^ up a) (ey : up y' = up y ^^^ up b) :
    op ((xs.set i x').set (i + 1) y') = ([], 91) := by
  have l1 := (List.getElem?_eq_some_iff.1 h1).1
  have l2 := (List.getElem?_eq_some_iff.1 h2).1
  have e0 : xs = xs.take i ++ ([x, y] ++ xs.drop (i + 2)) := by
    have d1 : xs.drop i = x :: xs.drop (i + 1) := by rw [List.drop_eq_getElem_cons l1]; congr 1; exact (List.getElem?_eq_some_iff.1 h1).2
    have d2 : xs.drop (i + 1) = y :: xs.drop (i + 1 + 1) := by rw [List.drop_eq_getElem_cons l2]; congr 1; exact (List.getElem?_eq_some_iff.1 h2).2
    calc xs = xs.take i ++ xs.drop i := (List.take_append_drop i xs).symm
      _ = _ := by rw [d1, d2]; rfl
  have e1 : (xs.set i x').set (i + 1) y' = xs.take i ++ ([x', y'] ++ xs.drop (i + 2)) := by
    have ht : (xs.take i).length = i := by rw [List.length_take]; omega
    conv => lhs; rw [e0]
    rw [List.set_append_right _ _ (by omega), List.set_append_right _ _ (by omega), ht]
    simp
  have hn : up a ^^^ lo b ≠ 0#16 := by
    intro h
    have := two_nat a b ha.1 ha.2 hb.1 hb.2
    rw [h] at this
    simp at this
    omega
  unfold op
  rw [if_neg (by simp; omega), if_neg]
  rw [e1, mo_append]
  rw [e0, mo_append] at hz
  rw [← hz]
  exact mo_turned _ x y a b hn hb.1 hb.2 x' y' ex ey _

/-- A half byte: the sum's four highest bits do what the byte's do. -/
theorem L_low (s : BitVec 16) (h : s.msb = false) : L s = s <<< 1 := by
  unfold L
  simp [h]

theorem H_low (s : BitVec 16) (h : s >>> 12 = 0#16) : H s = s <<< 4 := by
  have hb : ∀ i, 12 ≤ i → s.getLsbD i = false := by
    intro i hi
    have : (s >>> 12).getLsbD (i - 12) = false := by rw [h]; simp
    rw [BitVec.getLsbD_ushiftRight, show 12 + (i - 12) = i by omega] at this
    exact this
  unfold H
  rw [L_low s (by rw [BitVec.msb_eq_getLsbD_last]; exact hb _ (by omega)),
    L_low (s <<< 1) (by rw [BitVec.msb_eq_getLsbD_last, BitVec.getLsbD_shiftLeft]; simpa using hb 14 (by omega)),
    L_low (s <<< 1 <<< 1) (by rw [BitVec.msb_eq_getLsbD_last, BitVec.getLsbD_shiftLeft, BitVec.getLsbD_shiftLeft]; simpa using hb 13 (by omega)),
    L_low (s <<< 1 <<< 1 <<< 1) (by rw [BitVec.msb_eq_getLsbD_last, BitVec.getLsbD_shiftLeft, BitVec.getLsbD_shiftLeft, BitVec.getLsbD_shiftLeft]; simpa using hb 12 (by omega))]
  simp [← BitVec.shiftLeft_add]

theorem H_parts (s : BitVec 16) : H s = (s <<< 4) ^^^ H ((s >>> 12) <<< 12) := by
  have e : s = (s ^^^ ((s >>> 12) <<< 12)) ^^^ ((s >>> 12) <<< 12) := by rw [BitVec.xor_assoc, BitVec.xor_self, BitVec.xor_zero]
  have h1 : (s ^^^ ((s >>> 12) <<< 12)) >>> 12 = 0#16 := by
    apply BitVec.eq_of_getLsbD_eq
    intro i hi
    simp only [BitVec.getLsbD_ushiftRight, BitVec.getLsbD_xor, BitVec.getLsbD_shiftLeft, BitVec.getLsbD_zero]
    by_cases h : 12 + i < 16
    · simp [h]
    · have : s.getLsbD (12 + i) = false := BitVec.getLsbD_of_ge _ _ (by omega)
      simp [h, this]
  have h2 : (s ^^^ ((s >>> 12) <<< 12)) <<< 4 = s <<< 4 := by
    rw [BitVec.shiftLeft_xor_distrib, ← BitVec.shiftLeft_add]
    have : (s >>> 12) <<< (12 + 4) = 0#16 := by
      apply BitVec.eq_of_getLsbD_eq
      intro i hi
      rw [BitVec.getLsbD_shiftLeft]
      simp [show i < 16 by omega]
    rw [this, BitVec.xor_zero]
  conv => lhs; rw [e]
  rw [H_xor, H_low _ h1, h2]

theorem half_step (s h : BitVec 16) : H (s ^^^ (h <<< 12)) = (s <<< 4) ^^^ H (((s >>> 12) ^^^ h) <<< 12) := by
  rw [H_xor, H_parts s, BitVec.shiftLeft_xor_distrib, H_xor, BitVec.xor_assoc]

/-- A byte's two halves. -/
theorem byte_halves (s : BitVec 16) (x : Int) (h0 : 0 ≤ x) (h1 : x ≤ 255) : H (H (s ^^^ (BitVec.ofNat 16 (x.toNat / 16) <<< 12)) ^^^ (BitVec.ofNat 16 (x.toNat % 16) <<< 12)) = bs s x := by
  obtain ⟨n, rfl⟩ := Int.eq_ofNat_of_zero_le h0
  have k : ∀ m : Fin 256, BitVec.ofNat 16 (m.val % 16) <<< 12 = H (BitVec.ofNat 16 (m.val % 16) <<< 8) ∧ BitVec.ofNat 16 (m.val / 16) <<< 12 ^^^ BitVec.ofNat 16 (m.val % 16) <<< 8 = BitVec.ofNat 16 m.val <<< 8 := by decide +kernel
  obtain ⟨k1, k2⟩ := k ⟨n, by omega⟩
  simp only at k1 k2
  rw [Int.toNat_natCast, k1, ← H_xor, BitVec.xor_assoc, k2]
  unfold bs B up
  rw [lo_nat]

/-- A byte's bits, the highest first. -/
def bx (x : Int) (k : Nat) : BitVec 16 := if x.toNat / 2 ^ k % 2 = 1 then 32768#16 else 0#16

/-- A sum behind a byte's bits down to the one at k. -/
def bits8 (s : BitVec 16) (x : Int) : Nat → BitVec 16
  | 0 => s
  | k + 1 => L (bits8 s x k ^^^ bx x (7 - k))

theorem bits8_all (s : BitVec 16) (x : Int) (h0 : 0 ≤ x) (h1 : x ≤ 255) : bits8 s x 8 = bs s x := by
  obtain ⟨n, rfl⟩ := Int.eq_ofNat_of_zero_le h0
  have k : ∀ m : Fin 256, bits8 0#16 (m.val : Int) 8 = B (BitVec.ofNat 16 m.val <<< 8) := by decide +kernel
  have k1 := k ⟨n, by omega⟩
  simp only at k1
  have g : ∀ j, bits8 s (n : Int) j = bits8 s 0 j ^^^ bits8 0#16 (n : Int) j := by
    intro j
    induction j with
    | zero => simp [bits8]
    | succ j ih =>
      rw [bits8, bits8, bits8, ih, BitVec.xor_assoc, L_xor, show bx 0 (7 - j) = 0#16 by simp [bx], BitVec.xor_zero]
  have z : bits8 s 0 8 = B s := by simp [bits8, bx, B, H]
  rw [g, k1, z]
  unfold bs up
  rw [lo_nat, B_xor]

/-- Bytes turned, bit by bit. -/
theorem up_xor (x a : Nat) : up ((x ^^^ a : Nat) : Int) = up x ^^^ up a := by
  unfold up
  rw [lo_nat, lo_nat, lo_nat, ← BitVec.shiftLeft_xor_distrib]
  congr 1
  apply BitVec.eq_of_toNat_eq
  rw [BitVec.toNat_xor, BitVec.toNat_ofNat, BitVec.toNat_ofNat, BitVec.toNat_ofNat]
  exact Nat.xor_mod_two_pow

end Go.Proofs.YtpkjbcgmhkkfiaaGreatDoor.Cr

/- Plain facts on the bytes of configurations: the six rows, what is read of them, and that the one is the other's turn. No condition but those that each theorem states. -/
namespace Go.Proofs.YtpkjbcgmhkkfiaaGreatDoor.Ka
open Go.Proofs.YtpkjbcgmhkkfiaaGreatDoor.Zo Go.Proofs.YtpkjbcgmhkkfiaaGreatDoor.Su Go.Proofs.YtpkjbcgmhkkfiaaGreatDoor.Cf Go.Proofs.YtpkjbcgmhkkfiaaGreatDoor.Wi

def mk (b : Bool) : Int := if b then 1 else 0

def r1 (c : Cg) : List Int := [c.f, c.n, c.p, c.r, c.q, mk c.ab]

def r3 (c : Cg) : List Int := [c.t, c.l, c.o, c.d, c.e, c.c, c.h]

def r4 (z : Zn) : List Int := [z.b, z.s, z.p.m, z.p.k, z.p.v, z.p.u, z.q.m, z.q.k, z.q.v, z.q.u]

def r5 (s : Nat → Int) : List Int := [s 0, s 1, s 2, s 3, s 4, s 5, s 6, s 7, s 8, s 9, s 10, s 11]

def wr (x : Wn) : List Int := [x.k, x.m, x.p, x.a, x.h, x.u, x.l]

def r6 (ws : List Wn) : List Int := ws.flatMap wr

/-- The k-th row. -/
def rw6 (c : Cg) (k : Nat) : List Int :=
  if k = 0 then r1 c else if k = 1 then c.st else if k = 2 then r3 c else if k = 3 then r4 c.z else if k = 4 then r5 c.s else r6 c.ws

/-- The first k rows' bytes. -/
def rws (c : Cg) : Nat → List Int
  | 0 => []
  | k + 1 => rws c k ++ ro (rw6 c k)

def hd : List Int := [78, 87, 1]

def by6 (c : Cg) : List Int := hd ++ rws c 6

/-- A configuration's bytes. -/
def en (c : Cg) : List Int := Cr.se (by6 c)

/-- A window of numbers. -/
def wn (r : List Int) : Wn := ⟨r.getD 0 0, r.getD 1 0, r.getD 2 0, r.getD 3 0, r.getD 4 0, r.getD 5 0, r.getD 6 0⟩

/-- So many windows of numbers. -/
def wns : Nat → List Int → List Wn
  | 0, _ => []
  | k + 1, r => wn (r.take 7) :: wns k (r.drop 7)

/-- What the k-th row turns. -/
def pt (c : Cg) (k : Nat) (r : List Int) : Cg :=
  if k = 0 then { c with f := r.getD 0 0, n := r.getD 1 0, p := r.getD 2 0, r := r.getD 3 0, q := r.getD 4 0, ab := r.getD 5 0 == 1 }
  else if k = 1 then { c with st := r }
  else if k = 2 then { c with t := r.getD 0 0, l := r.getD 1 0, o := r.getD 2 0, d := r.getD 3 0, e := r.getD 4 0, c := r.getD 5 0, h := r.getD 6 0 }
  else if k = 3 then { c with z := ⟨r.getD 0 0, r.getD 1 0, ⟨r.getD 2 0, r.getD 3 0, r.getD 4 0, r.getD 5 0⟩, ⟨r.getD 6 0, r.getD 7 0, r.getD 8 0, r.getD 9 0⟩⟩ }
  else if k = 4 then { c with s := fun i => r.getD i 0 }
  else { c with ws := wns (r.length / 7) r }

/-- Is the k-th row right? -/
def rg (k : Nat) (r : List Int) : Bool :=
  if k = 0 then decide (r.length = 6) && (r.getD 5 0 == 0 || r.getD 5 0 == 1)
  else if k = 1 then true
  else if k = 2 then decide (r.length = 7)
  else if k = 3 then decide (r.length = 10)
  else if k = 4 then decide (r.length = 12)
  else decide (r.length % 7 = 0)

/-- The configuration in which all is 0. -/
def c0 : Cg := ⟨0, 0, 0, [], 0, 0, 0, 0, 0, 0, 0, 0, 0, ⟨0, 0, ⟨0, 0, 0, 0⟩, ⟨0, 0, 0, 0⟩⟩, fun _ => 0, false, []⟩

/-- What j rows from the k-th on tell: a configuration, the place behind them, the error. -/
def dr (b : List Int) : Nat → Nat → Int → Cg → Cg × Int × Int
  | 0, _, p, c => (c, p, 0)
  | j + 1, k, p, c =>
    if (grow b p 112).2.2 = 0 then (if rg k (grow b p 112).1 = true then dr b j (k + 1) (grow b p 112).2.1 (pt c k (grow b p 112).1) else (c0, 0, 112)) else (c0, 0, (grow b p 112).2.2)

/-- What six rows tell, with nothing behind them. -/
def d6 (b : List Int) : Cg × Int :=
  if (dr b 6 0 0 c0).2.2 = 0 then (if (dr b 6 0 0 c0).2.1 < (b.length : Int) then (c0, 113) else ((dr b 6 0 0 c0).1, 0)) else (c0, (dr b 6 0 0 c0).2.2)

/-- Is the head right? -/
def hE (b : List Int) : Int := if b.take 2 = [78, 87] then (if b.drop 2 = [] ∨ (b.drop 2).getD 0 0 ≠ 1 then 111 else 0) else 110

/-- What bytes are: a configuration, an error. -/
def de (b : List Int) : Cg × Int :=
  if (Cr.op b).2 = 0 then
    (if hE (Cr.op b).1 = 0 then
      (if (d6 ((Cr.op b).1.drop 3)).2 = 0 then
        (if ce (d6 ((Cr.op b).1.drop 3)).1 = 0 then ((d6 ((Cr.op b).1.drop 3)).1, 0) else (c0, ce (d6 ((Cr.op b).1.drop 3)).1))
      else (c0, (d6 ((Cr.op b).1.drop 3)).2))
    else (c0, hE (Cr.op b).1))
  else (c0, (Cr.op b).2)

/-- Are the numbers of a configuration such as the machine has? -/
def Fit (c : Cg) : Prop := ∀ k, k < 6 → ∀ n ∈ rw6 c k, In n

theorem wr_len (ws : List Wn) : (r6 ws).length = ws.length * 7 := by
  induction ws with
  | nil => rfl
  | cons x l ih =>
    have : r6 (x :: l) = wr x ++ r6 l := rfl
    rw [this, List.length_append, ih]
    simp only [wr, List.length_cons, List.length_nil]
    omega

theorem wn_wr (x : Wn) : wn (wr x) = x := rfl

theorem wns_r6 (ws : List Wn) : wns ws.length (r6 ws) = ws := by
  induction ws with
  | nil => rfl
  | cons x l ih =>
    have e : r6 (x :: l) = wr x ++ r6 l := rfl
    have l7 : (wr x).length = 7 := rfl
    rw [e, List.length_cons, wns, List.take_left' l7, List.drop_left' l7, ih, wn_wr]

theorem wr_wn (r : List Int) (h : r.length = 7) : wr (wn r) = r := by
  match r, h with
  | [a, b, c, d, e, f, g], _ => rfl

theorem r6_wns (k : Nat) (r : List Int) (h : r.length = k * 7) : r6 (wns k r) = r := by
  induction k generalizing r with
  | zero =>
    obtain rfl := List.length_eq_zero_iff.1 (h.trans (by omega))
    rfl
  | succ j ih =>
    have e : r6 (wns (j + 1) r) = wr (wn (r.take 7)) ++ r6 (wns j (r.drop 7)) := rfl
    rw [e, ih _ (by rw [List.length_drop]; omega), wr_wn _ (by rw [List.length_take]; omega), List.take_append_drop]

/-- What a row turns, it tells. -/
theorem pt_rw (c : Cg) (k : Nat) (r : List Int) (hk : k < 6) (h : rg k r = true) : rw6 (pt c k r) k = r := by
  have hk6 : k = 0 ∨ k = 1 ∨ k = 2 ∨ k = 3 ∨ k = 4 ∨ k = 5 := by omega
  rcases hk6 with rfl | rfl | rfl | rfl | rfl | rfl
  · simp only [rg, if_true, Bool.and_eq_true, decide_eq_true_eq, Bool.or_eq_true, beq_iff_eq] at h
    obtain ⟨hl, hm⟩ := h
    match r, hl with
    | [a, b, c', d, e, m], _ =>
      have hm' : m = 0 ∨ m = 1 := hm
      rcases hm' with rfl | rfl <;> rfl
  · rfl
  · have hl : r.length = 7 := by simpa [rg] using h
    match r, hl with
    | [a, b, c', d, e, f, g], _ => rfl
  · have hl : r.length = 10 := by simpa [rg] using h
    match r, hl with
    | [a, b, c', d, e, f, g, i, j, l], _ => rfl
  · have hl : r.length = 12 := by simpa [rg] using h
    match r, hl with
    | [a, b, c', d, e, f, g, i, j, l, m, n], _ => rfl
  · have hl : r.length % 7 = 0 := by simpa [rg] using h
    show r6 (wns (r.length / 7) r) = r
    exact r6_wns _ _ (by omega)

/-- .. and no other row. -/
theorem pt_other (c : Cg) (k j : Nat) (r : List Int) (hk : k < 6) (hj : j < 6) (h : j ≠ k) : rw6 (pt c k r) j = rw6 c j := by
  have hk6 : k = 0 ∨ k = 1 ∨ k = 2 ∨ k = 3 ∨ k = 4 ∨ k = 5 := by omega
  have hj6 : j = 0 ∨ j = 1 ∨ j = 2 ∨ j = 3 ∨ j = 4 ∨ j = 5 := by omega
  rcases hk6 with rfl | rfl | rfl | rfl | rfl | rfl <;> rcases hj6 with rfl | rfl | rfl | rfl | rfl | rfl <;> first | exact absurd rfl h | rfl

theorem rg_rw (c : Cg) (k : Nat) (hk : k < 6) : rg k (rw6 c k) = true := by
  have hk6 : k = 0 ∨ k = 1 ∨ k = 2 ∨ k = 3 ∨ k = 4 ∨ k = 5 := by omega
  rcases hk6 with rfl | rfl | rfl | rfl | rfl | rfl
  · show (decide ((r1 c).length = 6) && ((r1 c).getD 5 0 == 0 || (r1 c).getD 5 0 == 1)) = true
    have e : (r1 c).getD 5 0 = mk c.ab := rfl
    rw [e]
    cases c.ab <;> rfl
  · rfl
  · rfl
  · rfl
  · rfl
  · show decide ((r6 c.ws).length % 7 = 0) = true
    rw [wr_len]
    simp

end Go.Proofs.YtpkjbcgmhkkfiaaGreatDoor.Ka

/- The sixth row's numbers, by the program. Conditions: as each theorem states. -/
namespace Go.Proofs.YtpkjbcgmhkkfiaaGreatDoor.Cod
set_option maxRecDepth 100000
open Go.ChangeShapes Go.WideShapes Go.ChangeAt Go.RowKit
open Go.Proofs.YtpkjbcgmhkkfiaaGreatDoor.Divs Go.Proofs.YtpkjbcgmhkkfiaaGreatDoor.Grow Go.Proofs.YtpkjbcgmhkkfiaaGreatDoor.Zone
open Go.Proofs.YtpkjbcgmhkkfiaaGreatDoor.By (Sk SL)
open Go.Proofs.YtpkjbcgmhkkfiaaGreatDoor.Zo Go.Proofs.YtpkjbcgmhkkfiaaGreatDoor.Su Go.Proofs.YtpkjbcgmhkkfiaaGreatDoor.Cf Go.Proofs.YtpkjbcgmhkkfiaaGreatDoor.Conf

def XRel (ws : List Wn) (w : World) (v i : Value) (wr : World) : Prop :=
  ∃ k : Nat, k ≤ ws.length ∧ i = .int .i64 (k : Int) ∧ SL .i64 3 wr w.heap.size v (Ka.r6 (ws.take k)) ∧ Later w wr

theorem r6_on (ws : List Wn) (k : Nat) (x : Wn) (h : ws[k]? = some x) : Ka.r6 (ws.take (k + 1)) = Ka.r6 (ws.take k) ++ Ka.wr x := by
  unfold Ka.r6
  rw [List.take_add_one, h, List.flatMap_append]
  simp

theorem win_at (W : World) (x : Wn) (B : Nat) (h : ∀ (i : Nat) (v : Value), (wc x)[i]? = some v → W.cell? ⟨B, i, none⟩ = some v) :
    ∀ i p, [(B, 0), (B, 1), (B, 2), (B, 3), (B, 4), (B, 5), (B, 6)][i]? = some p → W.cell? ⟨p.1, p.2, none⟩ = some (.int .i64 ((Ka.wr x).getD i 0)) := by
  intro i p hp
  match i with
  | 0 => obtain rfl := Option.some.inj hp; exact h 0 _ rfl
  | 1 => obtain rfl := Option.some.inj hp; exact h 1 _ rfl
  | 2 => obtain rfl := Option.some.inj hp; exact h 2 _ rfl
  | 3 => obtain rfl := Option.some.inj hp; exact h 3 _ rfl
  | 4 => obtain rfl := Option.some.inj hp; exact h 4 _ rfl
  | 5 => obtain rfl := Option.some.inj hp; exact h 5 _ rfl
  | 6 => obtain rfl := Option.some.inj hp; exact h 6 _ rfl
  | k + 7 => simp at hp

set_option maxHeartbeats 2000000 in
theorem numbers_windows (ws : List Wn) (v : Value) (w : World) (hv : Wk w v ws) (hn : ws.length ≤ 200) : Calls Tryz.prog 42 #[v] w fun e w' => ∃ u, e = .returned u ∧ SL .i64 3 w' w.heap.size u (Ka.r6 ws) ∧ Later w w' := by
  have KP := Lib.hid (fun B W => places_window B W)
  have KN := Lib.hid (fun x n u B W (hu : Ps n W u [(B, 0), (B, 1), (B, 2), (B, 3), (B, 4), (B, 5), (B, 6)]) (h : ∀ (i : Nat) (v : Value), (wc x)[i]? = some v → W.cell? ⟨B, i, none⟩ = some v) => numbers_any _ (Ka.wr x) n u W hu rfl (win_at W x B h))
  rcases Nat.eq_zero_or_pos ws.length with h0 | h0
  · obtain rfl := List.length_eq_zero_iff.1 h0
    obtain ⟨ad, cap, rfl, hm⟩ := hv.len
    clear hv h0 hm
    go_enter Tryz.func42, Tryz.ntmps42
    go_wp2_with fail
    refine wp_loop_rounds 1 ?_
    rw [rounds_succ]
    go_wp2
    go_ret
    exact ⟨_, rfl, SL.nil _ _ _ _, Later.refl _⟩
  · obtain ⟨B, off, cap, rfl, hm, hB, hc⟩ := hv.has h0
    have HC := Lib.hid hc
    clear hv hc hB
    obtain ⟨n, hn'⟩ : ∃ n, ws.length = n := ⟨_, rfl⟩
    rw [hn'] at h0 hm hn ⊢
    have HL := Lib.hid hn'
    clear hn'
    have ad : ∀ j, (⟨B, off, none⟩ : Addr).add j = ⟨B, off + j, none⟩ := Addr.add_mid B off
    go_enter Tryz.func42, Tryz.ntmps42
    go_wp2_with fail
    go_loopw [3, 8] (fun v i wr => XRel ws w v i wr) (fun _ i _ => n - (intOf i).toNat)
    case atStart => exact ⟨0, by omega, rfl, SL.nil _ _ _ _, Later.refl _⟩
    case round =>
      obtain ⟨k, hk, rfl, ho, hg⟩ := hrel
      rw [HL.out] at hk
      have HG := Lib.hid hg
      have HO := Lib.hid ho
      clear hg ho
      by_cases hlt : k < n
      · obtain ⟨x, hx⟩ : ∃ x, ws[k]? = some x := ⟨_, List.getElem?_eq_getElem (by rw [HL.out]; exact hlt)⟩
        have hr := HC.out k x hx
        have HR : Hid (wr.rangeAt B (off + k * 7) (wc x)) := Lib.hid (fun j y hy => gsome HG.out (hr j y hy))
        have HX := Lib.hid hx
        have HZ : Hid ((Ka.r6 (ws.take k)).length = k * 7) := Lib.hid (by rw [Ka.wr_len, List.length_take, HL.out, Nat.min_eq_left (by omega)])
        have HT := Lib.hid (r6_on ws k x hx)
        clear hr hx
        go_wp2_with (refine load_win x rfl (.tmp 10) rfl B (off + k * 7) rfl HR.out ?_)
        refine (KP.out _ _).mono ?_
        rintro e w1 ⟨u, rfl, hu, hg1⟩
        have HG1 := Lib.hid (gtrans HG.out (off_put hg1))
        have HW : Hid (∀ (i : Nat) (v : Value), (wc x)[i]? = some v → w1.cell? ⟨wr.heap.size, i, none⟩ = some v) := Lib.hid (fun i v hv => gsome hg1 (by rw [World.cell?_alloc_new]; simpa [wc] using hv))
        have HU := Lib.hid hu
        have HO1 := Lib.hid (HO.out.later (off_put hg1))
        clear hu hg1
        go_wp2_with fail
        refine (KN.out x _ _ _ _ HU.out HW.out).mono ?_
        rintro e w2 ⟨r, rfl, hr, hg2⟩
        have HG2 := Lib.hid (gtrans HG1.out hg2)
        have HR2 := Lib.hid hr.sk
        have HO2 := Lib.hid (HO1.out.later hg2)
        clear hr hg2
        go_wp2_with (refine append_ints rfl (.tmp 12) (.tmp 14) rfl w HG2.out _ _ rfl HO2.out _ _ rfl HR2.out (by have e1 := HZ.out; have e2 : (Ka.wr x).length = 7 := rfl; omega) ?_; intro v' w3 ho3 hg3; have HO3 := Lib.hid ho3; have HG3 := Lib.hid hg3; clear ho3 hg3)
        go_roundw
        case rel => exact ⟨k + 1, by rw [HL.out]; omega, by go_num, by rw [HT.out]; exact HO3.out, HG3.out⟩
        case measure => simp [intOf]; omega
      · obtain rfl : k = n := by omega
        go_wp2_with fail
        go_ret
        have h := HO.out
        rw [← HL.out, List.take_length] at h
        exact ⟨_, rfl, h, HG.out⟩

end Go.Proofs.YtpkjbcgmhkkfiaaGreatDoor.Cod

/- The rows of a configuration, by the program. Conditions: as each theorem states. -/
namespace Go.Proofs.YtpkjbcgmhkkfiaaGreatDoor.Cod
set_option maxRecDepth 100000
open Go.ChangeShapes Go.WideShapes Go.ChangeAt Go.RowKit
open Go.Proofs.YtpkjbcgmhkkfiaaGreatDoor.Divs Go.Proofs.YtpkjbcgmhkkfiaaGreatDoor.Grow Go.Proofs.YtpkjbcgmhkkfiaaGreatDoor.Zone
open Go.Proofs.YtpkjbcgmhkkfiaaGreatDoor.By (Sk SL)
open Go.Proofs.YtpkjbcgmhkkfiaaGreatDoor.Each
open Go.Proofs.YtpkjbcgmhkkfiaaGreatDoor.Zo Go.Proofs.YtpkjbcgmhkkfiaaGreatDoor.Su Go.Proofs.YtpkjbcgmhkkfiaaGreatDoor.Cf Go.Proofs.YtpkjbcgmhkkfiaaGreatDoor.Conf

/-- v is a slice of the rows of c, u its second one. -/
def Rk (W : World) (v : Value) (c : Cg) (u : Value) : Prop :=
  ∃ (g : Nat) (us : Nat → Value), v = .slice (some ⟨g, 0, none⟩) 6 6 ∧ Row g 22 #[us 0, us 1, us 2, us 3, us 4, us 5] W ∧ us 1 = u ∧ ∀ k, k < 6 → k ≠ 1 → SL .i64 3 W 0 (us k) (Ka.rw6 c k)

theorem Rk.later {W W' : World} {v : Value} {c : Cg} {u : Value} (h : Rk W v c u) (g : Later W W') : Rk W' v c u := by
  obtain ⟨b, us, rfl, h1, h2, h3⟩ := h
  exact ⟨b, us, rfl, h1.later g, h2, fun k hk hn => (h3 k hk hn).later g⟩

theorem rk_new (W : World) (c : Cg) {u u0 u2 u3 u4 u5 : Value} (h0 : SL .i64 3 W 0 u0 (Ka.r1 c)) (h2 : SL .i64 3 W 0 u2 (Ka.r3 c)) (h3 : SL .i64 3 W 0 u3 (Ka.r4 c.z)) (h4 : SL .i64 3 W 0 u4 (Ka.r5 c.s)) (h5 : SL .i64 3 W 0 u5 (Ka.r6 c.ws)) :
    Rk (W.alloc (.cells #[u0, u, u2, u3, u4, u5] 22)) (.slice (some ⟨W.heap.size, 0, none⟩) 6 6) c u := by
  have g := (Later.refl W).alloc #[u0, u, u2, u3, u4, u5] 22
  refine ⟨W.heap.size, fun k => if k = 0 then u0 else if k = 1 then u else if k = 2 then u2 else if k = 3 then u3 else if k = 4 then u4 else u5, rfl, Row.new W _ _, rfl, fun k hk hn => ?_⟩
  have : k = 0 ∨ k = 2 ∨ k = 3 ∨ k = 4 ∨ k = 5 := by omega
  rcases this with rfl | rfl | rfl | rfl | rfl
  · exact h0.later g
  · exact h2.later g
  · exact h3.later g
  · exact h4.later g
  · exact h5.later g

theorem mark_any (b : Bool) (w : World) : Calls Tryz.prog 36 #[.bool b] w fun e w' => e = .returned (.int .i64 (Ka.mk b)) ∧ w = w' := by
  cases b with
  | true =>
    go_enter Tryz.func36, Tryz.ntmps36
    go_wp2_with fail
    go_ret
    exact ⟨rfl, rfl⟩
  | false =>
    go_enter Tryz.func36, Tryz.ntmps36
    go_wp2_with fail
    go_ret
    exact ⟨rfl, rfl⟩

theorem one_at (W : World) (G M : Nat) (c : Cg) (u v : Value) (hA : At W G (cc c u v)) (hM : W.cell? ⟨M, 0, none⟩ = some (.int .i64 (Ka.mk c.ab))) : ∀ i p, [(G, 0), (G, 1), (G, 2), (G, 11), (G, 12), (M, 0)][i]? = some p → W.cell? ⟨p.1, p.2, none⟩ = some (.int .i64 ((Ka.r1 c).getD i 0)) := by
  intro i p hp
  match i with
  | 0 => obtain rfl := Option.some.inj hp; exact hA 0 _ rfl
  | 1 => obtain rfl := Option.some.inj hp; exact hA 1 _ rfl
  | 2 => obtain rfl := Option.some.inj hp; exact hA 2 _ rfl
  | 3 => obtain rfl := Option.some.inj hp; exact hA 11 _ rfl
  | 4 => obtain rfl := Option.some.inj hp; exact hA 12 _ rfl
  | 5 => obtain rfl := Option.some.inj hp; exact hM
  | k + 6 => simp at hp

theorem three_at (W : World) (G : Nat) (c : Cg) (u v : Value) (hA : At W G (cc c u v)) : ∀ i p, [(G, 4), (G, 5), (G, 6), (G, 7), (G, 8), (G, 9), (G, 10)][i]? = some p → W.cell? ⟨p.1, p.2, none⟩ = some (.int .i64 ((Ka.r3 c).getD i 0)) := by
  intro i p hp
  match i with
  | 0 => obtain rfl := Option.some.inj hp; exact hA 4 _ rfl
  | 1 => obtain rfl := Option.some.inj hp; exact hA 5 _ rfl
  | 2 => obtain rfl := Option.some.inj hp; exact hA 6 _ rfl
  | 3 => obtain rfl := Option.some.inj hp; exact hA 7 _ rfl
  | 4 => obtain rfl := Option.some.inj hp; exact hA 8 _ rfl
  | 5 => obtain rfl := Option.some.inj hp; exact hA 9 _ rfl
  | 6 => obtain rfl := Option.some.inj hp; exact hA 10 _ rfl
  | k + 7 => simp at hp

theorem four_at (W : World) (G : Nat) (c : Cg) (u v : Value) (hA : At W G (cc c u v)) : ∀ i p, [(G, 13), (G, 14), (G, 15), (G, 16), (G, 17), (G, 18), (G, 19), (G, 20), (G, 21), (G, 22)][i]? = some p → W.cell? ⟨p.1, p.2, none⟩ = some (.int .i64 ((Ka.r4 c.z).getD i 0)) := by
  intro i p hp
  match i with
  | 0 => obtain rfl := Option.some.inj hp; exact hA 13 _ rfl
  | 1 => obtain rfl := Option.some.inj hp; exact hA 14 _ rfl
  | 2 => obtain rfl := Option.some.inj hp; exact hA 15 _ rfl
  | 3 => obtain rfl := Option.some.inj hp; exact hA 16 _ rfl
  | 4 => obtain rfl := Option.some.inj hp; exact hA 17 _ rfl
  | 5 => obtain rfl := Option.some.inj hp; exact hA 18 _ rfl
  | 6 => obtain rfl := Option.some.inj hp; exact hA 19 _ rfl
  | 7 => obtain rfl := Option.some.inj hp; exact hA 20 _ rfl
  | 8 => obtain rfl := Option.some.inj hp; exact hA 21 _ rfl
  | 9 => obtain rfl := Option.some.inj hp; exact hA 22 _ rfl
  | k + 10 => simp at hp

theorem five_at (W : World) (G : Nat) (c : Cg) (u v : Value) (hA : At W G (cc c u v)) : ∀ i p, (sps G)[i]? = some p → W.cell? ⟨p.1, p.2, none⟩ = some (.int .i64 ((Ka.r5 c.s).getD i 0)) := by
  intro i p hp
  match i with
  | 0 => obtain rfl := Option.some.inj hp; exact hA 23 _ rfl
  | 1 => obtain rfl := Option.some.inj hp; exact hA 24 _ rfl
  | 2 => obtain rfl := Option.some.inj hp; exact hA 25 _ rfl
  | 3 => obtain rfl := Option.some.inj hp; exact hA 26 _ rfl
  | 4 => obtain rfl := Option.some.inj hp; exact hA 27 _ rfl
  | 5 => obtain rfl := Option.some.inj hp; exact hA 28 _ rfl
  | 6 => obtain rfl := Option.some.inj hp; exact hA 29 _ rfl
  | 7 => obtain rfl := Option.some.inj hp; exact hA 30 _ rfl
  | 8 => obtain rfl := Option.some.inj hp; exact hA 31 _ rfl
  | 9 => obtain rfl := Option.some.inj hp; exact hA 32 _ rfl
  | 10 => obtain rfl := Option.some.inj hp; exact hA 33 _ rfl
  | 11 => obtain rfl := Option.some.inj hp; exact hA 34 _ rfl
  | k + 12 => simp [sps] at hp

def KR (w : World) (c : Cg) (u : Value) : Nat → Value → World → Prop
  | 0, v, W => Ps 0 W v [(w.heap.size, 0), (w.heap.size, 1), (w.heap.size, 2), (w.heap.size, 11), (w.heap.size, 12), (w.heap.size + 1, 0)]
  | 1, v, W => SL .i64 3 W 0 v (Ka.r1 c)
  | 2, v, _ => v = .pointer (some ⟨w.heap.size, 3, none⟩)
  | 3, v, _ => v = u
  | 4, v, _ => v = .pointer (some ⟨w.heap.size, 4, none⟩)
  | 5, v, W => Ps 0 W v [(w.heap.size, 4), (w.heap.size, 5), (w.heap.size, 6), (w.heap.size, 7), (w.heap.size, 8), (w.heap.size, 9), (w.heap.size, 10)]
  | 6, v, W => SL .i64 3 W 0 v (Ka.r3 c)
  | 7, v, _ => v = .pointer (some ⟨w.heap.size, 13, none⟩)
  | 8, v, W => Ps 0 W v [(w.heap.size, 13), (w.heap.size, 14), (w.heap.size, 15), (w.heap.size, 16), (w.heap.size, 17), (w.heap.size, 18), (w.heap.size, 19), (w.heap.size, 20), (w.heap.size, 21), (w.heap.size, 22)]
  | 9, v, W => SL .i64 3 W 0 v (Ka.r4 c.z)
  | 10, v, _ => v = .pointer (some ⟨w.heap.size, 23, none⟩)
  | 11, v, W => Ps 0 W v (sps w.heap.size)
  | 12, v, W => SL .i64 3 W 0 v (Ka.r5 c.s)
  | 13, v, _ => v = .pointer (some ⟨w.heap.size, 36, none⟩)
  | 14, v, W => Wk W v c.ws
  | 15, v, W => SL .i64 3 W 0 v (Ka.r6 c.ws)
  | 16, v, W => Rk W v c u
  | 17, v, W => Rk W v c u
  | _, _, _ => True

theorem KR.later (w : World) (c : Cg) (u : Value) (i : Nat) (v : Value) (W W' : World) (h : KR w c u i v W) (g : Later W W') : KR w c u i v W' := by
  unfold KR at *
  split at h <;> try exact h
  · exact h.later g
  · exact h.later g
  · exact h.later g
  · exact h.later g
  · exact h.later g
  · exact h.later g
  · exact h.later g
  · exact h.later g
  · exact h.later g
  · exact h.later g
  · exact h.later g
  · exact h.later g

set_option maxHeartbeats 2000000 in
theorem rows_any (c : Cg) (u v : Value) (w : World) (hu : Sk .i64 w u c.st) (hv : Wk w v c.ws) (hn : c.ws.length ≤ 200) : Calls Tryz.prog 20 #[.agg (cc c u v)] w fun e w' => ∃ r, e = .returned r ∧ Rk w' r c u ∧ Later w w' := by
  have HG0 := Lib.hid (((Later.refl w).alloc (cc c u v) 33).alloc #[.int .i64 (Ka.mk c.ab)] 3)
  have HA0 := Lib.hid ((At.new w (cc c u v) 33).put (.cells #[.int .i64 (Ka.mk c.ab)] 3))
  have HM0 : Hid (((w.alloc (.cells (cc c u v) 33)).alloc (.cells #[.int .i64 (Ka.mk c.ab)] 3)).cell? ⟨w.heap.size + 1, 0, none⟩ = some (.int .i64 (Ka.mk c.ab))) := Lib.hid (by have h := At.new (w.alloc (.cells (cc c u v) 33)) #[.int .i64 (Ka.mk c.ab)] 3 0 _ rfl; rwa [size_one] at h)
  have HU0 := Lib.hid (hu.later HG0.out)
  have HV0 := Lib.hid (hv.later HG0.out)
  have KM := Lib.hid (fun W => mark_any c.ab W)
  have K6 := Lib.hid (fun r W (h : Wk W r c.ws) => numbers_windows c.ws r W h hn)
  have f35 : (w.alloc (.cells (cc c u v) 33)).cell? ⟨w.heap.size, 35, none⟩ = some (.bool c.ab) := At.new w (cc c u v) 33 35 _ rfl
  clear hu hv
  have HO := Lib.hid (fun W M (hA : At W w.heap.size (cc c u v)) (hM : W.cell? ⟨M, 0, none⟩ = some (.int .i64 (Ka.mk c.ab))) => one_at W w.heap.size M c u v hA hM)
  have HF3 : Hid ((cc c u v)[3]? = some u) := Lib.hid rfl
  have HF36 : Hid ((cc c u v)[36]? = some v) := Lib.hid rfl
  have HX := Lib.hid (fun W (hA : At W w.heap.size (cc c u v)) => And.intro (three_at W w.heap.size c u v hA) (And.intro (four_at W w.heap.size c u v hA) (five_at W w.heap.size c u v hA)))
  generalize cc c u v = C at *
  generalize hmk : Ka.mk c.ab = mk at *
  clear hmk
  go_enter Tryz.func20, Tryz.ntmps20
  go_wp2_with fail
  refine (KM.out _).mono ?_
  rintro e w1 ⟨rfl, rfl⟩
  clear f35
  go_wp2_with fail
  generalize (w.alloc (.cells C 33)).alloc (.cells #[.int .i64 mk] 3) = w2 at *
  have KB := Lib.hid (fun W => places_building w.heap.size (w.heap.size + 1) W)
  have KT := Lib.hid (fun W => places_times w.heap.size W)
  have KZ := Lib.hid (fun W => places_zone w.heap.size W)
  have KS := Lib.hid (fun W => places_sun w.heap.size W)
  have K1 := Lib.hid (fun r W (g : Later w2 W) (h : Ps 0 W r [(w.heap.size, 0), (w.heap.size, 1), (w.heap.size, 2), (w.heap.size, 11), (w.heap.size, 12), (w.heap.size + 1, 0)]) => numbers_any _ (Ka.r1 c) 0 r W h rfl (HO.out W _ (HA0.out.later g) (gsome g HM0.out)))
  have K3 := Lib.hid (fun r W (g : Later w2 W) (h : Ps 0 W r [(w.heap.size, 4), (w.heap.size, 5), (w.heap.size, 6), (w.heap.size, 7), (w.heap.size, 8), (w.heap.size, 9), (w.heap.size, 10)]) => numbers_any _ (Ka.r3 c) 0 r W h rfl (HX.out W (HA0.out.later g)).1)
  have K4 := Lib.hid (fun r W (g : Later w2 W) (h : Ps 0 W r [(w.heap.size, 13), (w.heap.size, 14), (w.heap.size, 15), (w.heap.size, 16), (w.heap.size, 17), (w.heap.size, 18), (w.heap.size, 19), (w.heap.size, 20), (w.heap.size, 21), (w.heap.size, 22)]) => numbers_any _ (Ka.r4 c.z) 0 r W h rfl (HX.out W (HA0.out.later g)).2.1)
  have K5 := Lib.hid (fun r W (g : Later w2 W) (h : Ps 0 W r (sps w.heap.size)) => numbers_any _ (Ka.r5 c.s) 0 r W h rfl (HX.out W (HA0.out.later g)).2.2)
  refine region_each (KR w c u) (by kernel_rfl) (by kernel_rfl) (KR.later w c u) ?_ ?_
  · intro i hi
    match i with
    | 0 =>
      intro o ho
      simp only [List.getElem?_toArray, List.getElem?_cons_zero, Option.some.injEq] at ho
      subst ho
      intro a W hl hold hdep
      refine ite_yes rfl ?_
      have h1 : a.tmps[1]? = some (.pointer (some ⟨w.heap.size, 0, none⟩)) := hold 1 (free_of (by kernel_rfl))
      have h3 : a.tmps[3]? = some (.pointer (some ⟨w.heap.size + 1, 0, none⟩)) := hold 3 (free_of (by kernel_rfl))
      clear hold hdep
      unfold Oper.wp
      go_simp
      refine (KB.out _).mono ?_
      rintro e w1 ⟨r, rfl, hr, hg1⟩
      exact ⟨_, rfl, hr.base (Nat.zero_le _), hg1⟩
    | 1 =>
      intro o ho
      simp only [List.getElem?_toArray, List.getElem?_cons_zero, List.getElem?_cons_succ, Option.some.injEq] at ho
      subst ho
      intro a W hl hold hdep
      refine ite_yes rfl ?_
      obtain ⟨_, h7, hp7⟩ := hdep 0 (by decide) _ _ rfl rfl
      clear hold hdep
      unfold Oper.wp
      go_simp
      refine (K1.out _ _ hl hp7).mono ?_
      rintro e w1 ⟨r, rfl, hr, hg1⟩
      exact ⟨_, rfl, By.SL.base hr (Nat.zero_le _), hg1⟩
    | 2 =>
      intro o ho
      simp only [List.getElem?_toArray, List.getElem?_cons_zero, List.getElem?_cons_succ, Option.some.injEq] at ho
      subst ho
      intro a W hl hold hdep
      refine ite_yes rfl ?_
      have h1 : a.tmps[1]? = some (.pointer (some ⟨w.heap.size, 0, none⟩)) := hold 1 (free_of (by kernel_rfl))
      clear hold hdep
      unfold Oper.wp
      go_simp
      exact ⟨_, rfl, rfl, Later.refl _⟩
    | 3 =>
      intro o ho
      simp only [List.getElem?_toArray, List.getElem?_cons_zero, List.getElem?_cons_succ, Option.some.injEq] at ho
      subst ho
      intro a W hl hold hdep
      refine ite_yes rfl ?_
      obtain ⟨_, h9, rfl⟩ := hdep 2 (by decide) _ _ rfl rfl
      have f3 := HA0.out.later hl 3 _ HF3.out
      clear hold hdep
      unfold Oper.wp
      go_simp
      exact ⟨_, rfl, rfl, Later.refl _⟩
    | 4 =>
      intro o ho
      simp only [List.getElem?_toArray, List.getElem?_cons_zero, List.getElem?_cons_succ, Option.some.injEq] at ho
      subst ho
      intro a W hl hold hdep
      refine ite_yes rfl ?_
      have h1 : a.tmps[1]? = some (.pointer (some ⟨w.heap.size, 0, none⟩)) := hold 1 (free_of (by kernel_rfl))
      clear hold hdep
      unfold Oper.wp
      go_simp
      exact ⟨_, rfl, rfl, Later.refl _⟩
    | 5 =>
      intro o ho
      simp only [List.getElem?_toArray, List.getElem?_cons_zero, List.getElem?_cons_succ, Option.some.injEq] at ho
      subst ho
      intro a W hl hold hdep
      refine ite_yes rfl ?_
      obtain ⟨_, h11, rfl⟩ := hdep 4 (by decide) _ _ rfl rfl
      clear hold hdep
      unfold Oper.wp
      go_simp
      refine (KT.out _).mono ?_
      rintro e w1 ⟨r, rfl, hr, hg1⟩
      exact ⟨_, rfl, hr.base (Nat.zero_le _), hg1⟩
    | 6 =>
      intro o ho
      simp only [List.getElem?_toArray, List.getElem?_cons_zero, List.getElem?_cons_succ, Option.some.injEq] at ho
      subst ho
      intro a W hl hold hdep
      refine ite_yes rfl ?_
      obtain ⟨_, h12, hp12⟩ := hdep 5 (by decide) _ _ rfl rfl
      clear hold hdep
      unfold Oper.wp
      go_simp
      refine (K3.out _ _ hl hp12).mono ?_
      rintro e w1 ⟨r, rfl, hr, hg1⟩
      exact ⟨_, rfl, By.SL.base hr (Nat.zero_le _), hg1⟩
    | 7 =>
      intro o ho
      simp only [List.getElem?_toArray, List.getElem?_cons_zero, List.getElem?_cons_succ, Option.some.injEq] at ho
      subst ho
      intro a W hl hold hdep
      refine ite_yes rfl ?_
      have h1 : a.tmps[1]? = some (.pointer (some ⟨w.heap.size, 0, none⟩)) := hold 1 (free_of (by kernel_rfl))
      clear hold hdep
      unfold Oper.wp
      go_simp
      exact ⟨_, rfl, rfl, Later.refl _⟩
    | 8 =>
      intro o ho
      simp only [List.getElem?_toArray, List.getElem?_cons_zero, List.getElem?_cons_succ, Option.some.injEq] at ho
      subst ho
      intro a W hl hold hdep
      refine ite_yes rfl ?_
      obtain ⟨_, h14, rfl⟩ := hdep 7 (by decide) _ _ rfl rfl
      clear hold hdep
      unfold Oper.wp
      go_simp
      refine (KZ.out _).mono ?_
      rintro e w1 ⟨r, rfl, hr, hg1⟩
      exact ⟨_, rfl, hr.base (Nat.zero_le _), hg1⟩
    | 9 =>
      intro o ho
      simp only [List.getElem?_toArray, List.getElem?_cons_zero, List.getElem?_cons_succ, Option.some.injEq] at ho
      subst ho
      intro a W hl hold hdep
      refine ite_yes rfl ?_
      obtain ⟨_, h15, hp15⟩ := hdep 8 (by decide) _ _ rfl rfl
      clear hold hdep
      unfold Oper.wp
      go_simp
      refine (K4.out _ _ hl hp15).mono ?_
      rintro e w1 ⟨r, rfl, hr, hg1⟩
      exact ⟨_, rfl, By.SL.base hr (Nat.zero_le _), hg1⟩
    | 10 =>
      intro o ho
      simp only [List.getElem?_toArray, List.getElem?_cons_zero, List.getElem?_cons_succ, Option.some.injEq] at ho
      subst ho
      intro a W hl hold hdep
      refine ite_yes rfl ?_
      have h1 : a.tmps[1]? = some (.pointer (some ⟨w.heap.size, 0, none⟩)) := hold 1 (free_of (by kernel_rfl))
      clear hold hdep
      unfold Oper.wp
      go_simp
      exact ⟨_, rfl, rfl, Later.refl _⟩
    | 11 =>
      intro o ho
      simp only [List.getElem?_toArray, List.getElem?_cons_zero, List.getElem?_cons_succ, Option.some.injEq] at ho
      subst ho
      intro a W hl hold hdep
      refine ite_yes rfl ?_
      obtain ⟨_, h17, rfl⟩ := hdep 10 (by decide) _ _ rfl rfl
      clear hold hdep
      unfold Oper.wp
      go_simp
      refine (KS.out _).mono ?_
      rintro e w1 ⟨r, rfl, hr, hg1⟩
      exact ⟨_, rfl, hr.base (Nat.zero_le _), hg1⟩
    | 12 =>
      intro o ho
      simp only [List.getElem?_toArray, List.getElem?_cons_zero, List.getElem?_cons_succ, Option.some.injEq] at ho
      subst ho
      intro a W hl hold hdep
      refine ite_yes rfl ?_
      obtain ⟨_, h18, hp18⟩ := hdep 11 (by decide) _ _ rfl rfl
      clear hold hdep
      unfold Oper.wp
      go_simp
      refine (K5.out _ _ hl hp18).mono ?_
      rintro e w1 ⟨r, rfl, hr, hg1⟩
      exact ⟨_, rfl, By.SL.base hr (Nat.zero_le _), hg1⟩
    | 13 =>
      intro o ho
      simp only [List.getElem?_toArray, List.getElem?_cons_zero, List.getElem?_cons_succ, Option.some.injEq] at ho
      subst ho
      intro a W hl hold hdep
      refine ite_yes rfl ?_
      have h1 : a.tmps[1]? = some (.pointer (some ⟨w.heap.size, 0, none⟩)) := hold 1 (free_of (by kernel_rfl))
      clear hold hdep
      unfold Oper.wp
      go_simp
      exact ⟨_, rfl, rfl, Later.refl _⟩
    | 14 =>
      intro o ho
      simp only [List.getElem?_toArray, List.getElem?_cons_zero, List.getElem?_cons_succ, Option.some.injEq] at ho
      subst ho
      intro a W hl hold hdep
      refine ite_yes rfl ?_
      obtain ⟨_, h20, rfl⟩ := hdep 13 (by decide) _ _ rfl rfl
      have f36 := HA0.out.later hl 36 _ HF36.out
      clear hold hdep
      unfold Oper.wp
      go_simp
      exact ⟨_, rfl, HV0.out.later hl, Later.refl _⟩
    | 15 =>
      intro o ho
      simp only [List.getElem?_toArray, List.getElem?_cons_zero, List.getElem?_cons_succ, Option.some.injEq] at ho
      subst ho
      intro a W hl hold hdep
      refine ite_yes rfl ?_
      obtain ⟨_, h21, hs21⟩ := hdep 14 (by decide) _ _ rfl rfl
      clear hold hdep
      unfold Oper.wp
      go_simp
      refine (K6.out _ _ hs21).mono ?_
      rintro e w1 ⟨r, rfl, hr, hg1⟩
      exact ⟨_, rfl, By.SL.base hr (Nat.zero_le _), hg1⟩
    | 16 =>
      intro o ho
      simp only [List.getElem?_toArray, List.getElem?_cons_zero, List.getElem?_cons_succ, Option.some.injEq] at ho
      subst ho
      intro a W hl hold hdep
      refine ite_yes rfl ?_
      obtain ⟨_, h8, hs8⟩ := hdep 1 (by decide) _ _ rfl rfl
      obtain ⟨_, h10, rfl⟩ := hdep 3 (by decide) _ _ rfl rfl
      obtain ⟨_, h13, hs13⟩ := hdep 6 (by decide) _ _ rfl rfl
      obtain ⟨_, h16, hs16⟩ := hdep 9 (by decide) _ _ rfl rfl
      obtain ⟨_, h19, hs19⟩ := hdep 12 (by decide) _ _ rfl rfl
      obtain ⟨_, h22, hs22⟩ := hdep 15 (by decide) _ _ rfl rfl
      obtain ⟨_, _, rfl, _⟩ := hs8.sk.len
      obtain ⟨_, _, rfl, _⟩ := hs13.sk.len
      obtain ⟨_, _, rfl, _⟩ := hs16.sk.len
      obtain ⟨_, _, rfl, _⟩ := hs19.sk.len
      obtain ⟨_, _, rfl, _⟩ := hs22.sk.len
      obtain ⟨_, _, rfl, _⟩ := HU0.out.len
      clear hold hdep
      unfold Oper.wp
      go_simp
      exact ⟨_, rfl, rk_new _ c hs8 hs13 hs16 hs19 hs22, (Later.refl _).alloc _ _⟩
    | 17 =>
      intro o ho
      simp only [List.getElem?_toArray, List.getElem?_cons_zero, List.getElem?_cons_succ, Option.some.injEq] at ho
      subst ho
      intro a W hl hold hdep
      refine ite_yes rfl ?_
      obtain ⟨_, h23, hr23⟩ := hdep 16 (by decide) _ _ rfl rfl
      clear hold hdep
      unfold Oper.wp
      go_simp
      exact ⟨_, rfl, hr23, Later.refl _⟩
    | k + 18 => exact absurd hi (by simp)
  · intro a W hl hd hz hold hall
    obtain ⟨_, k2, hr2⟩ := hall 17 _ _ rfl rfl
    have ha := act_eta a 24 [] hz hd
    rw [show (List.range 24).map (fun s => a.tmps.getD s undef) = [a.tmps.getD 0 undef, a.tmps.getD 1 undef, a.tmps.getD 2 undef, a.tmps.getD 3 undef, a.tmps.getD 4 undef, a.tmps.getD 5 undef, a.tmps.getD 6 undef, a.tmps.getD 7 undef, a.tmps.getD 8 undef, a.tmps.getD 9 undef, a.tmps.getD 10 undef, a.tmps.getD 11 undef, a.tmps.getD 12 undef, a.tmps.getD 13 undef, a.tmps.getD 14 undef, a.tmps.getD 15 undef, a.tmps.getD 16 undef, a.tmps.getD 17 undef, a.tmps.getD 18 undef, a.tmps.getD 19 undef, a.tmps.getD 20 undef, a.tmps.getD 21 undef, a.tmps.getD 22 undef, a.tmps.getD 23 undef] from rfl, getD_of k2] at ha
    rw [ha]
    clear hall hold hz hd ha k2
    generalize a.tmps.getD 0 undef = x0
    generalize a.tmps.getD 1 undef = x1
    generalize a.tmps.getD 3 undef = x3
    generalize a.tmps.getD 4 undef = x4
    generalize a.tmps.getD 5 undef = x5
    generalize a.tmps.getD 6 undef = x6
    generalize a.tmps.getD 7 undef = x7
    generalize a.tmps.getD 8 undef = x8
    generalize a.tmps.getD 9 undef = x9
    generalize a.tmps.getD 10 undef = x10
    generalize a.tmps.getD 11 undef = x11
    generalize a.tmps.getD 12 undef = x12
    generalize a.tmps.getD 13 undef = x13
    generalize a.tmps.getD 14 undef = x14
    generalize a.tmps.getD 15 undef = x15
    generalize a.tmps.getD 16 undef = x16
    generalize a.tmps.getD 17 undef = x17
    generalize a.tmps.getD 18 undef = x18
    generalize a.tmps.getD 19 undef = x19
    generalize a.tmps.getD 20 undef = x20
    generalize a.tmps.getD 21 undef = x21
    generalize a.tmps.getD 22 undef = x22
    generalize a.tmps.getD 23 undef = x23
    go_wp2_with fail
    go_ret
    exact ⟨_, rfl, hr2, gtrans HG0.out hl⟩

end Go.Proofs.YtpkjbcgmhkkfiaaGreatDoor.Cod

/- Plain facts on the bytes of configurations: what is laid is read, and what is read is laid in just those bytes. Conditions: as each theorem states. -/
namespace Go.Proofs.YtpkjbcgmhkkfiaaGreatDoor.Ka
open Go.Proofs.YtpkjbcgmhkkfiaaGreatDoor.Zo Go.Proofs.YtpkjbcgmhkkfiaaGreatDoor.Su Go.Proofs.YtpkjbcgmhkkfiaaGreatDoor.Cf Go.Proofs.YtpkjbcgmhkkfiaaGreatDoor.Wi

theorem tn_in (t : Tn) (h : okB t = true ∨ ztB t = true) : In t.m ∧ In t.k ∧ In t.v ∧ In t.u := by
  rcases h with h | h
  · rw [okB_iff] at h
    unfold In
    omega
  · rw [ztB_iff] at h
    unfold In
    omega

theorem wo_in (x : Wn) (h : wo x = true) : ∀ n ∈ wr x, In n := by
  unfold wo al kn at h
  simp only [Bool.and_eq_true, bt_iff] at h
  obtain ⟨⟨k0, k1⟩, ⟨m0, m1⟩, ⟨p0, p1⟩, ⟨a0, a1⟩, ⟨h0, h1⟩, ⟨u0, u1⟩, l0, l1⟩ := h
  have hk : x.k = 1 ∨ x.k = 2 ∨ x.k = 3 ∨ x.k = 4 := by omega
  have hr : -10 ≤ (ru x.k).a0 ∧ (ru x.k).a1 ≤ 3651998 ∧ -10 ≤ (ru x.k).h0 ∧ (ru x.k).h1 ≤ 10 ∧ 0 ≤ (ru x.k).u0 ∧ (ru x.k).u1 ≤ 1439 ∧ 0 ≤ (ru x.k).l0 ∧ (ru x.k).l1 ≤ 10080 := by
    rcases hk with e | e | e | e <;> rw [e] <;> decide
  obtain ⟨q0, q1, q2, q3, q4, q5, q6, q7⟩ := hr
  intro n hn
  simp only [wr, List.mem_cons, List.not_mem_nil, or_false] at hn
  unfold In
  rcases hn with rfl | rfl | rfl | rfl | rfl | rfl | rfl <;> constructor <;> omega

theorem mem_getD {l : List Int} {n : Int} (h : n ∈ l) : ∃ i, i < l.length ∧ l.getD i 0 = n := by
  obtain ⟨i, hi⟩ := List.mem_iff_getElem?.1 h
  exact ⟨i, (List.getElem?_eq_some_iff.1 hi).1, by rw [List.getD_eq_getElem?_getD, hi]; rfl⟩

theorem ce_parts {c : Cg} (h : ce c = 0) : so c = true ∧ to c = true ∧ ti c = true ∧ ck c.z = 0 ∧ sk c.s = 0 ∧ c.ws.length ≤ 16 ∧ wa c.ws = true := by
  unfold ce at h
  by_cases h1 : so c = true
  · rw [if_pos h1] at h
    by_cases h2 : to c = true
    · rw [if_pos h2] at h
      by_cases h3 : ti c = true
      · rw [if_pos h3] at h
        by_cases h4 : ck c.z = 0
        · rw [if_pos h4] at h
          by_cases h5 : sk c.s = 0
          · rw [if_pos h5] at h
            by_cases h6 : c.ws.length ≤ 16
            · rw [if_pos h6] at h
              by_cases h7 : wa c.ws = true
              · exact ⟨h1, h2, h3, h4, h5, h6, h7⟩
              · rw [if_neg h7] at h; omega
            · rw [if_neg h6] at h; omega
          · rw [if_neg h5] at h; exact absurd h h5
        · rw [if_neg h4] at h; exact absurd h h4
      · rw [if_neg h3] at h; omega
    · rw [if_neg h2] at h; omega
  · rw [if_neg h1] at h; omega

theorem fit_ok {c : Cg} (h : ce c = 0) : Fit c := by
  obtain ⟨h1, h2, h3, h4, h5, h6, h7⟩ := ce_parts h
  intro k hk
  have hk6 : k = 0 ∨ k = 1 ∨ k = 2 ∨ k = 3 ∨ k = 4 ∨ k = 5 := by omega
  unfold so at h1
  simp only [Bool.and_eq_true, bt_iff] at h1
  unfold ti at h3
  simp only [Bool.and_eq_true, bt_iff] at h3
  rcases hk6 with rfl | rfl | rfl | rfl | rfl | rfl
  · intro n hn
    have hn' : n ∈ r1 c := hn
    simp only [r1, List.mem_cons, List.not_mem_nil, or_false] at hn'
    have hm : 0 ≤ mk c.ab ∧ mk c.ab ≤ 1 := by cases c.ab <;> decide
    unfold In
    rcases hn' with rfl | rfl | rfl | rfl | rfl | rfl <;> constructor <;> omega
  · intro n hn
    have hn' : n ∈ c.st := hn
    obtain ⟨i, hi, e⟩ := mem_getD hn'
    have := su_pos ((to_iff c).1 h2).2 i hi
    unfold In
    rw [← e]
    omega
  · intro n hn
    have hn' : n ∈ r3 c := hn
    simp only [r3, List.mem_cons, List.not_mem_nil, or_false] at hn'
    have hmin : min (min c.d c.r) c.q ≤ c.d := by omega
    unfold In
    rcases hn' with rfl | rfl | rfl | rfl | rfl | rfl | rfl <;> constructor <;> omega
  · intro n hn
    have hn' : n ∈ r4 c.z := hn
    obtain ⟨b0, b1, s0, s1, ht⟩ := (ck_may c.z).1 h4
    have hp : In c.z.p.m ∧ In c.z.p.k ∧ In c.z.p.v ∧ In c.z.p.u := by
      rcases ht with ht | ht
      · exact tn_in _ (.inr ht.2.1)
      · exact tn_in _ (.inl ht.2.1)
    have hq : In c.z.q.m ∧ In c.z.q.k ∧ In c.z.q.v ∧ In c.z.q.u := by
      rcases ht with ht | ht
      · exact tn_in _ (.inr ht.2.2)
      · exact tn_in _ (.inl ht.2.2.1)
    simp only [r4, List.mem_cons, List.not_mem_nil, or_false] at hn'
    rcases hn' with rfl | rfl | rfl | rfl | rfl | rfl | rfl | rfl | rfl | rfl
    · unfold In; omega
    · unfold In; omega
    · exact hp.1
    · exact hp.2.1
    · exact hp.2.2.1
    · exact hp.2.2.2
    · exact hq.1
    · exact hq.2.1
    · exact hq.2.2.1
    · exact hq.2.2.2
  · intro n hn
    have hn' : n ∈ r5 c.s := hn
    have hm := ((sk_ok c.s).1 h5).1
    simp only [r5, List.mem_cons, List.not_mem_nil, or_false] at hn'
    have a : ∀ i, i < 12 → In (c.s i) := fun i hi => by have := hm i hi; unfold In; omega
    rcases hn' with rfl | rfl | rfl | rfl | rfl | rfl | rfl | rfl | rfl | rfl | rfl | rfl <;> exact a _ (by omega)
  · intro n hn
    have hn' : n ∈ r6 c.ws := hn
    obtain ⟨x, hx, hxn⟩ := List.mem_flatMap.1 hn'
    exact wo_in x (List.all_eq_true.1 h7 x hx) n hxn

theorem rw_len {c : Cg} (k : Nat) (hk : k < 6) (h1 : c.st.length ≤ 200) (h2 : c.ws.length ≤ 16) : (rw6 c k).length ≤ 200 := by
  have hk6 : k = 0 ∨ k = 1 ∨ k = 2 ∨ k = 3 ∨ k = 4 ∨ k = 5 := by omega
  rcases hk6 with rfl | rfl | rfl | rfl | rfl | rfl
  · show (r1 c).length ≤ 200; simp [r1]
  · exact h1
  · show (r3 c).length ≤ 200; simp [r3]
  · show (r4 c.z).length ≤ 200; simp [r4]
  · show (r5 c.s).length ≤ 200; simp [r5]
  · show (r6 c.ws).length ≤ 200; rw [wr_len]; omega

theorem rws_len {c : Cg} (k : Nat) (hk : k ≤ 6) (h1 : c.st.length ≤ 200) (h2 : c.ws.length ≤ 16) : (rws c k).length ≤ 2010 * k := by
  induction k with
  | zero => simp [rws]
  | succ j ih =>
    have a := ih (by omega)
    have b := ro_len (rw6 c j)
    have d := rw_len (c := c) j (by omega) h1 h2
    rw [rws, List.length_append]
    omega

theorem by_len {c : Cg} (h1 : c.st.length ≤ 80) (h2 : c.ws.length ≤ 16) : (by6 c).length ≤ 2400 := by
  have l0 : (rw6 c 0).length = 6 := rfl
  have l1 : (rw6 c 1).length = c.st.length := rfl
  have l2 : (rw6 c 2).length = 7 := rfl
  have l3 : (rw6 c 3).length = 10 := rfl
  have l4 : (rw6 c 4).length = 12 := rfl
  have l5 : (rw6 c 5).length = c.ws.length * 7 := wr_len c.ws
  have a0 := ro_len (rw6 c 0)
  have a1 := ro_len (rw6 c 1)
  have a2 := ro_len (rw6 c 2)
  have a3 := ro_len (rw6 c 3)
  have a4 := ro_len (rw6 c 4)
  have a5 := ro_len (rw6 c 5)
  simp only [by6, rws, hd, List.length_append, List.length_cons, List.length_nil]
  omega

theorem rws_byte {c : Cg} (h : Fit c) (h1 : c.st.length ≤ 200) (h2 : c.ws.length ≤ 16) (k : Nat) (hk : k ≤ 6) : ∀ x ∈ hd ++ rws c k, 0 ≤ x ∧ x ≤ 255 := by
  induction k with
  | zero => intro x hx; simp [hd, rws] at hx; omega
  | succ j ih =>
    intro x hx
    rw [rws, ← List.append_assoc] at hx
    rcases List.mem_append.1 hx with g | g
    · exact ih (by omega) x g
    · exact ro_byte _ (h j (by omega)) (by have := rw_len (c := c) j (by omega) h1 h2; omega) x g

/-- A row that stands somewhere is read there. -/
theorem grow_at (bs l t : List Int) (p : Nat) (m : Int) (hl : ∀ n ∈ l, In n) (hm : (l.length : Int) ≤ m) (hn : l.length ≤ 1000) (hp : p ≤ bs.length) (e : bs.drop p = ro l ++ t) :
    grow bs p m = (l, ((p + (ro l).length : Nat) : Int), 0) ∧ bs.drop (p + (ro l).length) = t ∧ p + (ro l).length ≤ bs.length := by
  have e0 : bs.drop p = pu l.length ++ (l.flatMap pu ++ t) := by rw [e]; simp [ro]
  obtain ⟨a, b, c⟩ := g_at bs p l.length _ ⟨by omega, by omega⟩ hp e0
  have hlen : (ro l).length ≤ (bs.drop p).length := by rw [e]; simp
  rw [List.length_drop] at hlen
  have hro : (ro l).length = (pu l.length).length + (l.flatMap pu).length := by unfold ro; rw [List.length_append]
  have d : bs.drop (p + (pu l.length).length) = l.flatMap pu ++ t := by
    rw [← List.drop_drop, e0, List.drop_left]
  have i := gn_row bs l (p + (pu l.length).length) t hl (by omega) d
  refine ⟨?_, by rw [← List.drop_drop, e, List.drop_left], by omega⟩
  unfold grow
  rw [if_pos a, b, c, if_pos (by omega), Int.toNat_natCast, show ((p : Int) + ((pu l.length).length : Int)) = ((p + (pu l.length).length : Nat) : Int) by omega, i]
  congr 2
  omega

theorem gn_ok (bs : List Int) (hb : ∀ x ∈ bs, 0 ≤ x ∧ x ≤ 255) (k : Nat) (p : Nat) (hp : p ≤ bs.length) (h : (gn bs k p).2.2 = 0) :
    ∃ q : Nat, (gn bs k p).2.1 = q ∧ p ≤ q ∧ q ≤ bs.length ∧ (gn bs k p).1.length = k ∧ (bs.drop p).take (q - p) = (gn bs k p).1.flatMap pu ∧ ∀ n ∈ (gn bs k p).1, In n := by
  induction k generalizing p with
  | zero => exact ⟨p, rfl, Nat.le_refl _, hp, rfl, by simp [gn], by simp [gn]⟩
  | succ j ih =>
    by_cases he : gE bs p = 0
    · obtain ⟨g0, g1, g2, g3, g4⟩ := g_ok bs p hb he
      obtain ⟨r, hr⟩ : ∃ r : Nat, gP bs p = r := ⟨(gP bs p).toNat, by omega⟩
      rw [hr] at g1 g2 g3
      rw [gn, if_pos he, hr] at h ⊢
      by_cases h2 : (gn bs j r).2.2 = 0
      · rw [if_pos h2] at h ⊢
        obtain ⟨q, q1, q2, q3, q4, q5, q6⟩ := ih r (by omega) h2
        refine ⟨q, q1, by omega, q3, by simp [q4], ?_, ?_⟩
        · rw [show ((r : Int) - (p : Int)).toNat = r - p by omega, Int.toNat_natCast] at g3
          have e : (bs.drop p).take (q - p) = (bs.drop p).take (r - p) ++ (bs.drop r).take (q - r) := by
            rw [show q - p = (r - p) + (q - r) by omega, List.take_add, List.drop_drop, show p + (r - p) = r by omega]
          rw [e, g3, q5]
          rfl
        · intro n hn
          rcases List.mem_cons.1 hn with rfl | hn
          · exact g4
          · exact q6 n hn
      · rw [if_neg h2] at h
        exact absurd h h2
    · rw [gn, if_neg he] at h
      exact absurd h he

theorem grow_ok (bs : List Int) (hb : ∀ x ∈ bs, 0 ≤ x ∧ x ≤ 255) (p : Nat) (m : Int) (h : (grow bs p m).2.2 = 0) :
    ∃ q : Nat, (grow bs p m).2.1 = q ∧ p ≤ q ∧ q ≤ bs.length ∧ (((grow bs p m).1.length : Nat) : Int) ≤ m ∧ (bs.drop p).take (q - p) = ro (grow bs p m).1 ∧ ∀ n ∈ (grow bs p m).1, In n := by
  unfold grow at h ⊢
  by_cases he : gE bs p = 0
  · rw [if_pos he] at h ⊢
    by_cases hn : 0 ≤ gN bs p ∧ gN bs p ≤ m
    · rw [if_pos hn] at h ⊢
      obtain ⟨g0, g1, g2, g3, g4⟩ := g_ok bs p hb he
      obtain ⟨r, hr⟩ : ∃ r : Nat, gP bs p = r := ⟨(gP bs p).toNat, by omega⟩
      rw [hr] at g1 g2 g3 h ⊢
      obtain ⟨q, q1, q2, q3, q4, q5, q6⟩ := gn_ok bs hb _ r (by omega) h
      refine ⟨q, q1, by omega, q3, by omega, ?_, q6⟩
      rw [show ((r : Int) - (p : Int)).toNat = r - p by omega, Int.toNat_natCast] at g3
      have e : (bs.drop p).take (q - p) = (bs.drop p).take (r - p) ++ (bs.drop r).take (q - r) := by
        rw [show q - p = (r - p) + (q - r) by omega, List.take_add, List.drop_drop, show p + (r - p) = r by omega]
      rw [e, g3, q5]
      unfold ro
      rw [q4, show (((gN bs p).toNat : Nat) : Int) = gN bs p by omega]
    · rw [if_neg hn] at h
      simp at h
  · rw [if_neg he] at h
    exact absurd h he

/-- The rows from the k-th on. -/
def rwt (c : Cg) : Nat → Nat → List Int
  | _, 0 => []
  | k, j + 1 => ro (rw6 c k) ++ rwt c (k + 1) j

theorem rwt_all (c : Cg) : rwt c 0 6 = rws c 6 := by
  simp [rwt, rws, List.append_assoc]

/-- What is read is laid in just those bytes. -/
theorem dr_ok (bs : List Int) (hb : ∀ x ∈ bs, 0 ≤ x ∧ x ≤ 255) (j k p : Nat) (c : Cg) (hk : k + j = 6) (hp : p ≤ bs.length) (h : (dr bs j k p c).2.2 = 0) :
    ∃ q : Nat, (dr bs j k p c).2.1 = q ∧ p ≤ q ∧ q ≤ bs.length ∧ (∀ i, i < k → rw6 (dr bs j k p c).1 i = rw6 c i) ∧ (bs.drop p).take (q - p) = rwt (dr bs j k p c).1 k j := by
  induction j generalizing k p c with
  | zero => exact ⟨p, rfl, Nat.le_refl _, hp, fun _ _ => rfl, by simp [rwt]⟩
  | succ j ih =>
    rw [dr] at h ⊢
    by_cases he : (grow bs p 112).2.2 = 0
    · rw [if_pos he] at h ⊢
      obtain ⟨q, q1, q2, q3, q4, q5, _⟩ := grow_ok bs hb p 112 he
      by_cases hr : rg k (grow bs p 112).1 = true
      · rw [if_pos hr, q1] at h ⊢
        obtain ⟨r, s1, s2, s3, s4, s5⟩ := ih (k + 1) q (pt c k (grow bs p 112).1) (by omega) q3 h
        refine ⟨r, s1, by omega, s3, fun i hi => ?_, ?_⟩
        · rw [s4 i (by omega), pt_other c k i _ (by omega) (by omega) (by omega)]
        · have e : (bs.drop p).take (r - p) = (bs.drop p).take (q - p) ++ (bs.drop q).take (r - q) := by
            rw [show r - p = (q - p) + (r - q) by omega, List.take_add, List.drop_drop, show p + (q - p) = q by omega]
          rw [e, q5, s5, rwt, s4 k (by omega), pt_rw c k _ (by omega) hr]
      · rw [if_neg hr] at h
        simp at h
    · rw [if_neg he] at h
      exact absurd h he

theorem dr_st (bs : List Int) (hb : ∀ x ∈ bs, 0 ≤ x ∧ x ≤ 255) (j k p : Nat) (c : Cg) (hk : k + j = 6) (hp : p ≤ bs.length) (hc : c.st.length ≤ 112) (h : (dr bs j k p c).2.2 = 0) : (dr bs j k p c).1.st.length ≤ 112 := by
  induction j generalizing k p c with
  | zero => exact hc
  | succ j ih =>
    rw [dr] at h ⊢
    by_cases he : (grow bs p 112).2.2 = 0
    · rw [if_pos he] at h ⊢
      obtain ⟨q, q1, q2, q3, q4, q5, _⟩ := grow_ok bs hb p 112 he
      by_cases hr : rg k (grow bs p 112).1 = true
      · rw [if_pos hr, q1] at h ⊢
        refine ih (k + 1) q _ (by omega) q3 ?_ h
        have hk6 : k = 0 ∨ k = 1 ∨ k = 2 ∨ k = 3 ∨ k = 4 ∨ k = 5 := by omega
        rcases hk6 with rfl | rfl | rfl | rfl | rfl | rfl
        · exact hc
        · show (grow bs p 112).1.length ≤ 112
          omega
        · exact hc
        · exact hc
        · exact hc
        · exact hc
      · rw [if_neg hr] at h
        simp at h
    · rw [if_neg he] at h
      exact absurd h he

theorem hE_ok (b : List Int) (h : hE b = 0) : b = hd ++ b.drop 3 := by
  unfold hE at h
  by_cases h1 : b.take 2 = [78, 87]
  · rw [if_pos h1] at h
    by_cases h2 : b.drop 2 = [] ∨ (b.drop 2).getD 0 0 ≠ 1
    · rw [if_pos h2] at h; omega
    · match b with
      | [] => simp at h1
      | [x] => simp at h1
      | [x, y] => exact absurd (.inl rfl) h2
      | x :: y :: z :: r =>
        simp only [List.take_succ_cons, List.take_zero, List.cons.injEq, and_true] at h1
        obtain ⟨rfl, rfl⟩ := h1
        have hz : z = 1 := by
          by_cases e : z = 1
          · exact e
          · exact absurd (.inr e) h2
        subst hz
        rfl
  · rw [if_neg h1] at h; omega

/-- What is decoded is encoded in just those bytes, and may be. -/
theorem en_de (b : List Int) (hb : ∀ x ∈ b, 0 ≤ x ∧ x ≤ 255) (h : (de b).2 = 0) : en (de b).1 = b ∧ ce (de b).1 = 0 ∧ (de b).1.st.length ≤ 112 := by
  have ob := Cr.op_byte b hb
  unfold de at h ⊢
  by_cases h1 : (Cr.op b).2 = 0
  · rw [if_pos h1] at h ⊢
    have hs := Cr.se_op b hb h1
    generalize (Cr.op b).1 = x at *
    by_cases h2 : hE x = 0
    · rw [if_pos h2] at h ⊢
      have hx := hE_ok x h2
      by_cases h3 : (d6 (x.drop 3)).2 = 0
      · rw [if_pos h3] at h ⊢
        by_cases h4 : ce (d6 (x.drop 3)).1 = 0
        · rw [if_pos h4]
          refine ⟨?_, h4, ?_⟩
          · unfold d6 at h3 ⊢
            have hr : ∀ n ∈ x.drop 3, 0 ≤ n ∧ n ≤ 255 := fun n hn => ob n (List.mem_of_mem_drop hn)
            by_cases h5 : (dr (x.drop 3) 6 0 0 c0).2.2 = 0
            · rw [if_pos h5] at h3 ⊢
              obtain ⟨q, q1, q2, q3, _, q5⟩ := dr_ok (x.drop 3) hr 6 0 0 c0 rfl (Nat.zero_le _) h5
              rw [Int.natCast_zero] at q1 q5
              by_cases h6 : (dr (x.drop 3) 6 0 0 c0).2.1 < ((x.drop 3).length : Int)
              · rw [if_pos h6] at h3; simp at h3
              · rw [if_neg h6]
                rw [q1] at h6
                unfold en by6
                rw [← rwt_all, ← q5, List.drop_zero, List.take_of_length_le (by omega), ← hx]
                exact hs
            · rw [if_neg h5] at h3
              exact absurd h3 h5
          · unfold d6 at h3 ⊢
            have hr : ∀ n ∈ x.drop 3, 0 ≤ n ∧ n ≤ 255 := fun n hn => ob n (List.mem_of_mem_drop hn)
            by_cases h5 : (dr (x.drop 3) 6 0 0 c0).2.2 = 0
            · rw [if_pos h5] at h3 ⊢
              have := dr_st (x.drop 3) hr 6 0 0 c0 rfl (Nat.zero_le _) (by simp [c0]) h5
              by_cases h6 : (dr (x.drop 3) 6 0 0 c0).2.1 < ((x.drop 3).length : Int)
              · rw [if_pos h6] at h3; simp at h3
              · rw [if_neg h6]
                exact this
            · rw [if_neg h5] at h3
              exact absurd h3 h5
        · rw [if_neg h4] at h
          exact absurd h h4
      · rw [if_neg h3] at h
        exact absurd h h3
    · rw [if_neg h2] at h
      exact absurd h h2
  · rw [if_neg h1] at h
    exact absurd h h1

/-- With sunsets of its own. -/
def cn (c : Cg) : Cg := { c with s := fun i => (r5 c.s).getD i 0 }

theorem r5_get (s : Nat → Int) (i : Nat) (h : i < 12) : (r5 s).getD i 0 = s i := by
  have : i = 0 ∨ i = 1 ∨ i = 2 ∨ i = 3 ∨ i = 4 ∨ i = 5 ∨ i = 6 ∨ i = 7 ∨ i = 8 ∨ i = 9 ∨ i = 10 ∨ i = 11 := by omega
  rcases this with rfl | rfl | rfl | rfl | rfl | rfl | rfl | rfl | rfl | rfl | rfl | rfl <;> rfl

theorem sk_eq {r s : Nat → Int} (h : ∀ i, i < 12 → r i = s i) : sk r = sk s := by
  have e1 : okM r ↔ okM s := by
    unfold okM
    constructor <;> intro k i hi
    · have := k i hi
      rwa [h i hi] at this
    · rw [h i hi]
      exact k i hi
  have e2 : okS r ↔ okS s := by
    unfold okS
    constructor <;> intro k i hi
    · have := k i hi
      rwa [h i hi, h _ (Nat.mod_lt _ (by omega))] at this
    · rw [h i hi, h _ (Nat.mod_lt _ (by omega))]
      exact k i hi
  unfold sk
  simp only [e1, e2]

theorem sk_cn (s : Nat → Int) : sk (fun i => (r5 s).getD i 0) = sk s := sk_eq (fun i hi => r5_get s i hi)

theorem ce_cn (c : Cg) : ce (cn c) = ce c := by
  unfold ce
  have e : sk (cn c).s = sk c.s := sk_cn c.s
  rw [e]
  rfl

theorem pt0 (c : Cg) (r : List Int) : pt c 0 r = { c with f := r.getD 0 0, n := r.getD 1 0, p := r.getD 2 0, r := r.getD 3 0, q := r.getD 4 0, ab := r.getD 5 0 == 1 } := rfl
theorem pt1 (c : Cg) (r : List Int) : pt c 1 r = { c with st := r } := rfl
theorem pt2 (c : Cg) (r : List Int) : pt c 2 r = { c with t := r.getD 0 0, l := r.getD 1 0, o := r.getD 2 0, d := r.getD 3 0, e := r.getD 4 0, c := r.getD 5 0, h := r.getD 6 0 } := rfl
theorem pt3 (c : Cg) (r : List Int) : pt c 3 r = { c with z := ⟨r.getD 0 0, r.getD 1 0, ⟨r.getD 2 0, r.getD 3 0, r.getD 4 0, r.getD 5 0⟩, ⟨r.getD 6 0, r.getD 7 0, r.getD 8 0, r.getD 9 0⟩⟩ } := rfl
theorem pt4 (c : Cg) (r : List Int) : pt c 4 r = { c with s := fun i => r.getD i 0 } := rfl
theorem pt5 (c : Cg) (r : List Int) : pt c 5 r = { c with ws := wns (r.length / 7) r } := rfl

theorem pt_six (a b d e f g : List Int) : pt (pt (pt (pt (pt (pt c0 0 a) 1 b) 2 d) 3 e) 4 f) 5 g =
    ⟨a.getD 0 0, a.getD 1 0, a.getD 2 0, b, d.getD 0 0, d.getD 1 0, d.getD 2 0, d.getD 3 0, d.getD 4 0, d.getD 5 0, d.getD 6 0, a.getD 3 0, a.getD 4 0,
      ⟨e.getD 0 0, e.getD 1 0, ⟨e.getD 2 0, e.getD 3 0, e.getD 4 0, e.getD 5 0⟩, ⟨e.getD 6 0, e.getD 7 0, e.getD 8 0, e.getD 9 0⟩⟩, fun i => f.getD i 0, a.getD 5 0 == 1, wns (g.length / 7) g⟩ := by
  rw [pt5, pt4, pt3, pt2, pt1, pt0]

theorem w0 (c : Cg) : rw6 c 0 = r1 c := rfl
theorem w1 (c : Cg) : rw6 c 1 = c.st := rfl
theorem w2 (c : Cg) : rw6 c 2 = r3 c := rfl
theorem w3 (c : Cg) : rw6 c 3 = r4 c.z := rfl
theorem w4 (c : Cg) : rw6 c 4 = r5 c.s := rfl
theorem w5 (c : Cg) : rw6 c 5 = r6 c.ws := rfl

/-- What is laid is read. -/
theorem pt_all (c : Cg) : pt (pt (pt (pt (pt (pt c0 0 (rw6 c 0)) 1 (rw6 c 1)) 2 (rw6 c 2)) 3 (rw6 c 3)) 4 (rw6 c 4)) 5 (rw6 c 5) = cn c := by
  have e5 : wns ((r6 c.ws).length / 7) (r6 c.ws) = c.ws := by
    rw [wr_len, Nat.mul_div_cancel _ (by omega)]
    exact wns_r6 c.ws
  have ea : (mk c.ab == 1) = c.ab := by cases c.ab <;> rfl
  rw [w0, w1, w2, w3, w4, w5, pt_six, e5]
  simp only [r1, r3, r4, List.getD_cons_zero, List.getD_cons_succ, ea]
  rfl

theorem dr_step (bs t : List Int) (c d : Cg) (j k p : Nat) (hk : k < 6) (hf : Fit c) (h1 : c.st.length ≤ 112) (h2 : c.ws.length ≤ 16) (hp : p ≤ bs.length) (e : bs.drop p = ro (rw6 c k) ++ t) :
    dr bs (j + 1) k p d = dr bs j (k + 1) ((p + (ro (rw6 c k)).length : Nat) : Int) (pt d k (rw6 c k)) ∧ bs.drop (p + (ro (rw6 c k)).length) = t ∧ p + (ro (rw6 c k)).length ≤ bs.length := by
  have hl : ((rw6 c k).length : Int) ≤ 112 := by
    have hk6 : k = 0 ∨ k = 1 ∨ k = 2 ∨ k = 3 ∨ k = 4 ∨ k = 5 := by omega
    rcases hk6 with rfl | rfl | rfl | rfl | rfl | rfl
    · show ((r1 c).length : Int) ≤ 112; simp [r1]
    · show (c.st.length : Int) ≤ 112; omega
    · show ((r3 c).length : Int) ≤ 112; simp [r3]
    · show ((r4 c.z).length : Int) ≤ 112; simp [r4]
    · show ((r5 c.s).length : Int) ≤ 112; simp [r5]
    · show ((r6 c.ws).length : Int) ≤ 112; rw [wr_len]; omega
  obtain ⟨a, b, d'⟩ := grow_at bs (rw6 c k) t p 112 (hf k hk) hl (by omega) hp e
  refine ⟨?_, b, d'⟩
  rw [dr, a, if_pos rfl, if_pos (rg_rw c k hk)]

theorem de_en (c : Cg) (h : ce c = 0) (h1 : c.st.length ≤ 112) : de (en c) = (cn c, 0) := by
  have h2 := (ce_parts h).2.2.2.2.2.1
  have hf := fit_ok h
  have hop := Cr.op_se (by6 c)
  have h0 : hE (by6 c) = 0 := rfl
  have hd3 : (by6 c).drop 3 = rws c 6 := rfl
  have hr : d6 (rws c 6) = (cn c, 0) := by
    have e0 : (rws c 6).drop 0 = ro (rw6 c 0) ++ rwt c 1 5 := by rw [← rwt_all]; rfl
    obtain ⟨a0, b0, q0⟩ := dr_step (rws c 6) _ c c0 5 0 0 (by omega) hf h1 h2 (Nat.zero_le _) e0
    obtain ⟨a1, b1, q1⟩ := dr_step (rws c 6) _ c (pt c0 0 (rw6 c 0)) 4 1 _ (by omega) hf h1 h2 q0 b0
    obtain ⟨a2, b2, q2⟩ := dr_step (rws c 6) _ c (pt (pt c0 0 (rw6 c 0)) 1 (rw6 c 1)) 3 2 _ (by omega) hf h1 h2 q1 b1
    obtain ⟨a3, b3, q3⟩ := dr_step (rws c 6) _ c (pt (pt (pt c0 0 (rw6 c 0)) 1 (rw6 c 1)) 2 (rw6 c 2)) 2 3 _ (by omega) hf h1 h2 q2 b2
    obtain ⟨a4, b4, q4⟩ := dr_step (rws c 6) _ c (pt (pt (pt (pt c0 0 (rw6 c 0)) 1 (rw6 c 1)) 2 (rw6 c 2)) 3 (rw6 c 3)) 1 4 _ (by omega) hf h1 h2 q3 b3
    obtain ⟨a5, b5, q5⟩ := dr_step (rws c 6) _ c (pt (pt (pt (pt (pt c0 0 (rw6 c 0)) 1 (rw6 c 1)) 2 (rw6 c 2)) 3 (rw6 c 3)) 4 (rw6 c 4)) 0 5 _ (by omega) hf h1 h2 q4 b4
    have hz : (rws c 6).length ≤ 0 + (ro (rw6 c 0)).length + (ro (rw6 c 1)).length + (ro (rw6 c 2)).length + (ro (rw6 c 3)).length + (ro (rw6 c 4)).length + (ro (rw6 c 5)).length := by
      have b5' : (rws c 6).drop (0 + (ro (rw6 c 0)).length + (ro (rw6 c 1)).length + (ro (rw6 c 2)).length + (ro (rw6 c 3)).length + (ro (rw6 c 4)).length + (ro (rw6 c 5)).length) = [] := b5
      have := congrArg List.length b5'
      rw [List.length_drop, List.length_nil] at this
      omega
    obtain ⟨N, hN⟩ : ∃ N, N = 0 + (ro (rw6 c 0)).length + (ro (rw6 c 1)).length + (ro (rw6 c 2)).length + (ro (rw6 c 3)).length + (ro (rw6 c 4)).length + (ro (rw6 c 5)).length := ⟨_, rfl⟩
    rw [← hN] at hz a5
    have e : dr (rws c 6) 6 0 0 c0 = (cn c, (N : Int), 0) := by
      have a0' : dr (rws c 6) 6 0 0 c0 = _ := a0
      rw [a0', a1, a2, a3, a4, a5, dr, pt_all]
    unfold d6
    rw [e]
    show (if (0 : Int) = 0 then (if (N : Int) < ((rws c 6).length : Int) then (c0, 113) else (cn c, 0)) else (c0, 0)) = (cn c, 0)
    rw [if_pos rfl, if_neg (by omega)]
  unfold de en
  rw [hop]
  simp only [if_true, h0, hd3, hr, ce_cn, h]

theorem set_same (xs : List Int) (i : Nat) (y : Int) (h : xs[i]? = some y) : xs.set i y = xs := by
  obtain ⟨q1, q2⟩ := List.getElem?_eq_some_iff.1 h
  rw [← q2, List.set_getElem_self]

/-- With a byte turned it is not opened. -/
theorem op_one (xs : List Int) (i : Nat) (x x' a : Int) (hz : Cr.mo Cr.st xs = 0#16) (h2 : 2 ≤ xs.length) (h1 : xs[i]? = some x) (ha : 1 ≤ a ∧ a ≤ 255) (ex : Cr.up x' = Cr.up x ^^^ Cr.up a) : Cr.op (xs.set i x') = ([], 91) := by
  have li := (List.getElem?_eq_some_iff.1 h1).1
  by_cases hi : i + 1 < xs.length
  · obtain ⟨y, hy⟩ : ∃ y, xs[i + 1]? = some y := ⟨_, List.getElem?_eq_getElem hi⟩
    have := Cr.op_turned xs i x y x' y a 0 hz h1 hy ⟨by omega, by omega⟩ ⟨by omega, by omega⟩ (by omega) ex (by rw [Cr.up_zero]; simp)
    rwa [set_same _ _ _ (by rw [List.getElem?_set_ne (by omega)]; exact hy)] at this
  · obtain ⟨k, rfl⟩ : ∃ k, i = k + 1 := ⟨i - 1, by omega⟩
    obtain ⟨y, hy⟩ : ∃ y, xs[k]? = some y := ⟨_, List.getElem?_eq_getElem (by omega)⟩
    have := Cr.op_turned xs k y x y x' 0 a hz hy h1 ⟨by omega, by omega⟩ ⟨by omega, by omega⟩ (by omega) (by rw [Cr.up_zero]; simp) ex
    rwa [set_same _ _ _ hy] at this

theorem de_turned (c : Cg) (i : Nat) (x x' a : Int) (h1 : (en c)[i]? = some x) (ha : 1 ≤ a ∧ a ≤ 255) (ex : Cr.up x' = Cr.up x ^^^ Cr.up a) : de ((en c).set i x') = (c0, 91) := by
  have := op_one (en c) i x x' a (Cr.mo_se _) (by unfold en; rw [Cr.se_len]; omega) h1 ha ex
  unfold de
  rw [this]
  rfl

theorem de_two : de (Cr.se [78, 87, 2]) = (c0, 111) := by
  have h := Cr.op_se [78, 87, 2]
  unfold de
  rw [h]
  rfl

end Go.Proofs.YtpkjbcgmhkkfiaaGreatDoor.Ka

/- What a half byte, a bit and two bytes come to, by the program and by the document's reckoning. Conditions: the table lies where the program lays it; the numbers are of their kinds, as each theorem says. -/
namespace Go.Proofs.YtpkjbcgmhkkfiaaGreatDoor.Crc
open Go.ChangeShapes Go.WideShapes Go.ChangeAt Go.RowKit
open Go.Proofs.YtpkjbcgmhkkfiaaGreatDoor.Divs Go.Proofs.YtpkjbcgmhkkfiaaGreatDoor.Grow Go.Proofs.YtpkjbcgmhkkfiaaGreatDoor.By Go.Proofs.YtpkjbcgmhkkfiaaGreatDoor.Cr

/-- What half a byte makes of the sum 0. -/
def tb (i : Nat) : BitVec 16 := H (BitVec.ofNat 16 i <<< 12)

/-- The table stands in the variable's cells. -/
def Laid (w : World) : Prop := ∀ i : Nat, i < 16 → w.cell? ⟨3, i, none⟩ = some (.int .u16 ((tb i).toNat : Int))

theorem Laid.grown {w w' : World} (h : Laid w) (hg : Later w w') : Laid w' := fun i hi => gsome hg (h i hi)

theorem retu {a b : Int} (h : a = b) : Ending.returned (.int .u16 a) = .returned (.int .u16 b) := by rw [h]

theorem half_eq (s : BitVec 16) (h : Nat) (_ : h < 16) : bits .xor .u16 (IntKind.u16.wrap ((s.toNat : Int) * 16)) ((tb (s.toNat / 4096 ^^^ h)).toNat : Int) = ((H (s ^^^ (BitVec.ofNat 16 h <<< 12))).toNat : Int) := by
  have e1 : IntKind.u16.wrap ((s.toNat : Int) * 16) = (((s <<< 4).toNat : Nat) : Int) := by
    rw [IntKind.wrap_u16, BitVec.toNat_shiftLeft, Nat.shiftLeft_eq]
    omega
  have e2 : BitVec.ofNat 16 (s.toNat / 4096 ^^^ h) = (s >>> 12) ^^^ BitVec.ofNat 16 h := by
    apply BitVec.eq_of_toNat_eq
    rw [BitVec.toNat_xor, BitVec.toNat_ofNat, BitVec.toNat_ofNat, BitVec.toNat_ushiftRight, Nat.shiftRight_eq_div_pow, Nat.xor_mod_two_pow]
    congr 1
    have := s.isLt
    omega
  rw [e1, u16_xor_nat _ _ (s <<< 4).isLt (tb _).isLt, half_step, BitVec.toNat_xor]
  unfold tb
  rw [e2]

theorem half_any (s : BitVec 16) (h : Nat) (w : World) (hh : h < 16) (hL : Laid w) :
    Calls Tryz.prog 87 #[.int .u16 (s.toNat : Int), .int .u8 (h : Int)] w fun e w' => e = .returned (.int .u16 ((H (s ^^^ (BitVec.ofNat 16 h <<< 12))).toNat : Int)) ∧ w = w' := by
  have HE := Lib.hid (half_eq s h hh)
  obtain ⟨n, hn⟩ : ∃ n : Nat, s.toNat = n := ⟨_, rfl⟩
  have hn1 : n < 65536 := by rw [← hn]; exact s.isLt
  obtain ⟨K, hK⟩ : ∃ K : Nat, n / 4096 ^^^ h = K := ⟨_, rfl⟩
  have hk1 : K < 16 := by rw [← hK]; exact Nat.xor_lt_two_pow (n := 4) (by omega) (by omega)
  have hk : bits .xor .u8 ((n : Int) / 4096) (h : Int) = (K : Int) := by
    have := u8_xor_nat (n / 4096) h (by omega) (by omega)
    rw [hK] at this
    rw [← this]
    congr 1
  have c := hL K hk1
  rw [hn, hK] at HE
  rw [hn]
  obtain ⟨T, hT⟩ : ∃ T : Int, ((tb K).toNat : Int) = T := ⟨_, rfl⟩
  rw [hT] at HE c
  clear hL hK hn hT
  go_enter Tryz.func87, Tryz.ntmps87
  go_wp2
  go_ret
  exact ⟨retu HE.out, rfl⟩

theorem bit_eq (s : BitVec 16) (b : Bool) : L (s ^^^ (if b then 32768#16 else 0#16)) = (s <<< 1) ^^^ (if s.msb != b then 4129#16 else 0#16) := by
  unfold L
  have hm : (32768#16).msb = true := by decide
  rw [BitVec.shiftLeft_xor_distrib, BitVec.msb_xor]
  cases b <;> cases s.msb <;> simp [hm]

theorem i64_xor_nat (a b : Nat) (ha : a < 65536) (hb : b < 65536) : bits .xor .i64 (a : Int) (b : Int) = ((a ^^^ b : Nat) : Int) := by
  have hx : a ^^^ b < 2 ^ 16 := Nat.xor_lt_two_pow (by omega) (by omega)
  show IntKind.i64.wrap ((BitVec.ofInt 64 (a : Int) ^^^ BitVec.ofInt 64 (b : Int)).toNat : Int) = _
  rw [BitVec.toNat_xor, ofInt_u64 a (by omega), ofInt_u64 b (by omega), IntKind.wrap_i64]
  omega

/-- A sum's number. -/
def sn (s : BitVec 16) : Int := (s.toNat : Int)

theorem sn_bd (s : BitVec 16) : 0 ≤ sn s ∧ sn s ≤ 65535 := by
  have := s.isLt
  unfold sn
  omega

theorem i64_xor_sn (s t : BitVec 16) : bits .xor .i64 (sn s) (sn t) = sn (s ^^^ t) := by
  unfold sn
  rw [i64_xor_nat _ _ s.isLt t.isLt, BitVec.toNat_xor]

theorem i64_and_low (n : Int) : bits .and .i64 n 65535 = sn (BitVec.ofInt 16 n) := by
  have h127 : (BitVec.ofInt 64 65535).toNat = 2 ^ 16 - 1 := by decide
  have key : (BitVec.ofInt 64 n &&& BitVec.ofInt 64 65535).toNat = (n % ((2 ^ 64 : Nat) : Int)).toNat % 2 ^ 16 := by
    rw [BitVec.toNat_and, BitVec.toNat_ofInt, h127, Nat.and_two_pow_sub_one_eq_mod]
  show IntKind.i64.wrap ((BitVec.ofInt 64 n &&& BitVec.ofInt 64 65535).toNat : Nat) = _
  unfold sn
  rw [key, IntKind.wrap_i64, BitVec.toNat_ofInt]
  omega

theorem u16_low (n : Int) : IntKind.u16.wrap n = sn (BitVec.ofInt 16 n) := by
  unfold sn
  rw [IntKind.wrap_u16, BitVec.toNat_ofInt]
  omega

theorem bit_any (s : BitVec 16) (b : Bool) (w : World) :
    Calls Tryz.prog 65 #[.int .i64 (sn s), .bool b] w fun e w' => e = .returned (.int .i64 (sn (L (s ^^^ (if b then 32768#16 else 0#16))))) ∧ w = w' := by
  rw [bit_eq]
  have em : s.msb = decide (32768 ≤ sn s) := by
    rw [BitVec.msb_eq_decide]
    exact decide_eq_decide.2 (by unfold sn; omega)
  have e1 : sn (s <<< 1) = sn s * 2 % 65536 := by
    unfold sn
    rw [BitVec.toNat_shiftLeft, Nat.shiftLeft_eq]
    omega
  have e2 := i64_xor_sn (s <<< 1) 4129#16
  rw [e1, show sn 4129#16 = 4129 by decide] at e2
  obtain ⟨n0, n1⟩ := sn_bd s
  obtain ⟨n, hn⟩ : ∃ n, sn s = n := ⟨_, rfl⟩
  rw [hn] at em e1 e2 n0 n1 ⊢
  have HE := Lib.hid e1
  have HX := Lib.hid e2
  clear hn e1 e2
  by_cases hm : 32768 ≤ n
  · have t : decide (32768 ≤ n) = true := by simpa using hm
    rw [t] at em
    rw [em]
    clear em
    cases b
    · rw [if_pos (by decide)]
      go_enter Tryz.func65, Tryz.ntmps65
      go_wp2
      go_ret
      exact ⟨ret1 HX.out, rfl⟩
    · rw [if_neg (by simp), BitVec.xor_zero]
      go_enter Tryz.func65, Tryz.ntmps65
      go_wp2
      go_ret
      exact ⟨ret1 HE.out.symm, rfl⟩
  · have t : decide (32768 ≤ n) = false := by simpa using hm
    rw [t] at em
    rw [em]
    clear em
    cases b
    · rw [if_neg (by simp), BitVec.xor_zero]
      go_enter Tryz.func65, Tryz.ntmps65
      go_wp2
      go_ret
      exact ⟨ret1 HE.out.symm, rfl⟩
    · rw [if_pos (by decide)]
      go_enter Tryz.func65, Tryz.ntmps65
      go_wp2
      go_ret
      exact ⟨ret1 HX.out, rfl⟩

theorem sumat_any (xs : List Int) (i : Nat) (x y : Int) (v : Value) (w : World) (hs : Sk .u8 w v xs) (h1 : xs[i]? = some x) (h2 : xs[i + 1]? = some y) (hx : 0 ≤ x ∧ x ≤ 255) (hy : 0 ≤ y ∧ y ≤ 255) :
    Calls Tryz.prog 75 #[v, .int .i64 (i : Int)] w fun e w' => e = .returned (.int .i64 (x * 256 + y)) ∧ Later w w' := by
  have l1 := (List.getElem?_eq_some_iff.1 h1).1
  have l2 := (List.getElem?_eq_some_iff.1 h2).1
  obtain ⟨b, off, cap, rfl, m1, m2, _, hc⟩ := hs.has (by omega)
  have c1 := hc i l1
  rw [List.getD_eq_getElem?_getD, h1, Option.getD_some] at c1
  have c2 := hc (i + 1) l2
  rw [List.getD_eq_getElem?_getD, h2, Option.getD_some] at c2
  clear hc h1 h2 hs
  obtain ⟨x0, x1⟩ := hx
  obtain ⟨y0, y1⟩ := hy
  go_enter Tryz.func75, Tryz.ntmps75
  go_wp2
  go_quiet (fail)
  go_wp2
  go_ret
  exact ⟨rfl, later_drewN w _⟩
end Go.Proofs.YtpkjbcgmhkkfiaaGreatDoor.Crc

/- What More and Sum answer, by the program and by the document's reckoning. Conditions: the table lies where the program lays it; the sum is an int, the bytes are bytes. -/
namespace Go.Proofs.YtpkjbcgmhkkfiaaGreatDoor.Crc
open Go.ChangeShapes Go.WideShapes Go.ChangeAt Go.RowKit
open Go.Proofs.YtpkjbcgmhkkfiaaGreatDoor.Divs Go.Proofs.YtpkjbcgmhkkfiaaGreatDoor.Grow Go.Proofs.YtpkjbcgmhkkfiaaGreatDoor.By Go.Proofs.YtpkjbcgmhkkfiaaGreatDoor.Cr

/-- The start of a sum: a number's 16 lowest bits. -/
def b16 (a : Int) : BitVec 16 := BitVec.ofInt 16 a

theorem half_hi (s : BitVec 16) (x : Int) (w : World) (h0 : 0 ≤ x) (h1 : x ≤ 255) (hL : Laid w) :
    Calls Tryz.prog 87 #[.int .u16 (sn s), .int .u8 (x / 16)] w fun e w' => e = .returned (.int .u16 (sn (H (s ^^^ (BitVec.ofNat 16 (x.toNat / 16) <<< 12))))) ∧ w = w' := by
  have := half_any s (x.toNat / 16) w (by omega) hL
  rw [show (((x.toNat / 16 : Nat)) : Int) = x / 16 by omega] at this
  exact this

theorem half_lo (s : BitVec 16) (x : Int) (w : World) (h0 : 0 ≤ x) (h1 : x ≤ 255) (hL : Laid w) :
    Calls Tryz.prog 87 #[.int .u16 (sn s), .int .u8 (x % 16)] w fun e w' => e = .returned (.int .u16 (sn (H (s ^^^ (BitVec.ofNat 16 (x.toNat % 16) <<< 12))))) ∧ w = w' := by
  have := half_any s (x.toNat % 16) w (by omega) hL
  rw [show (((x.toNat % 16 : Nat)) : Int) = x % 16 by omega] at this
  exact this

theorem more_nil (a : Int) (ad : Option Addr) (cap : Nat) (w : World) :
    Calls Tryz.prog 68 #[.int .i64 a, .slice ad 0 cap] w fun e w' => e = .returned (.int .i64 (sn (b16 a))) ∧ w = w' := by
  have hu := u16_low a
  obtain ⟨n0, n1⟩ := sn_bd (b16 a)
  rw [show BitVec.ofInt 16 a = b16 a from rfl] at hu
  generalize sn (b16 a) = n at *
  go_enter Tryz.func68, Tryz.ntmps68
  go_wp2_with fail
  refine wp_loop_rounds 1 ?_
  rw [rounds_succ]
  go_wp2
  go_ret
  exact ⟨rfl, rfl⟩

def MRel (s : BitVec 16) (xs : List Int) (v i : Value) : Prop := ∃ j : Nat, j ≤ xs.length ∧ i = .int .i64 (j : Int) ∧ v = .int .u16 (sn (mo s (xs.take j)))

theorem more_some (a : Int) (xs : List Int) (b off cap : Nat) (w : World) (hp : 0 < xs.length) (hm : xs.length ≤ 9223372036854775807) (hb : ∀ x ∈ xs, 0 ≤ x ∧ x ≤ 255) (hc : ∀ i, i < xs.length → w.cell? ⟨b, off + i, none⟩ = some (.int .u8 (xs.getD i 0))) (hL : Laid w) :
    Calls Tryz.prog 68 #[.int .i64 a, .slice (some ⟨b, off, none⟩) xs.length cap] w fun e w' => e = .returned (.int .i64 (sn (mo (b16 a) xs))) ∧ w = w' := by
  have hu := u16_low a
  rw [show BitVec.ofInt 16 a = b16 a from rfl] at hu
  have HC := Lib.hid hc
  have HB := Lib.hid hb
  have P := Lib.hid (fun s x (h0 : 0 ≤ x) (h1 : x ≤ 255) => half_hi s x w h0 h1 hL)
  have Q := Lib.hid (fun s x (h0 : 0 ≤ x) (h1 : x ≤ 255) => half_lo s x w h0 h1 hL)
  have HF := Lib.hid (fun s (x : Int) (h0 : 0 ≤ x) (h1 : x ≤ 255) => congrArg sn (byte_halves s x h0 h1))
  clear hc hb hL
  go_enter Tryz.func68, Tryz.ntmps68
  go_wp2_with fail
  clear hu
  go_loop [5, 12] (fun v i => MRel (b16 a) xs v i) (fun _ i => xs.length - (intOf i).toNat)
  case atStart => exact ⟨0, by omega, rfl, rfl⟩
  case round =>
    obtain ⟨j, hj, rfl, rfl⟩ := hrel
    obtain ⟨s, hs⟩ : ∃ s, s = mo (b16 a) (xs.take j) := ⟨_, rfl⟩
    rw [← hs]
    obtain ⟨n0, n1⟩ := sn_bd s
    by_cases hlt : j < xs.length
    · obtain ⟨x, hx⟩ : ∃ x, xs[j]? = some x := ⟨_, List.getElem?_eq_getElem hlt⟩
      have c := HC.out j hlt
      rw [List.getD_eq_getElem?_getD, hx, Option.getD_some] at c
      obtain ⟨x0, x1⟩ := HB.out x (List.mem_of_getElem? hx)
      have HT := Lib.hid (mo_take (b16 a) xs j x hx)
      rw [← hs] at HT
      clear hs hx
      go_wp2_with fail
      refine (P.out _ _ x0 x1).mono ?_
      rintro e w' ⟨rfl, rfl⟩
      go_wp2_with fail
      refine (Q.out _ _ x0 x1).mono ?_
      rintro e w' ⟨rfl, rfl⟩
      go_wp2_with fail
      go_round
      case rel => exact ⟨j + 1, by omega, by go_num, by rw [HT.out, HF.out _ _ x0 x1]⟩
      case measure => simp [intOf]; omega
    · obtain rfl : j = xs.length := by omega
      rw [List.take_length] at hs
      have HS := Lib.hid hs
      clear hs
      go_wp2
      go_ret
      exact ⟨ret1 (by rw [HS.out]), rfl⟩

theorem more_any (a : Int) (xs : List Int) (v : Value) (w : World) (hs : Sk .u8 w v xs) (hb : ∀ x ∈ xs, 0 ≤ x ∧ x ≤ 255) (hL : Laid w) :
    Calls Tryz.prog 68 #[.int .i64 a, v] w fun e w' => e = .returned (.int .i64 (sn (mo (b16 a) xs))) ∧ w = w' := by
  rcases Nat.eq_zero_or_pos xs.length with h | h
  · obtain rfl := List.length_eq_zero_iff.1 h
    obtain ⟨ad, cap, rfl, _⟩ := hs.bare
    exact more_nil a ad cap w
  · obtain ⟨b, off, cap, rfl, h1, h2, _, hc⟩ := hs.has h
    exact more_some a xs b off cap w h (by omega) hb hc hL

theorem sum_any (xs : List Int) (v : Value) (w : World) (hs : Sk .u8 w v xs) (hb : ∀ x ∈ xs, 0 ≤ x ∧ x ≤ 255) (hL : Laid w) :
    Calls Tryz.prog 45 #[v] w fun e w' => e = .returned (.int .i64 (sn (mo st xs))) ∧ w = w' := by
  have M := Lib.hid (more_any 65535 xs v w hs hb hL)
  rw [show b16 65535 = st by decide] at M
  clear hs
  go_enter Tryz.func45, Tryz.ntmps45
  go_wp2_with fail
  refine M.out.mono ?_
  rintro e w' ⟨rfl, rfl⟩
  go_wp2_with fail
  go_ret
  exact ⟨rfl, rfl⟩

/-- The reckoning's rounds: over bytes, and over a byte's bits. -/
def BRel (s : BitVec 16) (x : Int) (v k : Value) : Prop := ∃ j : Nat, j ≤ 8 ∧ k = .int .i64 (7 - (j : Int)) ∧ v = .int .i64 (sn (bits8 s x j))

def RRel (s : BitVec 16) (xs : List Int) (v i : Value) : Prop := ∃ j : Nat, j ≤ xs.length ∧ i = .int .i64 (j : Int) ∧ v = .int .i64 (sn (mo s (xs.take j)))

theorem rmore_nil (a : Int) (ad : Option Addr) (cap : Nat) (w : World) :
    Calls Tryz.prog 35 #[.int .i64 a, .slice ad 0 cap] w fun e w' => e = .returned (.int .i64 (sn (b16 a))) ∧ w = w' := by
  have hu := i64_and_low a
  rw [show BitVec.ofInt 16 a = b16 a from rfl] at hu
  go_enter Tryz.func35, Tryz.ntmps35
  go_wp2_with fail
  refine wp_loop_rounds 1 ?_
  rw [rounds_succ]
  go_wp2
  go_ret
  exact ⟨rfl, rfl⟩

theorem bx_eq (x : Int) (k : Nat) (h0 : 0 ≤ x) : (if ((x / 2 ^ k).tmod 2 == 1) = true then 32768#16 else 0#16) = bx x k := by
  obtain ⟨n, rfl⟩ := Int.eq_ofNat_of_zero_le h0
  unfold bx
  have e : ((n : Int) / 2 ^ k).tmod 2 = ((n / 2 ^ k % 2 : Nat) : Int) := by
    have h1 : ((n : Int) / 2 ^ k) = ((n / 2 ^ k : Nat) : Int) := by simp
    rw [h1]
    exact (Int.ofNat_tmod _ 2).symm
  rw [e, Int.toNat_natCast]
  by_cases h : n / 2 ^ k % 2 = 1
  · rw [h]; rfl
  · have h2 : n / 2 ^ k % 2 = 0 := by omega
    rw [h2]; rfl

theorem bit_bx (s : BitVec 16) (x : Int) (k : Nat) (w : World) (h0 : 0 ≤ x) :
    Calls Tryz.prog 65 #[.int .i64 (sn s), .bool ((x / 2 ^ k).tmod 2 == 1)] w fun e w' => e = .returned (.int .i64 (sn (L (s ^^^ bx x k)))) ∧ w = w' := by
  have := bit_any s ((x / 2 ^ k).tmod 2 == 1) w
  rwa [bx_eq x k h0] at this

theorem rmore_some (a : Int) (xs : List Int) (b off cap : Nat) (w : World) (hp : 0 < xs.length) (hm : xs.length ≤ 9223372036854775807) (hb : ∀ x ∈ xs, 0 ≤ x ∧ x ≤ 255) (hc : ∀ i, i < xs.length → w.cell? ⟨b, off + i, none⟩ = some (.int .u8 (xs.getD i 0))) :
    Calls Tryz.prog 35 #[.int .i64 a, .slice (some ⟨b, off, none⟩) xs.length cap] w fun e w' => e = .returned (.int .i64 (sn (mo (b16 a) xs))) ∧ w = w' := by
  have hu := i64_and_low a
  rw [show BitVec.ofInt 16 a = b16 a from rfl] at hu
  have HC := Lib.hid hc
  have HB := Lib.hid hb
  have P := Lib.hid (fun s x k (h0 : 0 ≤ x) => bit_bx s x k w h0)
  clear hc hb
  go_enter Tryz.func35, Tryz.ntmps35
  go_wp2_with fail
  clear hu
  go_loop [5, 6] (fun v i => RRel (b16 a) xs v i) (fun _ i => xs.length - (intOf i).toNat)
  case atStart => exact ⟨0, by omega, rfl, rfl⟩
  case round =>
    obtain ⟨j, hj, rfl, rfl⟩ := hrel
    obtain ⟨s, hs⟩ : ∃ s, s = mo (b16 a) (xs.take j) := ⟨_, rfl⟩
    rw [← hs]
    obtain ⟨n0, n1⟩ := sn_bd s
    by_cases hlt : j < xs.length
    · obtain ⟨x, hx⟩ : ∃ x, xs[j]? = some x := ⟨_, List.getElem?_eq_getElem hlt⟩
      have c := HC.out j hlt
      rw [List.getD_eq_getElem?_getD, hx, Option.getD_some] at c
      obtain ⟨x0, x1⟩ := HB.out x (List.mem_of_getElem? hx)
      have HT := Lib.hid (mo_take (b16 a) xs j x hx)
      rw [← hs] at HT
      clear hs hx
      go_wp2_with fail
      go_loop [5, 7] (fun v k => BRel s x v k) (fun _ k => (intOf k + 1).toNat)
      case atStart => exact ⟨0, by omega, rfl, rfl⟩
      case round =>
        obtain ⟨i, hi, rfl, rfl⟩ := hrel
        by_cases hl8 : i < 8
        · go_wp2_with fail
          refine (P.out _ _ _ x0).mono ?_
          rintro e w' ⟨rfl, rfl⟩
          go_wp2_with fail
          go_round
          case rel => exact ⟨i + 1, by omega, by go_num, rfl⟩
          case measure => simp [intOf]; omega
        · obtain rfl : i = 8 := by omega
          have HE := Lib.hid (bits8_all s x x0 x1)
          go_wp2_with fail
          go_round
          case rel => exact ⟨j + 1, by omega, by go_num, by rw [HT.out, HE.out]⟩
          case measure => simp [intOf]; omega
    · obtain rfl : j = xs.length := by omega
      rw [List.take_length] at hs
      have HS := Lib.hid hs
      clear hs
      go_wp2
      go_ret
      exact ⟨ret1 (by rw [HS.out]), rfl⟩

theorem rmore_any (a : Int) (xs : List Int) (v : Value) (w : World) (hs : Sk .u8 w v xs) (hb : ∀ x ∈ xs, 0 ≤ x ∧ x ≤ 255) :
    Calls Tryz.prog 35 #[.int .i64 a, v] w fun e w' => e = .returned (.int .i64 (sn (mo (b16 a) xs))) ∧ w = w' := by
  rcases Nat.eq_zero_or_pos xs.length with h | h
  · obtain rfl := List.length_eq_zero_iff.1 h
    obtain ⟨ad, cap, rfl, _⟩ := hs.bare
    exact rmore_nil a ad cap w
  · obtain ⟨b, off, cap, rfl, h1, h2, _, hc⟩ := hs.has h
    exact rmore_some a xs b off cap w h (by omega) hb hc

end Go.Proofs.YtpkjbcgmhkkfiaaGreatDoor.Crc

/- What Seal and Open answer, by the program and by the document's reckoning. Conditions: the table lies where the program lays it; the bytes are bytes, and at most 20000. -/
namespace Go.Proofs.YtpkjbcgmhkkfiaaGreatDoor.Crc
open Go.ChangeShapes Go.WideShapes Go.ChangeAt Go.RowKit
open Go.Proofs.YtpkjbcgmhkkfiaaGreatDoor.Divs Go.Proofs.YtpkjbcgmhkkfiaaGreatDoor.Grow Go.Proofs.YtpkjbcgmhkkfiaaGreatDoor.By Go.Proofs.YtpkjbcgmhkkfiaaGreatDoor.Cr

/-- A slice cut at its end, and its room with it. -/
theorem cut_hm {bs : List Int} {v : Value} {w : World} (hs : Sk .u8 w v bs) (h : Nat) (hh : h ≤ bs.length) :
    ∃ ad cap, v = .slice ad bs.length cap ∧ (∀ W : World, (Instr.slice 36 (.slice ad bs.length cap) none (some (.int .i64 (h : Int))) (some (.int .i64 (h : Int)))).run Tryz.prog W = .ok (.slice ad h h) W) ∧ Sk .u8 w (.slice ad h h) (bs.take h) := by
  obtain ⟨ad, cap, rfl, h1, h2, h3, h4⟩ := hs
  refine ⟨ad, cap, rfl, fun W => ?_, ?_⟩
  · have := run_slice_hm (P := Tryz.prog) W 36 ad bs.length cap (by kernel_rfl) .i64 .i64 h h (by omega) (by omega) (by omega)
    rw [this]
    go_simp
  · refine ⟨ad, h, ?_, by rw [List.length_take]; omega, by omega, fun e => by have := h3 e; omega, ?_⟩
    · rw [show (bs.take h).length = h by rw [List.length_take]; omega]
    · intro i x hx
      have hi : i < h := by
        have := (List.getElem?_eq_some_iff.1 hx).1
        rw [List.length_take] at this
        omega
      rw [List.getElem?_take_of_lt hi] at hx
      exact h4 i x hx

/-- Bytes appended to a slice without room: new memory. -/
theorem append_full {w : World} {ops : Array Oper} {rest : List Oper} {o : Oper} {a : Act} {Q : Exit → Act → World → Prop} (hgd : o.guard = none) (s x : Operand)
    (ho : o.op = .call { callee := .builtin .append, args := #[s, x], argTypes := #[36, 36] })
    (ad : Option Addr) (n : Nat) (xs : List Int) (hn : xs.length = n) (hs : a.eval s = .slice ad n n) (hk : Sk .u8 w (.slice ad n n) xs)
    (u : Value) (ys : List Int) (hx : a.eval x = u) (hy : Sk .u8 w u ys) (hp : 0 < ys.length) (hb : xs.length + ys.length ≤ 100000)
    (h : ∀ v' w', SL .u8 5 w' w.heap.size v' (xs ++ ys) → Later w w' → wpList Tryz.prog ops Q rest (a.put o.dst v') w') : wpList Tryz.prog ops Q (o :: rest) a w := by
  subst hn
  obtain ⟨i0, hi, hz0, hz1, hz2⟩ := info_parts info_byte
  rcases hy.src with ⟨_, rfl⟩ | ⟨ad2, cap2, rfl, hc⟩
  · simp at hp
  · refine wpList_append_grows w hgd s x 36 ho 5 i0 (.int .u8 0) 1 1 Tryz.underlying36 hi hz0 hz1 hz2 rfl (by decide) ad xs.length xs.length (xs.map (Value.int .u8)) hs ?_ (by simp) ?_ ad2 ys.length cap2 (ys.map (Value.int .u8)) hx (by simp) hc (by intro u hu; obtain ⟨y, _, rfl⟩ := List.mem_map.1 hu; rfl) (by omega) (by simp only [maxLen]; omega) (by omega) ?_
    · intro e
      obtain ⟨ad', cap', e', _, _, h3, _⟩ := hk
      simp only [Value.slice.injEq] at e'
      obtain ⟨rfl, _, rfl⟩ := e'
      have := h3 e
      omega
    · intro b e j u hu
      subst e
      rcases hk.src with ⟨e', _⟩ | ⟨a', cap', e', hc'⟩
      · simp at e'
      · simp only [Value.slice.injEq, Option.some.injEq] at e'
        obtain ⟨rfl, _, _⟩ := e'
        exact hc' j u hu
    · intro v' w' h1 h2
      refine h v' w' ?_ (Later.of_grownBy h2)
      unfold SL
      rw [List.length_append, List.map_append]
      exact h1

theorem seal_any (xs : List Int) (v : Value) (w : World) (hs : Sk .u8 w v xs) (hb : ∀ x ∈ xs, 0 ≤ x ∧ x ≤ 255) (hn : xs.length ≤ 20000) (hL : Laid w) :
    Calls Tryz.prog 22 #[v] w fun e w' => ∃ u, e = .returned u ∧ SL .u8 5 w' w.heap.size u (se xs) ∧ Later w w' := by
  obtain ⟨ad, cap, rfl, sl, hc⟩ := cut_hm hs xs.length (Nat.le_refl _)
  rw [List.take_length] at hc
  have S := Lib.hid (sum_any xs _ w hc hb hL)
  have HC := Lib.hid hc
  obtain ⟨n0, n1⟩ := sn_bd (mo st xs)
  have HN := Lib.hid hn
  have HE : Hid (se xs = xs ++ [sn (mo st xs) / 256, sn (mo st xs) % 256]) := Lib.hid rfl
  generalize sn (mo st xs) = m at *
  clear hs hc hb
  go_enter Tryz.func22, Tryz.ntmps22
  go_wp2_with fail
  refine S.out.mono ?_
  rintro e w' ⟨rfl, rfl⟩
  go_wp2_with (at_builtin; refine append_full rfl (.tmp 13) (.tmp 19) rfl ad xs.length xs rfl rfl (HC.out.later ((Later.refl w).put _)) _ [m / 256, m % 256] rfl (sk_new .u8 5 [m / 256, m % 256] w (by simp)) (by simp) (by have := HN.out; simp; omega) ?_; intro v2 w2 ho2 hg2; have HO2 := Lib.hid ho2; have HG2 := Lib.hid (gtrans ((Later.refl w).put _) hg2); clear ho2 hg2)
  go_ret
  refine ⟨_, rfl, ?_, HG2.out⟩
  rw [HE.out]
  exact HO2.out.base (by simp)

theorem eql_nil (a : Option Addr) (l c : Nat) : ∀ W : World, (binOp .eql 36 (.slice a l c) (.slice none 0 0)).run Tryz.prog W = .ok (.bool a.isNone) W := by
  intro W
  simp only [binOp]
  simp [run_equal_slice_nil W 36 _ a l c Tryz.underlying36]

theorem clone_any (xs : List Int) (v : Value) (w : World) (hs : Sk .u8 w v xs) (hn : xs.length ≤ 20000) :
    Calls Tryz.prog 76 #[v] w fun e w' => ∃ u, e = .returned u ∧ Sk .u8 w' u xs ∧ Later w w' := by
  have HS := Lib.hid hs
  have HN := Lib.hid hn
  rcases hs.src with ⟨rfl, rfl⟩ | ⟨ad, cap, rfl, _⟩
  · have q := eql_nil none 0 0
    clear hs
    go_enter Tryz.func76, Tryz.ntmps76
    go_wp2
    go_ret
    exact ⟨_, rfl, sk_nil _ _, Later.refl w⟩
  · have q := eql_nil (some ad) xs.length cap
    clear hs
    go_enter Tryz.func76, Tryz.ntmps76
    go_wp2_with (at_builtin; refine append_sk rfl (.tmp 5) (.tmp 6) rfl w ((Later.refl w).put _) _ [] rfl (SL.made w _ (Later.refl w)) _ xs rfl (HS.out.later ((Later.refl w).put _)) (by have := HN.out; simp; omega) ?_; intro v2 w2 ho2 hg2; have HO2 := Lib.hid ho2; have HG2 := Lib.hid hg2; clear ho2 hg2)
    go_ret
    exact ⟨_, rfl, by have := HO2.out.sk; simpa using this, HG2.out⟩

theorem ret_two {u : Value} {a b : Int} (h : a = b) : Ending.returned (.tuple #[u, .int .i64 a]) = .returned (.tuple #[u, .int .i64 b]) := by rw [h]

set_option maxHeartbeats 1000000 in
theorem open_any (xs : List Int) (v : Value) (w : World) (hs : Sk .u8 w v xs) (hb : ∀ x ∈ xs, 0 ≤ x ∧ x ≤ 255) (hn : xs.length ≤ 20000) (hL : Laid w) :
    Calls Tryz.prog 58 #[v] w fun e w' => ∃ u, e = .returned (.tuple #[u, .int .i64 (op xs).2]) ∧ Sk .u8 w' u (op xs).1 ∧ Later w w' := by
  by_cases hl : xs.length < 2
  · have e : op xs = ([], 90) := by unfold op; rw [if_pos hl]
    rw [e]
    obtain ⟨ad, cap, rfl, hm⟩ := hs.len
    clear hs hb e
    go_enter Tryz.func58, Tryz.ntmps58
    go_wp2
    go_ret2
    exact ⟨_, rfl, sk_nil _ _, Later.refl w⟩
  · obtain ⟨p, x, y, e, hp, hx, hy⟩ := two_last xs (by omega)
    have bx := hb x (List.mem_of_getElem? hx)
    have by' := hb y (List.mem_of_getElem? hy)
    obtain ⟨k, hk⟩ : ∃ k, xs.length = k + 2 := ⟨xs.length - 2, by omega⟩
    rw [hk, show k + 2 - 2 = k by omega] at hx hp
    rw [hk, show k + 2 - 1 = k + 1 by omega] at hy
    have O := op_two p x y bx by'
    rw [← e] at O
    obtain ⟨ad, cap, rfl, sl, hc⟩ := cut_hm hs k (by omega)
    rw [← hp] at hc
    have hpb : ∀ z ∈ p, 0 ≤ z ∧ z ≤ 255 := fun z hz => hb z (by rw [hp] at hz; exact List.mem_of_mem_take hz)
    have A := Lib.hid (sumat_any xs k x y _ w hs hx hy bx by')
    have S := Lib.hid (fun W (h : Later w W) => sum_any p _ W (hc.later h) hpb (hL.grown h))
    have hpn : p.length ≤ 20000 := by rw [hp, List.length_take]; omega
    have C := Lib.hid (fun W (h : Later w W) => clone_any p _ W (hc.later h) hpn)
    rw [hk] at A sl ⊢
    clear hs hc hpb hp hx hy e hb hpn
    by_cases hq : x * 256 + y = sn (mo st p)
    · rw [if_pos (by rw [hq]; rfl)] at O
      rw [O]
      rw [hq] at A
      generalize sn (mo st p) = m at *
      have t : (m != m) = false := by simp
      clear O hq bx by'
      go_enter Tryz.func58, Tryz.ntmps58
      go_wp2_with fail
      refine A.out.mono ?_
      rintro e w1 ⟨rfl, hg1⟩
      go_wp2_with fail
      refine (S.out _ hg1).mono ?_
      rintro e w2 ⟨rfl, rfl⟩
      go_wp2_with fail
      refine (C.out _ hg1).mono ?_
      rintro e w3 ⟨u, rfl, hu, hg3⟩
      go_wp2_with fail
      go_ret2
      exact ⟨_, rfl, hu, gtrans hg1 hg3⟩
    · rw [if_neg (fun h => hq (by rw [← h]; rfl))] at O
      rw [O]
      generalize sn (mo st p) = m at *
      generalize x * 256 + y = q at *
      have t : (q != m) = true := by simpa using hq
      clear O hq bx by'
      go_enter Tryz.func58, Tryz.ntmps58
      go_wp2_with fail
      refine A.out.mono ?_
      rintro e w1 ⟨rfl, hg1⟩
      go_wp2_with fail
      refine (S.out _ hg1).mono ?_
      rintro e w2 ⟨rfl, rfl⟩
      go_wp2_with fail
      go_ret2
      exact ⟨_, rfl, sk_nil _ _, hg1⟩

theorem rseal_any (xs : List Int) (v : Value) (w : World) (hs : Sk .u8 w v xs) (hb : ∀ x ∈ xs, 0 ≤ x ∧ x ≤ 255) (hn : xs.length ≤ 20000) :
    Calls Tryz.prog 19 #[v] w fun e w' => ∃ u, e = .returned u ∧ Sk .u8 w' u (se xs) ∧ Later w w' := by
  have S := Lib.hid (rmore_any 65535 xs _ w hs hb)
  rw [show b16 65535 = st by decide] at S
  have HS := Lib.hid hs
  obtain ⟨n0, n1⟩ := sn_bd (mo st xs)
  have HN := Lib.hid hn
  have HE : Hid (se xs = xs ++ [sn (mo st xs) / 256, sn (mo st xs) % 256]) := Lib.hid rfl
  generalize sn (mo st xs) = m at *
  clear hs hb
  go_enter Tryz.func19, Tryz.ntmps19
  go_wp2_with fail
  refine S.out.mono ?_
  rintro e w' ⟨rfl, rfl⟩
  go_wp2_with (first | (at_builtin; refine append_sk rfl (.tmp 7) (.tmp 8) rfl w (Later.refl w) _ [] rfl (SL.nil _ _ _ _) _ xs rfl HS.out (by have := HN.out; simp; omega) ?_; intro v2 w2 ho2 hg2; have HO2 := Lib.hid ho2; have HG2 := Lib.hid hg2; clear ho2 hg2) | (at_builtin; refine append_sk rfl (.tmp 10) (.tmp 17) rfl w (HG2.out.put _) _ _ rfl (HO2.out.later ((Later.refl _).put _)) _ [m / 256, m % 256] rfl (sk_new .u8 5 [m / 256, m % 256] w2 (by simp)) (by have := HN.out; simp; omega) ?_; intro v3 w3 ho3 hg3; have HO3 := Lib.hid ho3; have HG3 := Lib.hid hg3; clear ho3 hg3))
  go_ret
  refine ⟨_, rfl, ?_, HG3.out⟩
  rw [HE.out]
  have := HO3.out.sk
  simpa using this

end Go.Proofs.YtpkjbcgmhkkfiaaGreatDoor.Crc

/- What the leaves of layer 8 answer, call by call: a number's code, by the program and by the document; a code's number; how far a number is gone with a byte; a number's bytes in an array of ten. Conditions: the numbers are ints, codes and bytes, as each theorem says. -/
namespace Go.Proofs.YtpkjbcgmhkkfiaaGreatDoor.Wire
open Go.ChangeShapes Go.WideShapes Go.ChangeAt Go.RowKit
open Go.Proofs.YtpkjbcgmhkkfiaaGreatDoor.Divs Go.Proofs.YtpkjbcgmhkkfiaaGreatDoor.Grow Go.Proofs.YtpkjbcgmhkkfiaaGreatDoor.By Go.Proofs.YtpkjbcgmhkkfiaaGreatDoor.Wi

theorem retu {a b : Int} (h : a = b) : Ending.returned (.int .u64 a) = .returned (.int .u64 b) := by rw [h]

theorem rcode_any (n : Int) (w : World) (h : In n) : Calls Tryz.prog 88 #[.int .i64 n] w fun e w' => e = .returned (.int .u64 (cd n)) ∧ w = w' := by
  obtain ⟨h0, h1⟩ := h
  by_cases hn : 0 ≤ n
  · have t : decide (0 ≤ n) = true := by simpa using hn
    have H : Hid (n * 2 = cd n) := by
      have : n * 2 = cd n := by unfold cd; rw [if_pos hn]; omega
      exact this
    go_enter Tryz.func88, Tryz.ntmps88
    go_wp2
    go_ret
    exact ⟨retu H.out, rfl⟩
  · have t : decide (0 ≤ n) = false := by simpa using hn
    have H : Hid ((-1 - n) * 2 + 1 = cd n) := by
      have : (-1 - n) * 2 + 1 = cd n := by unfold cd; rw [if_neg hn]; omega
      exact this
    go_enter Tryz.func88, Tryz.ntmps88
    go_wp2
    go_ret
    exact ⟨retu H.out, rfl⟩

theorem xor_all (x : Nat) (h : x < 18446744073709551616) : 18446744073709551615 ^^^ x = 18446744073709551615 - x := by
  have := BitVec.allOnes_xor (x := BitVec.ofNat 64 x)
  have e := congrArg BitVec.toNat this
  simp only [BitVec.toNat_xor, BitVec.toNat_not, BitVec.toNat_allOnes, BitVec.toNat_ofNat] at e
  rw [Nat.mod_eq_of_lt (by omega)] at e
  simpa using e

theorem not_code (n : Int) (h0 : -9223372036854775808 ≤ n) (h1 : n < 0) : bits .xor .u64 IntKind.u64.max (IntKind.u64.wrap (IntKind.u64.wrap n * 2)) = -2 * n - 1 := by
  have e : IntKind.u64.wrap (IntKind.u64.wrap n * 2) = ((2 * n + 18446744073709551616).toNat : Int) := by
    rw [IntKind.wrap_u64, IntKind.wrap_u64]
    omega
  have m : IntKind.u64.max = ((18446744073709551615 : Nat) : Int) := by decide
  rw [e, m, Go.u64_xor_nat _ _ (by omega) (by omega), xor_all _ (by omega)]
  omega

theorem code_any (n : Int) (w : World) (h : In n) : Calls Tryz.prog 86 #[.int .i64 n] w fun e w' => e = .returned (.int .u64 (cd n)) ∧ w = w' := by
  obtain ⟨h0, h1⟩ := h
  by_cases hn : n < 0
  · have H := Lib.hid (not_code n h0 hn)
    go_enter Tryz.func86, Tryz.ntmps86
    go_wp2
    go_ret
    refine ⟨retu (H.out.trans ?_), rfl⟩
    unfold cd
    rw [if_neg (by omega)]
  · go_enter Tryz.func86, Tryz.ntmps86
    go_wp2
    go_ret
    refine ⟨retu ?_, rfl⟩
    unfold cd
    rw [if_pos (by omega)]
    omega

theorem number_any (c : Int) (w : World) (h0 : 0 ≤ c) (h1 : c ≤ 18446744073709551615) : Calls Tryz.prog 113 #[.int .u64 c] w fun e w' => e = .returned (.int .i64 (nu c)) ∧ w = w' := by
  by_cases hn : c % 2 = 1
  · have t : (c % 2 == 1) = true := by simpa using hn
    go_enter Tryz.func113, Tryz.ntmps113
    go_wp2
    go_ret
    exact ⟨ret1 (by unfold nu; rw [if_pos hn]), rfl⟩
  · have t : (c % 2 == 1) = false := by simpa using hn
    go_enter Tryz.func113, Tryz.ntmps113
    go_wp2
    go_ret
    exact ⟨ret1 (by unfold nu; rw [if_neg hn]), rfl⟩

/-- How far a number is gone with a byte: 0: it goes on, 1: it ends, 2: it is too long. -/
def sp (i x : Int) : Int := if i = 9 ∧ 1 < x then 2 else if 128 ≤ x then 0 else if 0 < i ∧ x = 0 then 2 else 1

theorem step_any (i x : Int) (w : World) : Calls Tryz.prog 112 #[.int .i64 i, .int .u8 x] w fun e w' => e = .returned (.int .i64 (sp i x)) ∧ w = w' := by
  by_cases h1 : i = 9 ∧ 1 < x
  · have t1 : (i == 9) = true := by simpa using h1.1
    have t2 : decide (1 < x) = true := by simpa using h1.2
    have H : Hid (2 = sp i x) := by
      have : 2 = sp i x := by unfold sp; rw [if_pos h1]
      exact this
    clear h1
    go_enter Tryz.func112, Tryz.ntmps112
    go_wp2
    go_ret
    exact ⟨ret1 H.out, rfl⟩
  · by_cases h2 : 128 ≤ x
    · have t1 : (i == 9) = false := by simp; intro h; exact h1 ⟨h, by omega⟩
      have t3 : decide (128 ≤ x) = true := by simpa using h2
      have H : Hid (0 = sp i x) := by
        have : 0 = sp i x := by unfold sp; rw [if_neg h1, if_pos h2]
        exact this
      clear h1 h2
      go_enter Tryz.func112, Tryz.ntmps112
      go_wp2
      go_ret
      exact ⟨ret1 H.out, rfl⟩
    · have t3 : decide (128 ≤ x) = false := by simpa using h2
      by_cases h3 : 0 < i ∧ x = 0
      · have t2 : decide (1 < x) = false := by simp; omega
        have t4 : decide (0 < i) = true := by simpa using h3.1
        have t5 : (x == 0) = true := by simpa using h3.2
        have H : Hid (2 = sp i x) := by
          have : 2 = sp i x := by unfold sp; rw [if_neg h1, if_neg h2, if_pos h3]
          exact this
        clear h1 h2 h3
        cases t1 : (i == 9) <;>
        · go_enter Tryz.func112, Tryz.ntmps112
          go_wp2
          go_ret
          exact ⟨ret1 H.out, rfl⟩
      · have H : Hid (1 = sp i x) := by
          have : 1 = sp i x := by unfold sp; rw [if_neg h1, if_neg h2, if_neg h3]
          exact this
        cases t1 : (i == 9) <;> cases t2 : decide (1 < x) <;> cases t4 : decide (0 < i) <;> cases t5 : (x == 0) <;> first
          | exact absurd ⟨by simpa using t1, by simpa using t2⟩ h1
          | exact absurd ⟨by simpa using t4, by simpa using t5⟩ h3
          | (clear h1 h2 h3
             go_enter Tryz.func112, Tryz.ntmps112
             go_wp2
             go_ret
             exact ⟨ret1 H.out, rfl⟩)

/-- Ten cells. -/
def arr (l : List Int) : Array Value := ((List.range 10).map fun j : Nat => Value.int .u8 (l.getD j 0)).toArray

theorem arr_get (l : List Int) (j : Nat) (h : j < 10) : (arr l)[j]? = some (.int .u8 (l.getD j 0)) := by
  simp [arr, h]

theorem arr_size (l : List Int) : (arr l).size = 10 := by simp [arr]

theorem arr_nil : arr [] = #[.int .u8 0, .int .u8 0, .int .u8 0, .int .u8 0, .int .u8 0, .int .u8 0, .int .u8 0, .int .u8 0, .int .u8 0, .int .u8 0] := by
  kernel_rfl

theorem arr_set (l : List Int) (x : Int) (h : l.length < 10) : (arr l).setIfInBounds l.length (.int .u8 x) = arr (l ++ [x]) := by
  apply Array.ext_getElem?
  intro j
  rw [Array.getElem?_setIfInBounds]
  by_cases hj : j < 10
  · by_cases e : l.length = j
    · subst e
      rw [if_pos rfl, if_pos (by rw [arr_size]; exact h), arr_get _ _ hj]
      simp
    · rw [if_neg e, arr_get _ j hj, arr_get _ j hj]
      congr 2
      simp only [List.getD_eq_getElem?_getD]
      by_cases hjk : j < l.length
      · rw [List.getElem?_append_left hjk]
      · rw [List.getElem?_eq_none (by omega), List.getElem?_eq_none (by simp; omega)]
  · rw [Array.getElem?_eq_none (by rw [arr_size]; omega), Array.getElem?_eq_none (by rw [arr_size]; omega), if_neg (by omega)]

theorem arr_ten (l : List Int) : ∃ y0 y1 y2 y3 y4 y5 y6 y7 y8 y9 : Int, arr l = #[.int .u8 y0, .int .u8 y1, .int .u8 y2, .int .u8 y3, .int .u8 y4, .int .u8 y5, .int .u8 y6, .int .u8 y7, .int .u8 y8, .int .u8 y9] :=
  ⟨_, _, _, _, _, _, _, _, _, _, rfl⟩

/-- Two results: a row in a block, and a slot. -/
theorem results_row_tmp {P : Program} {fn : Func} {p q : Tmp} {ty : TypeId} (h : fn.results = #[.cell p ty, .tmp q]) (tmps : Array Value) (w : World) (g : Nat) (t : TypeId) (cs : Array Value) (fr : Nat × Nat) (d : TypeDesc) (v : Value)
    (hp : tmps.getD p undef = .pointer (some ⟨g, 0, none⟩)) (hq : tmps.getD q undef = v) (hg : w.heap[g]? = some (.cells cs t fr))
    (hu : P.underlying ty = some d) (hd : (match d with | .struct _ | .array _ _ => true | _ => false) = true) (hi : (P.info? ty).map (·.size) = some cs.size) :
    (results fn tmps).run P w = .ok (.tuple #[.agg cs, v]) w := by
  have hp' : tmps[p]?.getD undef = .pointer (some ⟨g, 0, none⟩) := by simpa using hp
  have hq' : tmps[q]?.getD undef = v := by simpa using hq
  simp [results, h, hp', hq', asAddr, run_loadVar_row w g t ty cs fr d hg hu hd hi]

def DRel (n : Int) (w : World) (k c : Value) (wr : World) : Prop :=
  ∃ (pre : List Int) (x : Int), pre.length ≤ 9 ∧ k = .int .i64 (pre.length : Int) ∧ c = .int .u64 x ∧ pu n = pre ++ dgs (9 - pre.length) x ∧ 0 ≤ x ∧ x < bd (9 - pre.length) ∧ x < 18446744073709551616 ∧ wr = w.alloc (.cells (arr pre) 101)

theorem digits_any (n : Int) (w : World) (h : In n) : Calls Tryz.prog 67 #[.int .i64 n] w fun e w' => e = .returned (.tuple #[.agg (arr (pu n)), .int .i64 ((pu n).length : Int)]) ∧ Later w w' := by
  have C := Lib.hid (fun W => code_any n W h)
  have c0 := cd_nn n
  have c1 := cd_lt n h.1 h.2
  go_enter Tryz.func67, Tryz.ntmps67
  go_wp2_with fail
  refine (C.out _).mono ?_
  rintro e w1 ⟨rfl, rfl⟩
  go_wp2
  go_loopw [3, 4] (fun k c wr => DRel n w k c wr) (fun _ c _ => (intOf c).toNat)
  case atStart => exact ⟨[], cd n, by simp, rfl, rfl, by simp [pu], c0, by simpa [bd] using c1, c1, by rw [arr_nil]⟩
  case round =>
    obtain ⟨pre, x, hp, rfl, rfl, hd, x0, x1, x2, rfl⟩ := hrel
    have HD := Lib.hid hd
    have HX := Lib.hid x1
    clear hd x1
    have o := arr_get pre pre.length (by omega)
    by_cases hx : 128 ≤ x
    · have t : decide (128 ≤ x) = true := by simpa using hx
      obtain ⟨g, hg⟩ : ∃ g, 9 - pre.length = g + 1 := by
        refine ⟨9 - pre.length - 1, ?_⟩
        have := HX.out
        rcases Nat.eq_zero_or_pos (9 - pre.length) with h0 | h0
        · rw [h0] at this; simp only [bd] at this; omega
        · omega
      have HS := Lib.hid (arr_set pre (x % 128 + 128) (by omega))
      have HG := Lib.hid hg
      clear hg
      go_wp2
      go_roundw
      case rel =>
        refine ⟨pre ++ [x % 128 + 128], x / 128, by have := HG.out; simp; omega, by simp, rfl, ?_, by omega, ?_, by omega, by rw [HS.out]⟩
        · rw [HD.out, HG.out, dgs, if_pos hx, List.append_assoc, List.length_append, List.length_singleton, show 9 - (pre.length + 1) = g by have := HG.out; omega]
          rfl
        · have := HX.out
          rw [HG.out, bd] at this
          rw [List.length_append, List.length_singleton, show 9 - (pre.length + 1) = g by have := HG.out; omega]
          omega
      case measure => simp [intOf]; omega
    · have e : pre ++ [x] = pu n := by
        rw [HD.out]
        cases 9 - pre.length with
        | zero => rfl
        | succ f => rw [dgs, if_neg hx]
      have hl : ((pu n).length : Int) = pre.length + 1 := by rw [← e]; simp
      obtain ⟨y0, y1, y2, y3, y4, y5, y6, y7, y8, y9, hy⟩ := arr_ten (pu n)
      have HS := arr_set pre x (by omega)
      rw [e, hy] at HS
      have HY := Lib.hid hy
      have HL := Lib.hid hl
      clear hy hl e
      go_wp2
      rw [HY.out, HL.out]
      refine bodyPost_ret (v := .tuple #[.agg #[.int .u8 y0, .int .u8 y1, .int .u8 y2, .int .u8 y3, .int .u8 y4, .int .u8 y5, .int .u8 y6, .int .u8 y7, .int .u8 y8, .int .u8 y9], .int .i64 (pre.length + 1)]) ?_ rfl ⟨rfl, ?_⟩
      · exact results_row_tmp (P := Tryz.prog) (fn := Tryz.f67) Tryz.results67 _ _ w.heap.size 101 _ (0, 0) _ _ rfl rfl (heap_alloc_new w _) Tryz.underlying101 rfl (by kernel_rfl)
      · exact (Later.refl w).alloc _ _
end Go.Proofs.YtpkjbcgmhkkfiaaGreatDoor.Wire

/- Slices of numbers and of bytes, wherever they lie; and what Put answers, by the program. Condition: the number is an int. -/
namespace Go.Proofs.YtpkjbcgmhkkfiaaGreatDoor.Wire
open Go.ChangeShapes Go.WideShapes Go.ChangeAt Go.RowKit
open Go.Proofs.YtpkjbcgmhkkfiaaGreatDoor.Divs Go.Proofs.YtpkjbcgmhkkfiaaGreatDoor.Grow Go.Proofs.YtpkjbcgmhkkfiaaGreatDoor.By Go.Proofs.YtpkjbcgmhkkfiaaGreatDoor.Wi

theorem cut_ten (k : Nat) (h : k ≤ 10) : ∀ (W : World) (a : Addr), (Instr.sliceAt 101 (.pointer (some a)) none (some (.int .i64 (k : Int))) none).run Tryz.prog W = .ok (.slice (some a) k 10) W := by
  intro W a
  have al : Tryz.prog.arrayLen 101 = 10 := by kernel_rfl
  have := run_sliceAt_array_h (P := Tryz.prog) W 101 a (by kernel_rfl) .i64 k (by omega) (by rw [al]; omega)
  rw [this]
  go_simp

/-- A number's bytes, as they lie in an array of ten. -/
theorem src_ten {W : World} {g : Nat} {t : TypeId} {fr : Nat × Nat} (l : List Int) (hl : l.length ≤ 10) (h : W.heap[g]? = some (.cells (arr l) t fr)) (j : Nat) (v : Value) (hv : (l.map (Value.int .u8))[j]? = some v) :
    W.cell? ((⟨g, 0, none⟩ : Addr).add j) = some v := by
  rw [List.getElem?_map] at hv
  cases e : l[j]? with
  | none => rw [e] at hv; simp at hv
  | some x =>
    have hj : j < l.length := (List.getElem?_eq_some_iff.1 e).1
    rw [e] at hv
    have a := arr_get l j (by omega)
    have d : l.getD j 0 = x := by rw [List.getD_eq_getElem?_getD, e]; rfl
    rw [d] at a
    rw [add_zero]
    simp [World.cell?, h, a]
    simpa using hv

theorem splice_all (k : Nat) (cs : List Value) (h : cs.length = k) : splice (zb k) 0 cs = cs := by
  unfold splice zb
  simp [h]

end Go.Proofs.YtpkjbcgmhkkfiaaGreatDoor.Wire
