/-
  What the reckoning resolves spans to.  Conditions: the spans are at most 500.
-/
import Derived.Test.YtmjedpaiccaddaaXg
namespace Go.Proofs.Ytmjedpaiccaddaa.Span
set_option maxRecDepth 100000
open Go.ChangeShapes Go.WideShapes Go.ChangeAt Go.RowKit
open Go.Proofs.Ytmjedpaiccaddaa.Divs Go.Proofs.Ytmjedpaiccaddaa.Grow
open Go.Proofs.Ytmjedpaiccaddaa.By (Sk SL bool_no bool_yes)
open Go.Proofs.Ytmjedpaiccaddaa.Sp

/-- How many of these are above a. -/
def cnt : List Int → Int → Nat
  | [], _ => 0
  | e :: E, a => (if a < e then 1 else 0) + cnt E a

theorem cnt_le (E : List Int) (a b : Int) (h : a ≤ b) : cnt E b ≤ cnt E a := by
  induction E with
  | nil => simp [cnt]
  | cons e E ih => unfold cnt; split <;> split <;> omega

theorem cnt_lt {E : List Int} {a b : Int} (h : a < b) (hb : b ∈ E) : cnt E b < cnt E a := by
  induction E with
  | nil => cases hb
  | cons e E ih =>
    unfold cnt
    rcases List.mem_cons.1 hb with rfl | hb
    · have := cnt_le E a b (by omega)
      rw [if_neg (by omega), if_pos h]; omega
    · have := ih hb
      split <;> split <;> omega

theorem cnt_len (E : List Int) (a : Int) : cnt E a ≤ E.length := by
  induction E with
  | nil => simp [cnt]
  | cons e E ih => unfold cnt; simp only [List.length_cons]; split <;> omega

theorem sf_to (o : List Sp) (s : Sp) (b : Int) : (sf (o ++ [s])).set (o.length * 4 + 1) (.int .i64 b) = sf (o ++ [⟨s.f, b, s.m, s.p⟩]) := by
  rw [sf_app, sf_app, List.set_append, sf_len, if_neg (by omega), show o.length * 4 + 1 - o.length * 4 = 1 by omega]
  rfl

theorem last_or (R : List Sp) : R = [] ∨ ∃ o s, R = o ++ [s] := by
  rcases List.eq_nil_or_concat R with h | ⟨o, s, h⟩
  · exact .inl h
  · exact .inr ⟨o, s, by rw [h, List.concat_eq_append]⟩

theorem last_cells {W : World} {b g cap : Nat} {o : List Sp} {s : Sp} {n : Nat} (h : W.ownsRow b 31 4 (.slice (some ⟨g, 0, none⟩) n cap) n (sf (o ++ [s]))) : At W g (o.length * 4) s := by
  have go : ∀ j y, (sc s)[j]? = some y → W.cell? ⟨g, o.length * 4 + j, none⟩ = some y := fun j y hy => by
    have hj : j < 4 := by simpa [sc] using (List.getElem?_eq_some_iff.1 hy).1
    have e : (sf (o ++ [s]))[o.length * 4 + j]? = some y := by rw [sf_get (i := o.length) (x := s) (by simp) hj]; exact hy
    have c := World.ownsRow.cells h (g := g) rfl _ _ e
    rwa [By.add_zero] at c
  exact ⟨go 0 _ rfl, go 1 _ rfl, go 2 _ rfl, go 3 _ rfl⟩

theorem st_none {l R : List Sp} {a b : Int} (h : best l a = none) : st l R a b = R := by unfold st md; rw [h]; rfl
theorem st_some {l R : List Sp} {a b : Int} {x : Sp} (h : best l a = some x) : st l R a b = push R a b x.m := by unfold st md; rw [h]; rfl

theorem len_push (R : List Sp) (a b m : Int) : (push R a b m).length ≤ R.length + 1 := by
  rcases last_or R with rfl | ⟨o, s, rfl⟩
  · rw [push_nil]; simp
  · rw [push_last]; split <;> simp

theorem len_st (l R : List Sp) (a b : Int) : (st l R a b).length ≤ R.length + 1 := by
  unfold st; split
  · exact len_push _ _ _ _
  · omega

/-- e hands back a slice of its own of the row that tells the modes of l. -/
def IsRow (l : List Sp) (w w' : World) (v : Value) : Prop := ∃ R, Full R (md l) ∧ WL w' w.heap.size v R

set_option maxHeartbeats 8000000 in
theorem rresolve_any (v : Value) (l : List Sp) (w : World) (h : Ws w v l) (hl : l.length ≤ 500) :
    Calls Try.prog 14 #[v] w fun e w' => ∃ v', e = .returned v' ∧ IsRow l w w' v' ∧ Later w w' := by
  obtain ⟨n, hn⟩ : ∃ n, l.length = n := ⟨_, rfl⟩
  have HN := Lib.hid hn
  have HG0 := Lib.hid (Later.refl w)
  rcases Nat.eq_zero_or_pos n with h0 | h0
  · obtain ⟨ad, cap, rfl, hm⟩ := h.len
    rw [hn] at hm ⊢
    have e := List.length_eq_zero_iff.1 (hn.trans h0)
    have HV : Hid (IsRow l w w (.slice none 0 0)) := Lib.hid ⟨[], by rw [e]; exact full_nil, WL.nil w _⟩
    subst h0
    clear h hn e hl
    go_enter Try.func14, Try.ntmps14
    go_wp2_with fail
    go_ret
    exact ⟨_, rfl, HV.out, HG0.out⟩
  · have L := Lib.hid (fun W (g : Later w W) => least_any v l W (h.later g) (by omega))
    have X := Lib.hid (fun t W (g : Later w W) => next_any v l t W (h.later g))
    have B := Lib.hid (fun t W (g : Later w W) => rweight_any v l t W (h.later g))
    obtain ⟨B0, off, cap, rfl, hm1, hm2, hB, hc⟩ := h.has (by omega)
    rw [hn] at hm1 L X B hl ⊢
    have HC := Lib.hid hc
    have HEL : Hid ((ends l).length = 2 * n) := Lib.hid (by rw [ends_len, hn])
    clear h hn hc
    have ad : ∀ j, (⟨B0, off, none⟩ : Addr).add j = ⟨B0, off + j, none⟩ := Addr.add_mid B0 off
    have tn : ((n : Int) == 0) = false := by simp; omega
    go_enter Try.func14, Try.ntmps14
    go_wp2_with fail
    refine (L.out _ (Later.refl w)).mono ?_
    rintro e w1 ⟨a0, rfl, hlow, hg1⟩
    have HG1 := Lib.hid hg1
    have HLOW := Lib.hid (st_start l a0 hlow)
    have HC0 := Lib.hid (cnt_len (ends l) a0)
    clear hg1 hlow
    go_wp2_with fail
    refine (X.out _ _ HG1.out).mono ?_
    rintro e w2 ⟨⟨b0, m0, rfl, hnx⟩, hg2⟩
    have HG2 := Lib.hid (gtrans HG1.out hg2)
    have HNX := Lib.hid hnx
    clear hg2 hnx
    go_wp2_with fail
    go_loopw [3, 4, 5, 6] (fun r p q m wr => ∃ (a b : Int) (mo : Bool) (R : List Sp), p = .int .i64 a ∧ q = .int .i64 b ∧ m = .bool mo ∧ Sp.Good R (md l) a ∧ Nx (ends l) a b mo ∧ WL wr w.heap.size r R ∧ R.length + cnt (ends l) a ≤ 2 * n ∧ Later w wr) (fun _ p _ _ _ => cnt (ends l) (intOf p))
    case atStart => exact ⟨a0, b0, m0, [], rfl, rfl, rfl, HLOW.out, HNX.out, WL.nil _ _, by have := HC0.out; have := HEL.out; simp only [List.length_nil]; omega, HG2.out⟩
    case round =>
      obtain ⟨a, b, mo, R, rfl, rfl, rfl, hgood, hnx, hwl, hlen, hg⟩ := hrel
      have HGD := Lib.hid hgood
      have HX := Lib.hid hnx
      have HW := Lib.hid hwl
      have HLN := Lib.hid hlen
      have HG := Lib.hid hg
      clear hgood hnx hwl hlen hg HNX HLOW
      cases mo with
      | false =>
        have HV : Hid (IsRow l w wr u3) := Lib.hid ⟨R, st_end b HGD.out HX.out, HW.out⟩
        go_wp2_with fail
        go_ret
        exact ⟨_, rfl, HV.out, HG.out⟩
      | true =>
        have HG' := Lib.hid (st_good HGD.out HX.out)
        have HCN := Lib.hid (cnt_lt HX.out.1 HX.out.2.1)
        have HSL := Lib.hid (len_st l R a b)
        go_wp2_with fail
        refine (B.out _ _ HG.out).mono ?_
        rintro e w3 ⟨⟨j, rfl, hb⟩, hg3⟩
        have HG3 := Lib.hid (gtrans HG.out hg3)
        have HW3 := Lib.hid (HW.out.later hg3)
        clear hg3
        rcases bi_all hb with ⟨rfl, hbest⟩ | ⟨m, hm, rfl, hbest⟩
        · have ES := Lib.hid (st_none (R := R) (b := b) hbest)
          clear hb hbest
          obtain ⟨ad3, cap3, hv3, hl3⟩ := HW3.out.ws.len
          subst hv3
          go_wp2_with fail
          go_quiet (fail)
          have HG4 : Hid (Later w (w3.drewN nq)) := Lib.hid HG3.out
          have HW4 : Hid (WL (w3.drewN nq) w.heap.size (.slice ad3 R.length cap3) R) := Lib.hid (HW3.out.later (later_drewN w3 nq))
          generalize w3.drewN nq = w4 at HG4 HW4 ⊢
          go_wp2_with fail
          refine (X.out _ _ HG4.out).mono ?_
          rintro e w5 ⟨⟨b5, m5, rfl, hnx5⟩, hg5⟩
          have HG5 := Lib.hid (gtrans HG4.out hg5)
          have HX5 := Lib.hid hnx5
          have HW5 := Lib.hid (HW4.out.later hg5)
          clear hg5 hnx5
          go_wp2_with fail
          go_roundw
          case rel => exact ⟨b, b5, m5, _, rfl, rfl, rfl, HG'.out, HX5.out, by rw [ES.out]; exact HW5.out, by have := HCN.out; have := HSL.out; have := HLN.out; omega, HG5.out⟩
          case measure => exact HCN.out
        · obtain ⟨x, hx⟩ : ∃ x, l[m] = x := ⟨_, rfl⟩
          have HM : Hid (l[m]? = some x) := Lib.hid (by rw [List.getElem?_eq_getElem hm, hx])
          have hmn : m < n := by rw [← HN.out]; exact hm
          have hmz : (m : Int) < (n : Int) := by omega
          have m0' : decide ((m : Int) ≥ 0) = true := decide_eq_true (by omega)
          rw [hx] at hbest
          have ES := Lib.hid (st_some (R := R) (b := b) hbest)
          clear hb hbest hx hm
          obtain ⟨x0, x1, x2, x3⟩ := (HC.out m x HM.out).later HG3.out
          clear x0 x1 x3
          rcases last_or R with hR | ⟨o, s, hR⟩
          · have EP : Hid (st l R a b = R ++ [⟨a, b, x.m, 0⟩]) := Lib.hid (by rw [ES.out, hR, push_nil]; rfl)
            have hRz : R.length = 0 := by rw [hR]; rfl
            clear hR
            obtain ⟨ad3, cap3, hv3, hl3⟩ := HW3.out.ws.len
            rw [hRz] at hv3
            subst hv3
            go_wp2_with fail
            go_quiet (fail)
            have HG4 : Hid (Later w (w3.drewN nq)) := Lib.hid HG3.out
            have HW4 : Hid (WL (w3.drewN nq) w.heap.size (.slice ad3 0 cap3) R) := Lib.hid (HW3.out.later (later_drewN w3 nq))
            generalize w3.drewN nq = w4 at HG4 HW4 ⊢
            have x2 := ((HC.out m x HM.out).later HG4.out).2.2.1
            go_wp2_with (first | (refine append_spans rfl (.tmp 63) (.tmp 72) rfl w (HG4.out.put _) _ R rfl (HW4.out.later ((Later.refl w4).put _)) _ [⟨a, b, x.m, 0⟩] rfl (ws_one' ⟨a, b, x.m, 0⟩ rfl) (by have := HLN.out; simp only [List.length_cons, List.length_nil]; omega) ?_; intro v' w6 hw hl6 _; have HW6 := Lib.hid hw; have HL6 := Lib.hid hl6; clear hw hl6 x2))
            refine (X.out _ _ HL6.out).mono ?_
            rintro e w5 ⟨⟨b5, m5, rfl, hnx5⟩, hg5⟩
            have HG5 := Lib.hid (gtrans HL6.out hg5)
            have HX5 := Lib.hid hnx5
            have HW5 := Lib.hid (HW6.out.later hg5)
            clear hg5 hnx5
            go_wp2_with fail
            go_roundw
            case rel => exact ⟨b, b5, m5, _, rfl, rfl, rfl, HG'.out, HX5.out, by rw [EP.out]; exact HW5.out, by have := HCN.out; have := HSL.out; have := HLN.out; omega, HG5.out⟩
            case measure => exact HCN.out
          · obtain ⟨q, hq⟩ : ∃ q, o.length = q := ⟨_, rfl⟩
            have HQ := Lib.hid hq
            have hRl : R.length = q + 1 := by rw [hR, ← hq]; simp
            have HRL := Lib.hid hRl
            rcases HW3.out.2 with ⟨_, h0'⟩ | ⟨g, cap3, cur, hv3, hg0, _, _, hg3, _⟩
            · omega
            rw [hRl] at hv3
            subst hv3
            have HB0 := Lib.hid hg0
            have hcap : cap3 ≤ 9223372036854775807 := by simpa [maxLen] using hg3
            have HOW : Hid (w3.ownsRow w.heap.size 31 4 (.slice (some ⟨g, 0, none⟩) (q + 1) cap3) (q + 1) (sf (o ++ [s]))) := Lib.hid (by have := HW3.out; unfold WL at this; rw [hRl, hR] at this; exact this)
            have HR' := Lib.hid hR
            have hq5 : q ≤ 5000 := by have := HLN.out; omega
            clear hg0 hg3 hR hq hRl
            obtain ⟨s0, s1, s2, s3⟩ := last_cells HOW.out
            rw [HQ.out] at s0 s1 s2 s3
            clear s0 s3
            by_cases t1 : s.t = a
            · have t1d : (s.t == a) = true := by simpa using t1
              by_cases t2 : s.m = x.m
              · have t2d : (s.m == x.m) = true := by simpa using t2
                have EP : Hid (st l R a b = o ++ [⟨s.f, b, s.m, s.p⟩]) := Lib.hid (by rw [ES.out, HR'.out, push_last, if_pos ⟨t1, t2⟩])
                clear t1 t2
                go_wp2_with fail
                go_quiet (fail)
                have HG4 : Hid (Later w (w3.drewN nq)) := Lib.hid HG3.out
                have HW4 : Hid ((w3.drewN nq).ownsRow w.heap.size 31 4 (.slice (some ⟨g, 0, none⟩) (q + 1) cap3) (q + 1) (sf (o ++ [s]))) := Lib.hid (World.ownsRow.kept HOW.out (later_drewN w3 nq).grownBy (by cases (Value.slice (some ⟨g, 0, none⟩) (q + 1) cap3).ownBlock <;> simp))
                generalize w3.drewN nq = w4 at HG4 HW4 ⊢
                obtain ⟨p1, _⟩ := HW4.out.stored (q * 4 + 1) (.int .i64 b)
                have HW6 : Hid (WL (w4.setCell ⟨g, q * 4 + 1, none⟩ (.int .i64 b)) w.heap.size (.slice (some ⟨g, 0, none⟩) (q + 1) cap3) (o ++ [⟨s.f, b, s.m, s.p⟩])) := Lib.hid (by
                  have e := sf_to o s b
                  rw [HQ.out] at e
                  rw [e] at p1
                  unfold WL
                  rw [show (o ++ [(⟨s.f, b, s.m, s.p⟩ : Sp)]).length = q + 1 by rw [← HQ.out]; simp]
                  exact p1)
                have HL6 : Hid (Later w (w4.setCell ⟨g, q * 4 + 1, none⟩ (.int .i64 b))) := Lib.hid (HG4.out.setCell HB0.out _)
                have f1 := HW4.out.frozenAt (q * 4 + 1)
                have d1 := (last_cells HW4.out).2.1
                rw [HQ.out] at d1
                clear p1 s1 s2
                go_wp2_with fail
                refine (X.out _ _ HL6.out).mono ?_
                rintro e w5 ⟨⟨b5, m5, rfl, hnx5⟩, hg5⟩
                have HG5 := Lib.hid (gtrans HL6.out hg5)
                have HX5 := Lib.hid hnx5
                have HW5 := Lib.hid (HW6.out.later hg5)
                clear hg5 hnx5
                go_wp2_with fail
                go_roundw
                case rel => exact ⟨b, b5, m5, _, rfl, rfl, rfl, HG'.out, HX5.out, by rw [EP.out]; exact HW5.out, by have := HCN.out; have := HSL.out; have := HLN.out; omega, HG5.out⟩
                case measure => exact HCN.out
              · have t2d : (s.m == x.m) = false := by simpa using t2
                have EP : Hid (st l R a b = R ++ [⟨a, b, x.m, 0⟩]) := Lib.hid (by rw [ES.out, HR'.out, push_last, if_neg (fun c => t2 c.2)])
                clear t1 t2
                go_wp2_with fail
                go_quiet (fail)
                have HG4 : Hid (Later w (w3.drewN nq)) := Lib.hid HG3.out
                have HW4 : Hid (WL (w3.drewN nq) w.heap.size (.slice (some ⟨g, 0, none⟩) (q + 1) cap3) R) := Lib.hid (HW3.out.later (later_drewN w3 nq))
                generalize w3.drewN nq = w4 at HG4 HW4 ⊢
                have x2 := ((HC.out m x HM.out).later HG4.out).2.2.1
                go_wp2_with (first | (refine append_spans rfl (.tmp 63) (.tmp 72) rfl w (HG4.out.put _) _ R rfl (HW4.out.later ((Later.refl w4).put _)) _ [⟨a, b, x.m, 0⟩] rfl (ws_one' ⟨a, b, x.m, 0⟩ rfl) (by have := HLN.out; simp only [List.length_cons, List.length_nil]; omega) ?_; intro v' w6 hw hl6 _; have HW6 := Lib.hid hw; have HL6 := Lib.hid hl6; clear hw hl6 x2))
                refine (X.out _ _ HL6.out).mono ?_
                rintro e w5 ⟨⟨b5, m5, rfl, hnx5⟩, hg5⟩
                have HG5 := Lib.hid (gtrans HL6.out hg5)
                have HX5 := Lib.hid hnx5
                have HW5 := Lib.hid (HW6.out.later hg5)
                clear hg5 hnx5
                go_wp2_with fail
                go_roundw
                case rel => exact ⟨b, b5, m5, _, rfl, rfl, rfl, HG'.out, HX5.out, by rw [EP.out]; exact HW5.out, by have := HCN.out; have := HSL.out; have := HLN.out; omega, HG5.out⟩
                case measure => exact HCN.out
            · have t1d : (s.t == a) = false := by simpa using t1
              have EP : Hid (st l R a b = R ++ [⟨a, b, x.m, 0⟩]) := Lib.hid (by rw [ES.out, HR'.out, push_last, if_neg (fun c => t1 c.1)])
              clear t1
              go_wp2_with fail
              go_quiet (fail)
              have HG4 : Hid (Later w (w3.drewN nq)) := Lib.hid HG3.out
              have HW4 : Hid (WL (w3.drewN nq) w.heap.size (.slice (some ⟨g, 0, none⟩) (q + 1) cap3) R) := Lib.hid (HW3.out.later (later_drewN w3 nq))
              generalize w3.drewN nq = w4 at HG4 HW4 ⊢
              have x2 := ((HC.out m x HM.out).later HG4.out).2.2.1
              go_wp2_with (first | (refine append_spans rfl (.tmp 63) (.tmp 72) rfl w (HG4.out.put _) _ R rfl (HW4.out.later ((Later.refl w4).put _)) _ [⟨a, b, x.m, 0⟩] rfl (ws_one' ⟨a, b, x.m, 0⟩ rfl) (by have := HLN.out; simp only [List.length_cons, List.length_nil]; omega) ?_; intro v' w6 hw hl6 _; have HW6 := Lib.hid hw; have HL6 := Lib.hid hl6; clear hw hl6 x2))
              refine (X.out _ _ HL6.out).mono ?_
              rintro e w5 ⟨⟨b5, m5, rfl, hnx5⟩, hg5⟩
              have HG5 := Lib.hid (gtrans HL6.out hg5)
              have HX5 := Lib.hid hnx5
              have HW5 := Lib.hid (HW6.out.later hg5)
              clear hg5 hnx5
              go_wp2_with fail
              go_roundw
              case rel => exact ⟨b, b5, m5, _, rfl, rfl, rfl, HG'.out, HX5.out, by rw [EP.out]; exact HW5.out, by have := HCN.out; have := HSL.out; have := HLN.out; omega, HG5.out⟩
              case measure => exact HCN.out

end Go.Proofs.Ytmjedpaiccaddaa.Span
