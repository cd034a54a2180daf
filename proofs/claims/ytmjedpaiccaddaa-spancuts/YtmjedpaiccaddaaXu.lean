/-
  What is cut in two and put together: the law's walk.  Conditions: as each theorem states.
-/
import Derived.Test.YtmjedpaiccaddaaXs
namespace Go.Proofs.Ytmjedpaiccaddaa.Span
set_option maxRecDepth 100000
open Go.ChangeShapes Go.WideShapes Go.ChangeAt Go.RowKit
open Go.Proofs.Ytmjedpaiccaddaa.Divs Go.Proofs.Ytmjedpaiccaddaa.Grow
open Go.Proofs.Ytmjedpaiccaddaa.By (Sk SL)
open Go.Proofs.Ytmjedpaiccaddaa.Sp

set_option maxHeartbeats 4000000 in
theorem cuts_core (w : World) (v : Value) (l : List Sp) (f a t : Int) (h : Ws w v l) : Calls Try.prog 7 #[.agg #[v, .int .i64 f, .int .i64 a, .int .i64 t]] w fun e w' => e = .returned (.bool true) ∧ Later w w' := by
  have A := Lib.hid awake_any
  obtain ⟨ad, cap, e0, _⟩ := h.form
  obtain ⟨n, hn⟩ : ∃ n, l.length = n := ⟨_, rfl⟩
  rw [hn] at e0
  subst e0
  have HG0 := Lib.hid ((Later.refl w).put (.cells #[.slice ad n cap, .int .i64 f, .int .i64 a, .int .i64 t] 38))
  have HB := Lib.hid (RA.new w #[.slice ad n cap, .int .i64 f, .int .i64 a, .int .i64 t] 38)
  have HS := Lib.hid (h.later HG0.out)
  have HN := Lib.hid hn
  have k0 := HB.out.cell 0 (.slice ad n cap) rfl
  have k1 := HB.out.cell 1 (.int .i64 f) rfl
  have k2 := HB.out.cell 2 (.int .i64 a) rfl
  have k3 := HB.out.cell 3 (.int .i64 t) rfl
  by_cases h1 : 60 < n
  · have t1 : (n : Int) > 60 := by omega
    clear h1
    clear h hn HS HN
    go_enter Try.func7, Try.ntmps7
    go_wp2_with fail
    refine (A.out _).mono ?_
    rintro e w9 ⟨rfl, hg9⟩
    go_wp2_with fail
    go_ret
    exact ⟨rfl, gtrans HG0.out hg9⟩
  by_cases h2 : a < f
  · have t1 : ¬ (n : Int) > 60 := by omega
    have t2 : f > a := by omega
    clear h1 h2
    clear h hn HS HN
    go_enter Try.func7, Try.ntmps7
    go_wp2_with fail
    refine (A.out _).mono ?_
    rintro e w9 ⟨rfl, hg9⟩
    go_wp2_with fail
    go_ret
    exact ⟨rfl, gtrans HG0.out hg9⟩
  by_cases h3 : t < a
  · have t1 : ¬ (n : Int) > 60 := by omega
    have t2 : ¬ f > a := by omega
    have t3 : a > t := by omega
    clear h1 h2 h3
    clear h hn HS HN
    go_enter Try.func7, Try.ntmps7
    go_wp2_with fail
    refine (A.out _).mono ?_
    rintro e w9 ⟨rfl, hg9⟩
    go_wp2_with fail
    go_ret
    exact ⟨rfl, gtrans HG0.out hg9⟩
  · have t1 : ¬ (n : Int) > 60 := by omega
    have t2 : ¬ f > a := by omega
    have t3 : ¬ a > t := by omega
    have HO1 : Hid (f ≤ a ∧ a ≤ t) := Lib.hid ⟨by omega, by omega⟩
    have O := Lib.hid (fun W u (xs : List Sp) (k : Ws W u xs) (q : xs.length ≤ 100000) => own_any u xs W k q)
    have C := Lib.hid (fun W u (xs : List Sp) x y (k : Ws W u xs) (q : xs.length ≤ 50000) => cut_any u xs x y W k q)
    have hn6 : n ≤ 60 := by omega
    have HN6 := Lib.hid hn6
    clear h hn h1 h2 h3 hn6
    go_enter Try.func7, Try.ntmps7
    go_wp2_with fail
    clear k0 k1 k2 k3
    refine (O.out _ _ l HS.out (by have := HN.out; have := HN6.out; omega)).mono ?_
    rintro e w1 ⟨v1, rfl, hv1, hg1⟩
    obtain ⟨a1, c1, rfl⟩ := hv1.lit HN.out
    have HW1 := Lib.hid hv1.ws
    have HG1 := Lib.hid (gtrans HG0.out hg1)
    clear hv1 hg1
    go_wp2_with fail
    cases hmb : mb l with
    | false =>
      refine (resolve_no _ l _ HW1.out hmb).mono ?_
      rintro e w2 ⟨rfl, hg2⟩
      have HG2 := Lib.hid (gtrans HG1.out hg2)
      clear hg2 hmb
      go_wp2_with fail
      refine (A.out _).mono ?_
      rintro e w9 ⟨rfl, hg9⟩
      go_wp2_with fail
      go_ret
      exact ⟨rfl, gtrans HG2.out hg9⟩
    | true =>
      refine (res_yes _ l _ HW1.out hmb).mono ?_
      rintro e w2 ⟨⟨v2, R, rfl, hR, hv2⟩, hg2⟩
      obtain ⟨m, hm⟩ : ∃ m, R.length = m := ⟨_, rfl⟩
      have HM := Lib.hid hm
      have HM2 : Hid (m ≤ 120) := Lib.hid (by have a1 := full_len hR; have a2 := HN.out; have a3 := HN6.out; omega)
      obtain ⟨a2, c2, rfl⟩ := hv2.lit hm
      have HW2 := Lib.hid hv2.ws
      have HG2 := Lib.hid (gtrans HG1.out hg2)
      have HR := Lib.hid hR
      clear hv2 hg2 hmb hm hR
      go_wp2_with fail
      refine (O.out _ _ R HW2.out (by have := HM.out; have := HM2.out; omega)).mono ?_
      rintro e w3 ⟨v3, rfl, hv3, hg3⟩
      obtain ⟨a3, c3, rfl⟩ := hv3.lit HM.out
      have HW3 := Lib.hid hv3.ws
      have HX3 := Lib.hid (HW2.out.later hg3)
      have HG3 := Lib.hid (gtrans HG2.out hg3)
      clear hv3 hg3
      go_wp2_with fail
      refine (C.out _ _ R f a HW3.out (by have := HM.out; have := HM2.out; omega)).mono ?_
      rintro e w4 ⟨v4, rfl, hv4, hg4⟩
      obtain ⟨n4, hn4⟩ : ∃ m, (cu R f a).length = m := ⟨_, rfl⟩
      obtain ⟨a4, c4, rfl⟩ := hv4.lit hn4
      have HN4 := Lib.hid hn4
      have HX4 := Lib.hid (HX3.out.later hg4)
      have HY4 := Lib.hid hv4.ws
      have HG4 := Lib.hid (gtrans HG3.out hg4)
      clear hv4 hg4 hn4
      go_wp2_with fail
      refine (O.out _ _ R HX4.out (by have := HM.out; have := HM2.out; omega)).mono ?_
      rintro e w5 ⟨v5, rfl, hv5, hg5⟩
      obtain ⟨a5, c5, rfl⟩ := hv5.lit HM.out
      have HW5 := Lib.hid hv5.ws
      have HX5 := Lib.hid (HX4.out.later hg5)
      have HY5 := Lib.hid (HY4.out.later hg5)
      have HG5 := Lib.hid (gtrans HG4.out hg5)
      clear hv5 hg5
      go_wp2_with fail
      refine (C.out _ _ R a t HW5.out (by have := HM.out; have := HM2.out; omega)).mono ?_
      rintro e w6 ⟨v6, rfl, hv6, hg6⟩
      obtain ⟨n6, hn6⟩ : ∃ m, (cu R a t).length = m := ⟨_, rfl⟩
      obtain ⟨a6, c6, rfl⟩ := hv6.lit hn6
      have HN6' := Lib.hid hn6
      have HX6 := Lib.hid (HX5.out.later hg6)
      have HY6 := Lib.hid (HY5.out.later hg6)
      have HZ6 := Lib.hid hv6.ws
      have HG6 := Lib.hid (gtrans HG5.out hg6)
      clear hv6 hg6 hn6
      go_wp2_with fail
      refine (O.out _ _ (cu R f a) HY6.out (by have := cu_len R f a; have := HM.out; have := HM2.out; omega)).mono ?_
      rintro e w7 ⟨v7, rfl, hv7, hg7⟩
      obtain ⟨a7, c7, rfl⟩ := hv7.lit HN4.out
      have HW7 := Lib.hid hv7
      have HX7 := Lib.hid (HX6.out.later hg7)
      have HZ7 := Lib.hid (HZ6.out.later hg7)
      have HG7 := Lib.hid (gtrans HG6.out hg7)
      have HL7 := Lib.hid hg7
      clear hv7 hg7
      go_wp2_with (refine append_spans rfl (.tmp 56) (.tmp 57) rfl w6 HL7.out _ (cu R f a) rfl HW7.out _ (cu R a t) rfl HZ7.out (by have := cu_len R f a; have := cu_len R a t; have := HM.out; have := HM2.out; omega) ?_; intro v8 w8 hw hl8 _; have HW8 := Lib.hid hw.ws; have HG8 := Lib.hid (gtrans HG6.out hl8); have HX8 := Lib.hid (HX6.out.later hl8); clear hw hl8)
      refine (res_yes _ _ _ HW8.out ((mb_iff _).2 ⟨?_, two_may HR.out.row f a t⟩)).mono ?_
      · have := cu_len R f a; have := cu_len R a t; have := HM.out; have := HM2.out; rw [List.length_append]; omega
      rintro e w9 ⟨⟨v9, S, rfl, hS, hv9⟩, hg9⟩
      obtain rfl := cut_two HR.out.row f a t HO1.out.1 HO1.out.2 hS
      obtain ⟨a9, c9, rfl⟩ := hv9.lit rfl
      have HW9 := Lib.hid hv9.ws
      have HG9 := Lib.hid (gtrans HG8.out hg9)
      have HX9 := Lib.hid (HX8.out.later hg9)
      clear hv9 hg9 hS
      go_wp2_with fail
      refine (A.out _).mono ?_
      rintro e w10 ⟨rfl, hg10⟩
      have HW10 := Lib.hid (HW9.out.later hg10)
      have HG10 := Lib.hid (gtrans HG9.out hg10)
      have HX10 := Lib.hid (HX9.out.later hg10)
      clear hg10
      go_wp2_with fail
      refine (O.out _ _ R HX10.out (by have := HM.out; have := HM2.out; omega)).mono ?_
      rintro e w11 ⟨v11, rfl, hv11, hg11⟩
      obtain ⟨a11, c11, rfl⟩ := hv11.lit HM.out
      have HW11 := Lib.hid (HW10.out.later hg11)
      have HG11 := Lib.hid (gtrans HG10.out hg11)
      have HX11 := Lib.hid hv11.ws
      clear hg11 hv11
      go_wp2_with fail
      refine (C.out _ _ R f t HX11.out (by have := HM.out; have := HM2.out; omega)).mono ?_
      rintro e w12 ⟨v12, rfl, hv12, hg12⟩
      obtain ⟨a12, c12, rfl⟩ := hv12.lit rfl
      have Z := Lib.hid (same_any _ _ (cu R f t) (cu R f t) w12 (HW11.out.later hg12) hv12.ws)
      rw [decide_eq_true rfl] at Z
      have HG12 := Lib.hid (gtrans HG11.out hg12)
      clear hg12 hv12
      go_wp2_with fail
      refine (Z.out).mono ?_
      rintro e w13 ⟨rfl, hg13⟩
      go_wp2_with fail
      go_ret
      exact ⟨rfl, gtrans HG12.out hg13⟩

end Go.Proofs.Ytmjedpaiccaddaa.Span
