/-
  They stand one behind the other, and resolved again they stay: the law's walk.  Conditions: as each theorem states.
-/
import Derived.Test.YtmjedpaiccaddaaXs
namespace Go.Proofs.Ytmjedpaiccaddaa.Span
set_option maxRecDepth 100000
open Go.ChangeShapes Go.WideShapes Go.ChangeAt Go.RowKit
open Go.Proofs.Ytmjedpaiccaddaa.Divs Go.Proofs.Ytmjedpaiccaddaa.Grow
open Go.Proofs.Ytmjedpaiccaddaa.By (Sk SL)
open Go.Proofs.Ytmjedpaiccaddaa.Sp

/-- What the law asks of two neighbours. -/
theorem row_two {R : List Sp} (h : Row R) {j : Nat} {x y : Sp} (hy : R[j]? = some y) (hx : R[j + 1]? = some x) : y.t ≤ x.f ∧ (x.f = y.t → x.m ≠ y.m) := by
  obtain ⟨i1, e1⟩ := List.getElem?_eq_some_iff.1 hx
  obtain ⟨i0, e0⟩ := List.getElem?_eq_some_iff.1 hy
  have := row_at h j i1
  rw [e0, e1] at this
  exact ⟨this.1, fun e k => this.2 e.symm k.symm⟩

set_option maxHeartbeats 4000000 in
theorem row_core (w : World) (v : Value) (l : List Sp) (h : Ws w v l) : Calls Try.prog 6 #[v] w fun e w' => e = .returned (.bool true) ∧ Later w w' := by
  have A := Lib.hid awake_any
  have O := Lib.hid (fun W u (xs : List Sp) (k : Ws W u xs) (q : xs.length ≤ 100000) => own_any u xs W k q)
  have HG0 := Lib.hid (Later.refl w)
  obtain ⟨ad, cap, e0, _⟩ := h.form
  obtain ⟨n, hn⟩ : ∃ n, l.length = n := ⟨_, rfl⟩
  rw [hn] at e0
  subst e0
  have HS := Lib.hid h
  have HN := Lib.hid hn
  by_cases h1 : 60 < n
  · have t1 : (n : Int) > 60 := by omega
    clear h hn h1 HS HN
    go_enter Try.func6, Try.ntmps6
    go_wp2_with fail
    refine (A.out _).mono ?_
    rintro e w9 ⟨rfl, hg9⟩
    go_wp2_with fail
    go_ret
    exact ⟨rfl, gtrans HG0.out hg9⟩
  · have t1 : ¬ (n : Int) > 60 := by omega
    have HN6 : Hid (n ≤ 60) := Lib.hid (by omega)
    clear h hn h1
    go_enter Try.func6, Try.ntmps6
    go_wp2_with fail
    refine (O.out _ _ l HS.out (by have := HN.out; have := HN6.out; omega)).mono ?_
    rintro e w1 ⟨v1, rfl, hv1, hg1⟩
    obtain ⟨a1, c1, rfl⟩ := hv1.lit HN.out
    have HW1 := Lib.hid hv1.ws
    have HG1 := Lib.hid (gtrans HG0.out hg1)
    clear hv1 hg1
    go_wp2_with fail
    cases hmb : mb l with
    | false =>
      refine (resolve_no _ l _ HW1.out hmb).mono ?_
      rintro e w2 ⟨rfl, hg2⟩
      have HG2 := Lib.hid (gtrans HG1.out hg2)
      obtain ⟨R, hR0⟩ : ∃ R : List Sp, R = [] := ⟨_, rfl⟩
      have HR : Hid (Row R) := Lib.hid (by rw [hR0]; exact full_nil.row)
      have HX : Hid (Ws w2 (.slice none 0 0) R) := Lib.hid (by rw [hR0]; exact ws_nil w2)
      have HM : Hid (R.length = 0) := Lib.hid (by rw [hR0]; rfl)
      have HM2 : Hid (0 ≤ 120) := Lib.hid (by omega)
      clear hg2 hmb hR0
      go_wp2_with fail
      refine wp_loop_rounds 1 ?_
      rw [rounds_succ]
      go_wp2_with fail
      refine (O.out _ _ R HX.out (by have := HM.out; have := HM2.out; omega)).mono ?_
      rintro e w3 ⟨v3, rfl, hv3, hg3⟩
      obtain ⟨a3, c3, rfl⟩ := hv3.lit HM.out
      have HW3 := Lib.hid hv3.ws
      have HX3 := Lib.hid (HX.out.later hg3)
      have HG3 := Lib.hid (gtrans HG2.out hg3)
      clear hv3 hg3
      go_wp2_with fail
      refine (res_known _ R R _ HW3.out ((mb_iff _).2 ⟨by have := HM.out; have := HM2.out; omega, row_may HR.out⟩) (full_self HR.out)).mono ?_
      rintro e w4 ⟨v4, rfl, hv4, hg4⟩
      obtain ⟨a4, c4, rfl⟩ := hv4.lit HM.out
      have HX4 := Lib.hid (HX3.out.later hg4)
      have HY4 := Lib.hid hv4.ws
      have HG4 := Lib.hid (gtrans HG3.out hg4)
      clear hv4 hg4
      go_wp2_with fail
      refine (A.out _).mono ?_
      rintro e w5 ⟨rfl, hg5⟩
      have HX5 := Lib.hid (HX4.out.later hg5)
      have HY5 := Lib.hid (HY4.out.later hg5)
      have HG5 := Lib.hid (gtrans HG4.out hg5)
      clear hg5
      have Z := Lib.hid (same_any _ _ R R w5 HY5.out HX5.out)
      rw [decide_eq_true rfl] at Z
      go_wp2_with fail
      refine (Z.out).mono ?_
      rintro e w6 ⟨rfl, hg6⟩
      go_wp2_with fail
      go_ret
      exact ⟨rfl, gtrans HG5.out hg6⟩
    | true =>
      refine (res_yes _ l _ HW1.out hmb).mono ?_
      rintro e w2 ⟨⟨v2, R, rfl, hR, hv2⟩, hg2⟩
      obtain ⟨m, hm⟩ : ∃ m, R.length = m := ⟨_, rfl⟩
      have HM := Lib.hid hm
      have HM2 : Hid (m ≤ 120) := Lib.hid (by have a1 := full_len hR; have a2 := HN.out; have a3 := HN6.out; omega)
      obtain ⟨a2, c2, rfl⟩ := hv2.lit hm
      have HX2 := Lib.hid hv2.ws
      have HG2' := Lib.hid (gtrans HG1.out hg2)
      have HR := Lib.hid hR.row
      have HAT : Hid (∀ i x, R[i]? = some x → ∃ g off, a2 = some ⟨g, off, none⟩ ∧ At w2 g (off + i * 4) x) := Lib.hid (by
        obtain ⟨ad', cap', e', _, hc'⟩ := hv2.ws.form
        rw [hm] at e'
        simp only [Value.slice.injEq] at e'
        obtain ⟨rfl, _, rfl⟩ := e'
        exact hc')
      clear hv2 hg2 hmb hm hR
      go_wp2_with fail
      go_loopw [5] (fun i wr => ∃ k : Nat, k ≤ m ∧ i = .int .i64 (k : Int) ∧ Later w2 wr) (fun i _ => m - (intOf i).toNat)
      case atStart => exact ⟨0, by omega, rfl, Later.refl _⟩
      case round =>
        obtain ⟨k, hk, rfl, hg⟩ := hrel
        have HG := Lib.hid hg
        clear hg
        by_cases hlt : k < m
        · obtain ⟨x, hx⟩ : ∃ x, R[k]? = some x := ⟨_, List.getElem?_eq_getElem (by rw [HM.out]; exact hlt)⟩
          obtain ⟨g, off, rfl, hat⟩ := HAT.out k x hx
          obtain ⟨p0, p1, p2, p3⟩ := hat.later HG.out
          have hxt := HR.out.len x (List.mem_of_getElem? hx)
          have HX0 := Lib.hid hx
          have ad2 : ∀ j, (⟨g, off, none⟩ : Addr).add j = ⟨g, off + j, none⟩ := Addr.add_mid g off
          have hkz : (k : Int) < (m : Int) := by omega
          have u1 : decide (x.f ≥ x.t) = false := decide_eq_false (by omega)
          clear hx hat hxt p3
          rcases Nat.eq_zero_or_pos k with k0 | k0
          · subst k0
            have u2 : decide (((0 : Nat) : Int) > 0) = false := rfl
            simp only [Nat.zero_mul, Nat.add_zero] at p0 p1 p2
            go_wp2_with fail
            go_quiet (fail)
            go_wp2_with fail
            go_roundw
            case rel => exact ⟨1, by omega, by go_num, gtrans HG.out (later_drewN _ _)⟩
            case measure => have hm2 := HM2.out; simp [intOf]; omega
          · obtain ⟨j, hkj⟩ : ∃ j, k = j + 1 := ⟨k - 1, by omega⟩
            obtain ⟨y, hy⟩ : ∃ y, R[j]? = some y := ⟨_, List.getElem?_eq_getElem (by rw [HM.out]; omega)⟩
            obtain ⟨g', off', e', hat'⟩ := HAT.out j y hy
            simp only [Option.some.injEq, Addr.mk.injEq, and_true] at e'
            obtain ⟨rfl, rfl⟩ := e'
            obtain ⟨q0, q1, q2, q3⟩ := hat'.later HG.out
            obtain ⟨u3, u4⟩ := row_two HR.out hy (by rw [← hkj]; exact HX0.out)
            clear hy hat' q0 q3
            have u2 : decide ((k : Int) > 0) = true := decide_eq_true (by omega)
            have u5 : decide (x.f < y.t) = false := decide_eq_false (by omega)
            have r1 : IntKind.i64.wrap ((k : Int) - 1) = (j : Int) := by have := HM2.out; rw [IntKind.wrap_i64]; omega
            have i1 : (j : Int) < (m : Int) := by omega
            have r3 : IntKind.i64.wrap ((k : Int) + 1) = (k : Int) + 1 := by have := HM2.out; rw [IntKind.wrap_i64]; omega
            have HKJ := Lib.hid hkj
            clear hkj
            have u2b : decide (0 < k) = true := decide_eq_true k0
            have u2c : decide ((0 : Int) < (k : Int)) = true := decide_eq_true (by omega)
            by_cases u6 : x.f = y.t
            · have u7 : (x.f == y.t) = true := by simpa using u6
              have u8 : (x.m == y.m) = false := by simpa using u4 u6
              clear u3 u4 u6
              go_wp2_with fail
              go_quiet (fail)
              go_wp2_with fail
              go_roundw
              case rel => have hm2 := HM2.out; exact ⟨k + 1, by omega, by go_num, gtrans HG.out (later_drewN _ _)⟩
              case measure => have hm2 := HM2.out; simp [intOf]; omega
            · have u7 : (x.f == y.t) = false := by simpa using u6
              clear u3 u4 u6
              go_wp2_with fail
              go_quiet (fail)
              go_wp2_with fail
              go_roundw
              case rel => have hm2 := HM2.out; exact ⟨k + 1, by omega, by go_num, gtrans HG.out (later_drewN _ _)⟩
              case measure => have hm2 := HM2.out; simp [intOf]; omega
        · have hkz : ¬ (k : Int) < (m : Int) := by omega
          have HX := Lib.hid (HX2.out.later HG.out)
          have HG2 := Lib.hid (gtrans HG2'.out HG.out)
          go_wp2_with fail
          refine (O.out _ _ R HX.out (by have := HM.out; have := HM2.out; omega)).mono ?_
          rintro e w3 ⟨v3, rfl, hv3, hg3⟩
          obtain ⟨a3, c3, rfl⟩ := hv3.lit HM.out
          have HW3 := Lib.hid hv3.ws
          have HX3 := Lib.hid (HX.out.later hg3)
          have HG3 := Lib.hid (gtrans HG2.out hg3)
          clear hv3 hg3
          go_wp2_with fail
          refine (res_known _ R R _ HW3.out ((mb_iff _).2 ⟨by have := HM.out; have := HM2.out; omega, row_may HR.out⟩) (full_self HR.out)).mono ?_
          rintro e w4 ⟨v4, rfl, hv4, hg4⟩
          obtain ⟨a4, c4, rfl⟩ := hv4.lit HM.out
          have HX4 := Lib.hid (HX3.out.later hg4)
          have HY4 := Lib.hid hv4.ws
          have HG4 := Lib.hid (gtrans HG3.out hg4)
          clear hv4 hg4
          go_wp2_with fail
          refine (A.out _).mono ?_
          rintro e w5 ⟨rfl, hg5⟩
          have HX5 := Lib.hid (HX4.out.later hg5)
          have HY5 := Lib.hid (HY4.out.later hg5)
          have HG5 := Lib.hid (gtrans HG4.out hg5)
          clear hg5
          have Z := Lib.hid (same_any _ _ R R w5 HY5.out HX5.out)
          rw [decide_eq_true rfl] at Z
          go_wp2_with fail
          refine (Z.out).mono ?_
          rintro e w6 ⟨rfl, hg6⟩
          go_wp2_with fail
          go_ret
          exact ⟨rfl, gtrans HG5.out hg6⟩

end Go.Proofs.Ytmjedpaiccaddaa.Span
