/-
  What the document's own answers of layer 3 come to, call by call. Conditions: the numbers are ints; the years are from 2 to 10000, as each theorem says.
-/
import Derived.Test.YtdoahnkjkbpdaaaRefs
import Derived.Test.YtdoahnkjkbpdaaaLen
namespace Go.Proofs.Ytdoahnkjkbpdaaa.Mol
open Go.ChangeShapes Go.WideShapes Go.ChangeAt Go.RowKit
open Go.Proofs.Ytdoahnkjkbpdaaa.Divs Go.Proofs.Ytdoahnkjkbpdaaa.Grow
open Go.Proofs.Ytdoahnkjkbpdaaa.Year (lh mh pt md mp p1 p2 po dl ny yl)

theorem rleap_any (h : Int) (w : World) (h0 : -9223372036854775808 ≤ h) (h1 : h ≤ 9223372036854775807) :
    Calls Try.prog 67 #[.int .i64 h] w fun e w' => e = .returned (.bool (lh h)) ∧ ∃ n, w' = w.drewN n := by
  have hm0 := Int.emod_nonneg h (show (19 : Int) ≠ 0 by omega)
  have hm1 := Int.emod_lt_of_pos h (show (0 : Int) < 19 by omega)
  have K1 := Lib.hid (fun W => rmod_any h 19 W h0 h1 (by omega) (by omega))
  have K2 := Lib.hid (fun W => rmod_any (7 * (h % 19) + 1) 19 W (by omega) (by omega) (by omega) (by omega))
  go_enter Try.func67, Try.ntmps67
  go_wp2_with fail
  refine (K1.out _).mono ?_
  rintro e w1 ⟨rfl, n1, rfl⟩
  go_wp2_with fail
  refine (K2.out _).mono ?_
  rintro e w2 ⟨rfl, n2, rfl⟩
  go_wp2_with fail
  go_ret
  exact ⟨retb (lh_of h), _, rfl⟩

theorem may_yes (h : Int) (w : World) (h0 : 3762 ≤ h) (h1 : h ≤ 9999) :
    Calls Try.prog 16 #[.int .i64 h] w fun e w' => e = .returned (.bool true) ∧ w = w' := by
  go_enter Try.func16, Try.ntmps16
  go_wp2
  go_ret
  exact ⟨rfl, rfl⟩

theorem may_no (h : Int) (w : World) (hb : h < 3762 ∨ 9999 < h) :
    Calls Try.prog 16 #[.int .i64 h] w fun e w' => e = .returned (.bool false) ∧ w = w' := by
  by_cases h1 : 3762 ≤ h
  · have h2 : 9999 < h := by omega
    clear hb
    go_enter Try.func16, Try.ntmps16
    go_wp2
    go_ret
    exact ⟨retb (by simpa using h2), rfl⟩
  · clear hb
    go_enter Try.func16, Try.ntmps16
    go_wp2
    go_ret
    exact ⟨rfl, rfl⟩

def MRel (h : Int) (n i : Value) : Prop := ∃ k : Int, 1 ≤ k ∧ k ≤ h ∧ i = .int .i64 k ∧ n = .int .i64 (mh k)

set_option maxHeartbeats 1000000 in
theorem rmonths_any (h : Int) (w : World) (h1 : 2 ≤ h) (h2 : h ≤ 10000) :
    Calls Try.prog 69 #[.int .i64 h] w fun e w' => e = .returned (.int .i64 (mh h)) ∧ ∃ n, w' = w.drewN n := by
  have hr : 0 ≤ (h - 1) / 19 ∧ (h - 1) / 19 ≤ 600 := by omega
  have hk : 19 * ((h - 1) / 19) + 1 ≤ h := by omega
  have HM := Lib.hid (Year.mh_row ((h - 1) / 19))
  go_enter Try.func69, Try.ntmps69
  go_wp2
  go_loopw [4, 5] (fun n i wr => MRel h n i ∧ ∃ n, wr = w.drewN n) (fun _ i _ => (10000 - intOf i).toNat)
  case atStart => exact ⟨⟨_, by omega, hk, rfl, by rw [HM.out]⟩, 0, rfl⟩
  case round =>
    obtain ⟨⟨k, k1, k2, rfl, rfl⟩, n, rfl⟩ := hrel
    have hb := Year.mh_bd k k1 (by omega)
    by_cases hlt : k < h
    · cases hl : lh k with
      | true =>
        have HS := Lib.hid (Year.mh_leap k hl)
        have K := fun W => rleap_any k W (by omega) (by omega)
        rw [hl] at K
        have K := Lib.hid K
        clear hl
        go_wp2_with (go_at_call 67; refine (K.out _).mono ?_; rintro e w' ⟨rfl, n, rfl⟩)
        go_round
        case rel => exact ⟨⟨k + 1, by omega, by omega, rfl, by rw [HS.out, Int.add_assoc]; rfl⟩, _, rfl⟩
        case measure => simp [intOf]; omega
      | false =>
        have HS := Lib.hid (Year.mh_common k hl)
        have K := fun W => rleap_any k W (by omega) (by omega)
        rw [hl] at K
        have K := Lib.hid K
        clear hl
        go_wp2_with (go_at_call 67; refine (K.out _).mono ?_; rintro e w' ⟨rfl, n, rfl⟩)
        go_round
        case rel => exact ⟨⟨k + 1, by omega, by omega, rfl, by rw [HS.out]⟩, _, rfl⟩
        case measure => simp [intOf]; omega
    · obtain rfl : k = h := by omega
      go_wp2_with fail
      go_ret
      exact ⟨rfl, _, rfl⟩

theorem rmolad_any (h : Int) (w : World) (h1 : 2 ≤ h) (h2 : h ≤ 10000) :
    Calls Try.prog 55 #[.int .i64 h] w fun e w' => e = .returned (.agg #[.int .i64 (md h), .int .i64 (mp h)]) ∧ Later w w' := by
  have hb := Year.mh_bd h (by omega) h2
  have hp := Year.pt_bd h (by omega) h2
  have h0 : 0 ≤ 5604 + 765433 * mh h := by omega
  have hq : (5604 + 765433 * mh h) / 25920 ≤ 4000000 ∧ 0 ≤ (5604 + 765433 * mh h) / 25920 := by omega
  have K := Lib.hid (fun W => rmonths_any h W h1 h2)
  have e1 : md h = -1373427 + (5604 + 765433 * mh h) / 25920 := by unfold md pt; rw [Int.mul_comm]
  have e2 : mp h = (5604 + 765433 * mh h) % 25920 := by unfold mp pt; rw [Int.mul_comm]
  have E1 := Lib.hid e1
  have E2 := Lib.hid e2
  clear e1 e2
  go_enter Try.func55, Try.ntmps55
  go_wp2_with fail
  refine (K.out _).mono ?_
  rintro e w1 ⟨rfl, n, rfl⟩
  go_wp2_with fail
  refine bodyPost_ret (v := .agg #[.int .i64 (-1373427 + (5604 + 765433 * mh h) / 25920), .int .i64 ((5604 + 765433 * mh h) % 25920)]) (by simp [results, Try.results55, go_sem]) rfl ⟨?_, ?_⟩
  · rw [E1.out, E2.out]
  · exact ((gtrans ((Later.refl w).alloc _ _) (later_drewN _ _)).setCell (Nat.le_refl _) _).setCell (Nat.le_refl _) _

theorem rweekday_any (n : Int) (w : World) (h0 : -9223372036854775808 ≤ n) (h1 : n ≤ 9223372036854775807) :
    Calls Try.prog 29 #[.int .i64 n] w fun e w' => e = .returned (.int .i64 (n % 7)) ∧ ∃ k, w' = w.drewN k := by
  have K1 := Lib.hid (fun W => rmod_any n 7 W h0 h1 (by omega) (by omega))
  go_enter Try.func29, Try.ntmps29
  go_wp2_with fail
  refine (K1.out _).mono ?_
  rintro e w1 ⟨rfl, n1, rfl⟩
  go_wp2_with fail
  go_ret
  exact ⟨rfl, _, rfl⟩

theorem eqb {x y : Int} (h : x = y) : (x == y) = true := beq_iff_eq.2 h
theorem neb {x y : Int} (h : ¬ x = y) : (x == y) = false := beq_eq_false_iff_ne.2 h

theorem rput_late (h d p : Int) (l : Bool) (b : Bool) (w : World) (h1 : 2 ≤ h) (h2 : h ≤ 10000) (d0 : -4000000 ≤ d) (d1 : d ≤ 4000010)
    (kl : ∀ W, Calls Try.prog 67 #[.int .i64 h] W fun e w' => e = .returned (.bool l) ∧ ∃ n, w' = W.drewN n)
    (kb : ∀ W, Calls Try.prog 67 #[.int .i64 (h - 1)] W fun e w' => e = .returned (.bool b) ∧ ∃ n, w' = W.drewN n) (hp : 19440 ≤ p) :
    Calls Try.prog 70 #[.int .i64 h, .agg #[.int .i64 d, .int .i64 p]] w fun e w' => e = .returned (.int .i64 (p1 (d % 7) p l b)) ∧ Later w w' := by
  have HV := Lib.hid (show p1 (d % 7) p l b = 1 by unfold p1; rw [if_pos (Or.inl hp)])
  have KL := Lib.hid kl
  have KB := Lib.hid kb
  have KW := Lib.hid (fun W => rweekday_any d W (by omega) (by omega))
  clear kl kb
  go_enter Try.func70, Try.ntmps70
  go_wp2_with fail
  refine (KW.out _).mono ?_
  rintro e w1 ⟨rfl, n1, rfl⟩
  go_wp2_with fail
  refine (KL.out _).mono ?_
  rintro e w2 ⟨rfl, n2, rfl⟩
  go_wp2_with fail
  refine (KB.out _).mono ?_
  rintro e w3 ⟨rfl, n3, rfl⟩
  go_wp2_with fail
  go_ret
  exact ⟨ret1 HV.out.symm, (Later.refl w).alloc _ _⟩

theorem rput_tf (h d p : Int) (w : World) (h1 : 2 ≤ h) (h2 : h ≤ 10000) (d0 : -4000000 ≤ d) (d1 : d ≤ 4000010)
    (kl : ∀ W, Calls Try.prog 67 #[.int .i64 h] W fun e w' => e = .returned (.bool true) ∧ ∃ n, w' = W.drewN n)
    (kb : ∀ W, Calls Try.prog 67 #[.int .i64 (h - 1)] W fun e w' => e = .returned (.bool false) ∧ ∃ n, w' = W.drewN n) (hp : p < 19440) :
    Calls Try.prog 70 #[.int .i64 h, .agg #[.int .i64 d, .int .i64 p]] w fun e w' => e = .returned (.int .i64 (p1 (d % 7) p true false)) ∧ Later w w' := by
  have HV := Lib.hid (show p1 (d % 7) p true false = 0 by unfold p1; rw [if_neg (by simp; omega)])
  have KL := Lib.hid kl
  have KB := Lib.hid kb
  have KW := Lib.hid (fun W => rweekday_any d W (by omega) (by omega))
  clear kl kb
  go_enter Try.func70, Try.ntmps70
  go_wp2_with fail
  refine (KW.out _).mono ?_
  rintro e w1 ⟨rfl, n1, rfl⟩
  go_wp2_with fail
  refine (KL.out _).mono ?_
  rintro e w2 ⟨rfl, n2, rfl⟩
  go_wp2_with fail
  refine (KB.out _).mono ?_
  rintro e w3 ⟨rfl, n3, rfl⟩
  go_wp2_with fail
  go_ret
  exact ⟨ret1 HV.out.symm, (Later.refl w).alloc _ _⟩

theorem rput_tt_not (h d p : Int) (w : World) (h1 : 2 ≤ h) (h2 : h ≤ 10000) (d0 : -4000000 ≤ d) (d1 : d ≤ 4000010)
    (kl : ∀ W, Calls Try.prog 67 #[.int .i64 h] W fun e w' => e = .returned (.bool true) ∧ ∃ n, w' = W.drewN n)
    (kb : ∀ W, Calls Try.prog 67 #[.int .i64 (h - 1)] W fun e w' => e = .returned (.bool true) ∧ ∃ n, w' = W.drewN n) (hp : p < 19440) (v1 : ¬ d % 7 = 1) :
    Calls Try.prog 70 #[.int .i64 h, .agg #[.int .i64 d, .int .i64 p]] w fun e w' => e = .returned (.int .i64 (p1 (d % 7) p true true)) ∧ Later w w' := by
  have HV := Lib.hid (show p1 (d % 7) p true true = 0 by unfold p1; rw [if_neg (by simp; omega)])
  have KL := Lib.hid kl
  have KB := Lib.hid kb
  have KW := Lib.hid (fun W => rweekday_any d W (by omega) (by omega))
  clear kl kb
  have t0 := neb v1
  clear v1
  go_enter Try.func70, Try.ntmps70
  go_wp2_with fail
  refine (KW.out _).mono ?_
  rintro e w1 ⟨rfl, n1, rfl⟩
  go_wp2_with fail
  refine (KL.out _).mono ?_
  rintro e w2 ⟨rfl, n2, rfl⟩
  go_wp2_with fail
  refine (KB.out _).mono ?_
  rintro e w3 ⟨rfl, n3, rfl⟩
  go_wp2_with fail
  go_ret
  exact ⟨ret1 HV.out.symm, (Later.refl w).alloc _ _⟩

theorem rput_tt_low (h d p : Int) (w : World) (h1 : 2 ≤ h) (h2 : h ≤ 10000) (d0 : -4000000 ≤ d) (d1 : d ≤ 4000010)
    (kl : ∀ W, Calls Try.prog 67 #[.int .i64 h] W fun e w' => e = .returned (.bool true) ∧ ∃ n, w' = W.drewN n)
    (kb : ∀ W, Calls Try.prog 67 #[.int .i64 (h - 1)] W fun e w' => e = .returned (.bool true) ∧ ∃ n, w' = W.drewN n) (hp : p < 16789) (v1 : d % 7 = 1) :
    Calls Try.prog 70 #[.int .i64 h, .agg #[.int .i64 d, .int .i64 p]] w fun e w' => e = .returned (.int .i64 (p1 (d % 7) p true true)) ∧ Later w w' := by
  have HV := Lib.hid (show p1 (d % 7) p true true = 0 by unfold p1; rw [if_neg (by simp; omega)])
  have KL := Lib.hid kl
  have KB := Lib.hid kb
  have KW := Lib.hid (fun W => rweekday_any d W (by omega) (by omega))
  clear kl kb
  have t0 := eqb v1
  clear v1
  go_enter Try.func70, Try.ntmps70
  go_wp2_with fail
  refine (KW.out _).mono ?_
  rintro e w1 ⟨rfl, n1, rfl⟩
  go_wp2_with fail
  refine (KL.out _).mono ?_
  rintro e w2 ⟨rfl, n2, rfl⟩
  go_wp2_with fail
  refine (KB.out _).mono ?_
  rintro e w3 ⟨rfl, n3, rfl⟩
  go_wp2_with fail
  go_ret
  exact ⟨ret1 HV.out.symm, (Later.refl w).alloc _ _⟩

theorem rput_tt_high (h d p : Int) (w : World) (h1 : 2 ≤ h) (h2 : h ≤ 10000) (d0 : -4000000 ≤ d) (d1 : d ≤ 4000010)
    (kl : ∀ W, Calls Try.prog 67 #[.int .i64 h] W fun e w' => e = .returned (.bool true) ∧ ∃ n, w' = W.drewN n)
    (kb : ∀ W, Calls Try.prog 67 #[.int .i64 (h - 1)] W fun e w' => e = .returned (.bool true) ∧ ∃ n, w' = W.drewN n) (hp : p < 19440) (hq : 16789 ≤ p) (v1 : d % 7 = 1) :
    Calls Try.prog 70 #[.int .i64 h, .agg #[.int .i64 d, .int .i64 p]] w fun e w' => e = .returned (.int .i64 (p1 (d % 7) p true true)) ∧ Later w w' := by
  have HV := Lib.hid (show p1 (d % 7) p true true = 1 by unfold p1; rw [if_pos (by simp; omega)])
  have KL := Lib.hid kl
  have KB := Lib.hid kb
  have KW := Lib.hid (fun W => rweekday_any d W (by omega) (by omega))
  clear kl kb
  have t0 := eqb v1
  clear v1
  go_enter Try.func70, Try.ntmps70
  go_wp2_with fail
  refine (KW.out _).mono ?_
  rintro e w1 ⟨rfl, n1, rfl⟩
  go_wp2_with fail
  refine (KL.out _).mono ?_
  rintro e w2 ⟨rfl, n2, rfl⟩
  go_wp2_with fail
  refine (KB.out _).mono ?_
  rintro e w3 ⟨rfl, n3, rfl⟩
  go_wp2_with fail
  go_ret
  exact ⟨ret1 HV.out.symm, (Later.refl w).alloc _ _⟩

theorem rput_f_high (h d p : Int) (b : Bool) (w : World) (h1 : 2 ≤ h) (h2 : h ≤ 10000) (d0 : -4000000 ≤ d) (d1 : d ≤ 4000010)
    (kl : ∀ W, Calls Try.prog 67 #[.int .i64 h] W fun e w' => e = .returned (.bool false) ∧ ∃ n, w' = W.drewN n)
    (kb : ∀ W, Calls Try.prog 67 #[.int .i64 (h - 1)] W fun e w' => e = .returned (.bool b) ∧ ∃ n, w' = W.drewN n) (hp : p < 19440) (hq : 9924 ≤ p) (v2 : d % 7 = 2) :
    Calls Try.prog 70 #[.int .i64 h, .agg #[.int .i64 d, .int .i64 p]] w fun e w' => e = .returned (.int .i64 (p1 (d % 7) p false b)) ∧ Later w w' := by
  have HV := Lib.hid (show p1 (d % 7) p false b = 1 by unfold p1; rw [if_pos (by simp; omega)])
  have KL := Lib.hid kl
  have KB := Lib.hid kb
  have KW := Lib.hid (fun W => rweekday_any d W (by omega) (by omega))
  clear kl kb
  have t0 := eqb v2
  clear v2
  go_enter Try.func70, Try.ntmps70
  go_wp2_with fail
  refine (KW.out _).mono ?_
  rintro e w1 ⟨rfl, n1, rfl⟩
  go_wp2_with fail
  refine (KL.out _).mono ?_
  rintro e w2 ⟨rfl, n2, rfl⟩
  go_wp2_with fail
  refine (KB.out _).mono ?_
  rintro e w3 ⟨rfl, n3, rfl⟩
  go_wp2_with fail
  go_ret
  exact ⟨ret1 HV.out.symm, (Later.refl w).alloc _ _⟩

theorem rput_ff_low (h d p : Int) (w : World) (h1 : 2 ≤ h) (h2 : h ≤ 10000) (d0 : -4000000 ≤ d) (d1 : d ≤ 4000010)
    (kl : ∀ W, Calls Try.prog 67 #[.int .i64 h] W fun e w' => e = .returned (.bool false) ∧ ∃ n, w' = W.drewN n)
    (kb : ∀ W, Calls Try.prog 67 #[.int .i64 (h - 1)] W fun e w' => e = .returned (.bool false) ∧ ∃ n, w' = W.drewN n) (hp : p < 9924) (v2 : d % 7 = 2) :
    Calls Try.prog 70 #[.int .i64 h, .agg #[.int .i64 d, .int .i64 p]] w fun e w' => e = .returned (.int .i64 (p1 (d % 7) p false false)) ∧ Later w w' := by
  have HV := Lib.hid (show p1 (d % 7) p false false = 0 by unfold p1; rw [if_neg (by simp; omega)])
  have KL := Lib.hid kl
  have KB := Lib.hid kb
  have KW := Lib.hid (fun W => rweekday_any d W (by omega) (by omega))
  clear kl kb
  have t0 := eqb v2
  clear v2
  go_enter Try.func70, Try.ntmps70
  go_wp2_with fail
  refine (KW.out _).mono ?_
  rintro e w1 ⟨rfl, n1, rfl⟩
  go_wp2_with fail
  refine (KL.out _).mono ?_
  rintro e w2 ⟨rfl, n2, rfl⟩
  go_wp2_with fail
  refine (KB.out _).mono ?_
  rintro e w3 ⟨rfl, n3, rfl⟩
  go_wp2_with fail
  go_ret
  exact ⟨ret1 HV.out.symm, (Later.refl w).alloc _ _⟩

theorem rput_ft_low (h d p : Int) (w : World) (h1 : 2 ≤ h) (h2 : h ≤ 10000) (d0 : -4000000 ≤ d) (d1 : d ≤ 4000010)
    (kl : ∀ W, Calls Try.prog 67 #[.int .i64 h] W fun e w' => e = .returned (.bool false) ∧ ∃ n, w' = W.drewN n)
    (kb : ∀ W, Calls Try.prog 67 #[.int .i64 (h - 1)] W fun e w' => e = .returned (.bool true) ∧ ∃ n, w' = W.drewN n) (hp : p < 9924) (v2 : d % 7 = 2) (v1 : ¬ d % 7 = 1) :
    Calls Try.prog 70 #[.int .i64 h, .agg #[.int .i64 d, .int .i64 p]] w fun e w' => e = .returned (.int .i64 (p1 (d % 7) p false true)) ∧ Later w w' := by
  have HV := Lib.hid (show p1 (d % 7) p false true = 0 by unfold p1; rw [if_neg (by simp; omega)])
  have KL := Lib.hid kl
  have KB := Lib.hid kb
  have KW := Lib.hid (fun W => rweekday_any d W (by omega) (by omega))
  clear kl kb
  have t0 := eqb v2
  have t1 := neb v1
  clear v2 v1
  go_enter Try.func70, Try.ntmps70
  go_wp2_with fail
  refine (KW.out _).mono ?_
  rintro e w1 ⟨rfl, n1, rfl⟩
  go_wp2_with fail
  refine (KL.out _).mono ?_
  rintro e w2 ⟨rfl, n2, rfl⟩
  go_wp2_with fail
  refine (KB.out _).mono ?_
  rintro e w3 ⟨rfl, n3, rfl⟩
  go_wp2_with fail
  go_ret
  exact ⟨ret1 HV.out.symm, (Later.refl w).alloc _ _⟩

theorem rput_ff_not (h d p : Int) (w : World) (h1 : 2 ≤ h) (h2 : h ≤ 10000) (d0 : -4000000 ≤ d) (d1 : d ≤ 4000010)
    (kl : ∀ W, Calls Try.prog 67 #[.int .i64 h] W fun e w' => e = .returned (.bool false) ∧ ∃ n, w' = W.drewN n)
    (kb : ∀ W, Calls Try.prog 67 #[.int .i64 (h - 1)] W fun e w' => e = .returned (.bool false) ∧ ∃ n, w' = W.drewN n) (hp : p < 19440) (v2 : ¬ d % 7 = 2) :
    Calls Try.prog 70 #[.int .i64 h, .agg #[.int .i64 d, .int .i64 p]] w fun e w' => e = .returned (.int .i64 (p1 (d % 7) p false false)) ∧ Later w w' := by
  have HV := Lib.hid (show p1 (d % 7) p false false = 0 by unfold p1; rw [if_neg (by simp; omega)])
  have KL := Lib.hid kl
  have KB := Lib.hid kb
  have KW := Lib.hid (fun W => rweekday_any d W (by omega) (by omega))
  clear kl kb
  have t0 := neb v2
  clear v2
  go_enter Try.func70, Try.ntmps70
  go_wp2_with fail
  refine (KW.out _).mono ?_
  rintro e w1 ⟨rfl, n1, rfl⟩
  go_wp2_with fail
  refine (KL.out _).mono ?_
  rintro e w2 ⟨rfl, n2, rfl⟩
  go_wp2_with fail
  refine (KB.out _).mono ?_
  rintro e w3 ⟨rfl, n3, rfl⟩
  go_wp2_with fail
  go_ret
  exact ⟨ret1 HV.out.symm, (Later.refl w).alloc _ _⟩

theorem rput_ft_not (h d p : Int) (w : World) (h1 : 2 ≤ h) (h2 : h ≤ 10000) (d0 : -4000000 ≤ d) (d1 : d ≤ 4000010)
    (kl : ∀ W, Calls Try.prog 67 #[.int .i64 h] W fun e w' => e = .returned (.bool false) ∧ ∃ n, w' = W.drewN n)
    (kb : ∀ W, Calls Try.prog 67 #[.int .i64 (h - 1)] W fun e w' => e = .returned (.bool true) ∧ ∃ n, w' = W.drewN n) (hp : p < 19440) (v2 : ¬ d % 7 = 2) (v1 : ¬ d % 7 = 1) :
    Calls Try.prog 70 #[.int .i64 h, .agg #[.int .i64 d, .int .i64 p]] w fun e w' => e = .returned (.int .i64 (p1 (d % 7) p false true)) ∧ Later w w' := by
  have HV := Lib.hid (show p1 (d % 7) p false true = 0 by unfold p1; rw [if_neg (by simp; omega)])
  have KL := Lib.hid kl
  have KB := Lib.hid kb
  have KW := Lib.hid (fun W => rweekday_any d W (by omega) (by omega))
  clear kl kb
  have t0 := neb v2
  have t1 := neb v1
  clear v2 v1
  go_enter Try.func70, Try.ntmps70
  go_wp2_with fail
  refine (KW.out _).mono ?_
  rintro e w1 ⟨rfl, n1, rfl⟩
  go_wp2_with fail
  refine (KL.out _).mono ?_
  rintro e w2 ⟨rfl, n2, rfl⟩
  go_wp2_with fail
  refine (KB.out _).mono ?_
  rintro e w3 ⟨rfl, n3, rfl⟩
  go_wp2_with fail
  go_ret
  exact ⟨ret1 HV.out.symm, (Later.refl w).alloc _ _⟩

theorem rput_ft_l (h d p : Int) (w : World) (h1 : 2 ≤ h) (h2 : h ≤ 10000) (d0 : -4000000 ≤ d) (d1 : d ≤ 4000010)
    (kl : ∀ W, Calls Try.prog 67 #[.int .i64 h] W fun e w' => e = .returned (.bool false) ∧ ∃ n, w' = W.drewN n)
    (kb : ∀ W, Calls Try.prog 67 #[.int .i64 (h - 1)] W fun e w' => e = .returned (.bool true) ∧ ∃ n, w' = W.drewN n) (hp : p < 16789) (v2 : ¬ d % 7 = 2) (v1 : d % 7 = 1) :
    Calls Try.prog 70 #[.int .i64 h, .agg #[.int .i64 d, .int .i64 p]] w fun e w' => e = .returned (.int .i64 (p1 (d % 7) p false true)) ∧ Later w w' := by
  have HV := Lib.hid (show p1 (d % 7) p false true = 0 by unfold p1; rw [if_neg (by simp; omega)])
  have KL := Lib.hid kl
  have KB := Lib.hid kb
  have KW := Lib.hid (fun W => rweekday_any d W (by omega) (by omega))
  clear kl kb
  have t0 := neb v2
  have t1 := eqb v1
  clear v2 v1
  go_enter Try.func70, Try.ntmps70
  go_wp2_with fail
  refine (KW.out _).mono ?_
  rintro e w1 ⟨rfl, n1, rfl⟩
  go_wp2_with fail
  refine (KL.out _).mono ?_
  rintro e w2 ⟨rfl, n2, rfl⟩
  go_wp2_with fail
  refine (KB.out _).mono ?_
  rintro e w3 ⟨rfl, n3, rfl⟩
  go_wp2_with fail
  go_ret
  exact ⟨ret1 HV.out.symm, (Later.refl w).alloc _ _⟩

theorem rput_ft_h (h d p : Int) (w : World) (h1 : 2 ≤ h) (h2 : h ≤ 10000) (d0 : -4000000 ≤ d) (d1 : d ≤ 4000010)
    (kl : ∀ W, Calls Try.prog 67 #[.int .i64 h] W fun e w' => e = .returned (.bool false) ∧ ∃ n, w' = W.drewN n)
    (kb : ∀ W, Calls Try.prog 67 #[.int .i64 (h - 1)] W fun e w' => e = .returned (.bool true) ∧ ∃ n, w' = W.drewN n) (hp : p < 19440) (hq : 16789 ≤ p) (v2 : ¬ d % 7 = 2) (v1 : d % 7 = 1) :
    Calls Try.prog 70 #[.int .i64 h, .agg #[.int .i64 d, .int .i64 p]] w fun e w' => e = .returned (.int .i64 (p1 (d % 7) p false true)) ∧ Later w w' := by
  have HV := Lib.hid (show p1 (d % 7) p false true = 1 by unfold p1; rw [if_pos (by simp; omega)])
  have KL := Lib.hid kl
  have KB := Lib.hid kb
  have KW := Lib.hid (fun W => rweekday_any d W (by omega) (by omega))
  clear kl kb
  have t0 := neb v2
  have t1 := eqb v1
  clear v2 v1
  go_enter Try.func70, Try.ntmps70
  go_wp2_with fail
  refine (KW.out _).mono ?_
  rintro e w1 ⟨rfl, n1, rfl⟩
  go_wp2_with fail
  refine (KL.out _).mono ?_
  rintro e w2 ⟨rfl, n2, rfl⟩
  go_wp2_with fail
  refine (KB.out _).mono ?_
  rintro e w3 ⟨rfl, n3, rfl⟩
  go_wp2_with fail
  go_ret
  exact ⟨ret1 HV.out.symm, (Later.refl w).alloc _ _⟩

theorem rput_any (h d p : Int) (l b : Bool) (w : World) (h1 : 2 ≤ h) (h2 : h ≤ 10000) (d0 : -4000000 ≤ d) (d1 : d ≤ 4000010)
    (kl : ∀ W, Calls Try.prog 67 #[.int .i64 h] W fun e w' => e = .returned (.bool l) ∧ ∃ n, w' = W.drewN n)
    (kb : ∀ W, Calls Try.prog 67 #[.int .i64 (h - 1)] W fun e w' => e = .returned (.bool b) ∧ ∃ n, w' = W.drewN n) :
    Calls Try.prog 70 #[.int .i64 h, .agg #[.int .i64 d, .int .i64 p]] w fun e w' => e = .returned (.int .i64 (p1 (d % 7) p l b)) ∧ Later w w' := by
  by_cases hp : 19440 ≤ p
  · exact rput_late h d p l b w h1 h2 d0 d1 kl kb hp
  have hp : p < 19440 := by omega
  cases l with
  | true =>
    cases b with
    | false => exact rput_tf h d p w h1 h2 d0 d1 kl kb hp
    | true =>
      by_cases v1 : d % 7 = 1
      · by_cases hq : 16789 ≤ p
        · exact rput_tt_high h d p w h1 h2 d0 d1 kl kb hp hq v1
        · exact rput_tt_low h d p w h1 h2 d0 d1 kl kb (by omega) v1
      · exact rput_tt_not h d p w h1 h2 d0 d1 kl kb hp v1
  | false =>
    by_cases v2 : d % 7 = 2
    · by_cases hq : 9924 ≤ p
      · exact rput_f_high h d p b w h1 h2 d0 d1 kl kb hp hq v2
      · cases b with
        | false => exact rput_ff_low h d p w h1 h2 d0 d1 kl kb (by omega) v2
        | true => exact rput_ft_low h d p w h1 h2 d0 d1 kl kb (by omega) v2 (by omega)
    · cases b with
      | false => exact rput_ff_not h d p w h1 h2 d0 d1 kl kb hp v2
      | true =>
        by_cases v1 : d % 7 = 1
        · by_cases hq : 16789 ≤ p
          · exact rput_ft_h h d p w h1 h2 d0 d1 kl kb hp hq v2 v1
          · exact rput_ft_l h d p w h1 h2 d0 d1 kl kb (by omega) v2 v1
        · exact rput_ft_not h d p w h1 h2 d0 d1 kl kb hp v2 v1

end Go.Proofs.Ytdoahnkjkbpdaaa.Mol
