/-
  Texts of mine, merged: each part says what it holds. Conditions: as each theorem states.
-/
import Derived.Test.YtmlnlkfdbbnkbaaGreatDoorM18

/- What the document's own answers of layer 3 come to, call by call. Conditions: the numbers are ints; the years are from 2 to 10000, as each theorem says. -/
namespace Go.Proofs.YtmlnlkfdbbnkbaaGreatDoor.Mol
set_option maxRecDepth 100000
open Go.ChangeShapes Go.WideShapes Go.ChangeAt Go.RowKit
open Go.Proofs.YtmlnlkfdbbnkbaaGreatDoor.Divs Go.Proofs.YtmlnlkfdbbnkbaaGreatDoor.Grow
open Go.Proofs.YtmlnlkfdbbnkbaaGreatDoor.Year (lh mh pt md mp p1 p2 po dl ny yl)

theorem rleap_any (h : Int) (w : World) (h0 : -9223372036854775808 ≤ h) (h1 : h ≤ 9223372036854775807) :
    Calls Tryz.prog 124 #[.int .i64 h] w fun e w' => e = .returned (.bool (lh h)) ∧ ∃ n, w' = w.drewN n := by
  have hm0 := Int.emod_nonneg h (show (19 : Int) ≠ 0 by omega)
  have hm1 := Int.emod_lt_of_pos h (show (0 : Int) < 19 by omega)
  have K1 := Lib.hid (fun W => rmod_any h 19 W h0 h1 (by omega) (by omega))
  have K2 := Lib.hid (fun W => rmod_any (7 * (h % 19) + 1) 19 W (by omega) (by omega) (by omega) (by omega))
  go_enter Tryz.func124, Tryz.ntmps124
  go_wp2_with fail
  refine (K1.out _).mono ?_
  rintro e w1 ⟨rfl, n1, rfl⟩
  go_wp2_with fail
  refine (K2.out _).mono ?_
  rintro e w2 ⟨rfl, n2, rfl⟩
  go_wp2_with fail
  go_ret
  exact ⟨retb (lh_of h), _, rfl⟩

theorem may_yes (h : Int) (w : World) (h0 : 3762 ≤ h) (h1 : h ≤ 9999) :
    Calls Tryz.prog 123 #[.int .i64 h] w fun e w' => e = .returned (.bool true) ∧ w = w' := by
  go_enter Tryz.func123, Tryz.ntmps123
  go_wp2
  go_ret
  exact ⟨rfl, rfl⟩

theorem may_no (h : Int) (w : World) (hb : h < 3762 ∨ 9999 < h) :
    Calls Tryz.prog 123 #[.int .i64 h] w fun e w' => e = .returned (.bool false) ∧ w = w' := by
  by_cases h1 : 3762 ≤ h
  · have h2 : 9999 < h := by omega
    clear hb
    go_enter Tryz.func123, Tryz.ntmps123
    go_wp2
    go_ret
    exact ⟨retb (by simpa using h2), rfl⟩
  · clear hb
    go_enter Tryz.func123, Tryz.ntmps123
    go_wp2
    go_ret
    exact ⟨rfl, rfl⟩

def MRel (h : Int) (n i : Value) : Prop := ∃ k : Int, 1 ≤ k ∧ k ≤ h ∧ i = .int .i64 k ∧ n = .int .i64 (mh k)

set_option maxHeartbeats 1000000 in
theorem rmonths_any (h : Int) (w : World) (h1 : 2 ≤ h) (h2 : h ≤ 10000) :
    Calls Tryz.prog 136 #[.int .i64 h] w fun e w' => e = .returned (.int .i64 (mh h)) ∧ ∃ n, w' = w.drewN n := by
  have hr : 0 ≤ (h - 1) / 19 ∧ (h - 1) / 19 ≤ 600 := by omega
  have hk : 19 * ((h - 1) / 19) + 1 ≤ h := by omega
  have HM := Lib.hid (Year.mh_row ((h - 1) / 19))
  go_enter Tryz.func136, Tryz.ntmps136
  go_wp2
  go_loopw [4, 5] (fun n i wr => MRel h n i ∧ ∃ n, wr = w.drewN n) (fun _ i _ => (10000 - intOf i).toNat)
  case atStart => exact ⟨⟨_, by omega, hk, rfl, by rw [HM.out]⟩, 0, rfl⟩
  case round =>
    obtain ⟨⟨k, k1, k2, rfl, rfl⟩, n, rfl⟩ := hrel
    have hb := Year.mh_bd k k1 (by omega)
    by_cases hlt : k < h
    · cases hl : lh k with
      | true =>
        have HS := Lib.hid (Year.mh_leap k hl)
        have K := fun W => rleap_any k W (by omega) (by omega)
        rw [hl] at K
        have K := Lib.hid K
        clear hl
        go_wp2_with (go_at_call 124; refine (K.out _).mono ?_; rintro e w' ⟨rfl, n, rfl⟩)
        go_round
        case rel => exact ⟨⟨k + 1, by omega, by omega, rfl, by rw [HS.out, Int.add_assoc]; rfl⟩, _, rfl⟩
        case measure => simp [intOf]; omega
      | false =>
        have HS := Lib.hid (Year.mh_common k hl)
        have K := fun W => rleap_any k W (by omega) (by omega)
        rw [hl] at K
        have K := Lib.hid K
        clear hl
        go_wp2_with (go_at_call 124; refine (K.out _).mono ?_; rintro e w' ⟨rfl, n, rfl⟩)
        go_round
        case rel => exact ⟨⟨k + 1, by omega, by omega, rfl, by rw [HS.out]⟩, _, rfl⟩
        case measure => simp [intOf]; omega
    · obtain rfl : k = h := by omega
      go_wp2_with fail
      go_ret
      exact ⟨rfl, _, rfl⟩

theorem rmolad_any (h : Int) (w : World) (h1 : 2 ≤ h) (h2 : h ≤ 10000) :
    Calls Tryz.prog 121 #[.int .i64 h] w fun e w' => e = .returned (.agg #[.int .i64 (md h), .int .i64 (mp h)]) ∧ Later w w' := by
  have hb := Year.mh_bd h (by omega) h2
  have hp := Year.pt_bd h (by omega) h2
  have h0 : 0 ≤ 5604 + 765433 * mh h := by omega
  have hq : (5604 + 765433 * mh h) / 25920 ≤ 4000000 ∧ 0 ≤ (5604 + 765433 * mh h) / 25920 := by omega
  have K := Lib.hid (fun W => rmonths_any h W h1 h2)
  have e1 : md h = -1373427 + (5604 + 765433 * mh h) / 25920 := by unfold md pt; rw [Int.mul_comm]
  have e2 : mp h = (5604 + 765433 * mh h) % 25920 := by unfold mp pt; rw [Int.mul_comm]
  have E1 := Lib.hid e1
  have E2 := Lib.hid e2
  clear e1 e2
  go_enter Tryz.func121, Tryz.ntmps121
  go_wp2_with fail
  refine (K.out _).mono ?_
  rintro e w1 ⟨rfl, n, rfl⟩
  go_wp2_with fail
  refine bodyPost_ret (v := .agg #[.int .i64 (-1373427 + (5604 + 765433 * mh h) / 25920), .int .i64 ((5604 + 765433 * mh h) % 25920)]) (by simp [results, Tryz.results121, go_sem]) rfl ⟨?_, ?_⟩
  · rw [E1.out, E2.out]
  · exact ((gtrans ((Later.refl w).alloc _ _) (later_drewN _ _)).setCell (Nat.le_refl _) _).setCell (Nat.le_refl _) _

theorem rweekday_any (n : Int) (w : World) (h0 : -9223372036854775808 ≤ n) (h1 : n ≤ 9223372036854775807) :
    Calls Tryz.prog 51 #[.int .i64 n] w fun e w' => e = .returned (.int .i64 (n % 7)) ∧ ∃ k, w' = w.drewN k := by
  have K1 := Lib.hid (fun W => rmod_any n 7 W h0 h1 (by omega) (by omega))
  go_enter Tryz.func51, Tryz.ntmps51
  go_wp2_with fail
  refine (K1.out _).mono ?_
  rintro e w1 ⟨rfl, n1, rfl⟩
  go_wp2_with fail
  go_ret
  exact ⟨rfl, _, rfl⟩

theorem eqb {x y : Int} (h : x = y) : (x == y) = true := beq_iff_eq.2 h
theorem neb {x y : Int} (h : ¬ x = y) : (x == y) = false := beq_eq_false_iff_ne.2 h

theorem rput_late (h d p : Int) (l : Bool) (b : Bool) (w : World) (h1 : 2 ≤ h) (h2 : h ≤ 10000) (d0 : -4000000 ≤ d) (d1 : d ≤ 4000010)
    (kl : ∀ W, Calls Tryz.prog 124 #[.int .i64 h] W fun e w' => e = .returned (.bool l) ∧ ∃ n, w' = W.drewN n)
    (kb : ∀ W, Calls Tryz.prog 124 #[.int .i64 (h - 1)] W fun e w' => e = .returned (.bool b) ∧ ∃ n, w' = W.drewN n) (hp : 19440 ≤ p) :
    Calls Tryz.prog 137 #[.int .i64 h, .agg #[.int .i64 d, .int .i64 p]] w fun e w' => e = .returned (.int .i64 (p1 (d % 7) p l b)) ∧ Later w w' := by
  have HV := Lib.hid (show p1 (d % 7) p l b = 1 by unfold p1; rw [if_pos (Or.inl hp)])
  have KL := Lib.hid kl
  have KB := Lib.hid kb
  have KW := Lib.hid (fun W => rweekday_any d W (by omega) (by omega))
  clear kl kb
  go_enter Tryz.func137, Tryz.ntmps137
  go_wp2_with fail
  refine (KW.out _).mono ?_
  rintro e w1 ⟨rfl, n1, rfl⟩
  go_wp2_with fail
  refine (KL.out _).mono ?_
  rintro e w2 ⟨rfl, n2, rfl⟩
  go_wp2_with fail
  refine (KB.out _).mono ?_
  rintro e w3 ⟨rfl, n3, rfl⟩
  go_wp2_with fail
  go_ret
  exact ⟨ret1 HV.out.symm, (Later.refl w).alloc _ _⟩

theorem rput_tf (h d p : Int) (w : World) (h1 : 2 ≤ h) (h2 : h ≤ 10000) (d0 : -4000000 ≤ d) (d1 : d ≤ 4000010)
    (kl : ∀ W, Calls Tryz.prog 124 #[.int .i64 h] W fun e w' => e = .returned (.bool true) ∧ ∃ n, w' = W.drewN n)
    (kb : ∀ W, Calls Tryz.prog 124 #[.int .i64 (h - 1)] W fun e w' => e = .returned (.bool false) ∧ ∃ n, w' = W.drewN n) (hp : p < 19440) :
    Calls Tryz.prog 137 #[.int .i64 h, .agg #[.int .i64 d, .int .i64 p]] w fun e w' => e = .returned (.int .i64 (p1 (d % 7) p true false)) ∧ Later w w' := by
  have HV := Lib.hid (show p1 (d % 7) p true false = 0 by unfold p1; rw [if_neg (by simp; omega)])
  have KL := Lib.hid kl
  have KB := Lib.hid kb
  have KW := Lib.hid (fun W => rweekday_any d W (by omega) (by omega))
  clear kl kb
  go_enter Tryz.func137, Tryz.ntmps137
  go_wp2_with fail
  refine (KW.out _).mono ?_
  rintro e w1 ⟨rfl, n1, rfl⟩
  go_wp2_with fail
  refine (KL.out _).mono ?_
  rintro e w2 ⟨rfl, n2, rfl⟩
  go_wp2_with fail
  refine (KB.out _).mono ?_
  rintro e w3 ⟨rfl, n3, rfl⟩
  go_wp2_with fail
  go_ret
  exact ⟨ret1 HV.out.symm, (Later.refl w).alloc _ _⟩

theorem rput_tt_not (h d p : Int) (w : World) (h1 : 2 ≤ h) (h2 : h ≤ 10000) (d0 : -4000000 ≤ d) (d1 : d ≤ 4000010)
    (kl : ∀ W, Calls Tryz.prog 124 #[.int .i64 h] W fun e w' => e = .returned (.bool true) ∧ ∃ n, w' = W.drewN n)
    (kb : ∀ W, Calls Tryz.prog 124 #[.int .i64 (h - 1)] W fun e w' => e = .returned (.bool true) ∧ ∃ n, w' = W.drewN n) (hp : p < 19440) (v1 : ¬ d % 7 = 1) :
    Calls Tryz.prog 137 #[.int .i64 h, .agg #[.int .i64 d, .int .i64 p]] w fun e w' => e = .returned (.int .i64 (p1 (d % 7) p true true)) ∧ Later w w' := by
  have HV := Lib.hid (show p1 (d % 7) p true true = 0 by unfold p1; rw [if_neg (by simp; omega)])
  have KL := Lib.hid kl
  have KB := Lib.hid kb
  have KW := Lib.hid (fun W => rweekday_any d W (by omega) (by omega))
  clear kl kb
  have t0 := neb v1
  clear v1
  go_enter Tryz.func137, Tryz.ntmps137
  go_wp2_with fail
  refine (KW.out _).mono ?_
  rintro e w1 ⟨rfl, n1, rfl⟩
  go_wp2_with fail
  refine (KL.out _).mono ?_
  rintro e w2 ⟨rfl, n2, rfl⟩
  go_wp2_with fail
  refine (KB.out _).mono ?_
  rintro e w3 ⟨rfl, n3, rfl⟩
  go_wp2_with fail
  go_ret
  exact ⟨ret1 HV.out.symm, (Later.refl w).alloc _ _⟩

theorem rput_tt_low (h d p : Int) (w : World) (h1 : 2 ≤ h) (h2 : h ≤ 10000) (d0 : -4000000 ≤ d) (d1 : d ≤ 4000010)
    (kl : ∀ W, Calls Tryz.prog 124 #[.int .i64 h] W fun e w' => e = .returned (.bool true) ∧ ∃ n, w' = W.drewN n)
    (kb : ∀ W, Calls Tryz.prog 124 #[.int .i64 (h - 1)] W fun e w' => e = .returned (.bool true) ∧ ∃ n, w' = W.drewN n) (hp : p < 16789) (v1 : d % 7 = 1) :
    Calls Tryz.prog 137 #[.int .i64 h, .agg #[.int .i64 d, .int .i64 p]] w fun e w' => e = .returned (.int .i64 (p1 (d % 7) p true true)) ∧ Later w w' := by
  have HV := Lib.hid (show p1 (d % 7) p true true = 0 by unfold p1; rw [if_neg (by simp; omega)])
  have KL := Lib.hid kl
  have KB := Lib.hid kb
  have KW := Lib.hid (fun W => rweekday_any d W (by omega) (by omega))
  clear kl kb
  have t0 := eqb v1
  clear v1
  go_enter Tryz.func137, Tryz.ntmps137
  go_wp2_with fail
  refine (KW.out _).mono ?_
  rintro e w1 ⟨rfl, n1, rfl⟩
  go_wp2_with fail
  refine (KL.out _).mono ?_
  rintro e w2 ⟨rfl, n2, rfl⟩
  go_wp2_with fail
  refine (KB.out _).mono ?_
  rintro e w3 ⟨rfl, n3, rfl⟩
  go_wp2_with fail
  go_ret
  exact ⟨ret1 HV.out.symm, (Later.refl w).alloc _ _⟩

theorem rput_tt_high (h d p : Int) (w : World) (h1 : 2 ≤ h) (h2 : h ≤ 10000) (d0 : -4000000 ≤ d) (d1 : d ≤ 4000010)
    (kl : ∀ W, Calls Tryz.prog 124 #[.int .i64 h] W fun e w' => e = .returned (.bool true) ∧ ∃ n, w' = W.drewN n)
    (kb : ∀ W, Calls Tryz.prog 124 #[.int .i64 (h - 1)] W fun e w' => e = .returned (.bool true) ∧ ∃ n, w' = W.drewN n) (hp : p < 19440) (hq : 16789 ≤ p) (v1 : d % 7 = 1) :
    Calls Tryz.prog 137 #[.int .i64 h, .agg #[.int .i64 d, .int .i64 p]] w fun e w' => e = .returned (.int .i64 (p1 (d % 7) p true true)) ∧ Later w w' := by
  have HV := Lib.hid (show p1 (d % 7) p true true = 1 by unfold p1; rw [if_pos (by simp; omega)])
  have KL := Lib.hid kl
  have KB := Lib.hid kb
  have KW := Lib.hid (fun W => rweekday_any d W (by omega) (by omega))
  clear kl kb
  have t0 := eqb v1
  clear v1
  go_enter Tryz.func137, Tryz.ntmps137
  go_wp2_with fail
  refine (KW.out _).mono ?_
  rintro e w1 ⟨rfl, n1, rfl⟩
  go_wp2_with fail
  refine (KL.out _).mono ?_
  rintro e w2 ⟨rfl, n2, rfl⟩
  go_wp2_with fail
  refine (KB.out _).mono ?_
  rintro e w3 ⟨rfl, n3, rfl⟩
  go_wp2_with fail
  go_ret
  exact ⟨ret1 HV.out.symm, (Later.refl w).alloc _ _⟩

theorem rput_f_high (h d p : Int) (b : Bool) (w : World) (h1 : 2 ≤ h) (h2 : h ≤ 10000) (d0 : -4000000 ≤ d) (d1 : d ≤ 4000010)
    (kl : ∀ W, Calls Tryz.prog 124 #[.int .i64 h] W fun e w' => e = .returned (.bool false) ∧ ∃ n, w' = W.drewN n)
    (kb : ∀ W, Calls Tryz.prog 124 #[.int .i64 (h - 1)] W fun e w' => e = .returned (.bool b) ∧ ∃ n, w' = W.drewN n) (hp : p < 19440) (hq : 9924 ≤ p) (v2 : d % 7 = 2) :
    Calls Tryz.prog 137 #[.int .i64 h, .agg #[.int .i64 d, .int .i64 p]] w fun e w' => e = .returned (.int .i64 (p1 (d % 7) p false b)) ∧ Later w w' := by
  have HV := Lib.hid (show p1 (d % 7) p false b = 1 by unfold p1; rw [if_pos (by simp; omega)])
  have KL := Lib.hid kl
  have KB := Lib.hid kb
  have KW := Lib.hid (fun W => rweekday_any d W (by omega) (by omega))
  clear kl kb
  have t0 := eqb v2
  clear v2
  go_enter Tryz.func137, Tryz.ntmps137
  go_wp2_with fail
  refine (KW.out _).mono ?_
  rintro e w1 ⟨rfl, n1, rfl⟩
  go_wp2_with fail
  refine (KL.out _).mono ?_
  rintro e w2 ⟨rfl, n2, rfl⟩
  go_wp2_with fail
  refine (KB.out _).mono ?_
  rintro e w3 ⟨rfl, n3, rfl⟩
  go_wp2_with fail
  go_ret
  exact ⟨ret1 HV.out.symm, (Later.refl w).alloc _ _⟩

theorem rput_ff_low (h d p : Int) (w : World) (h1 : 2 ≤ h) (h2 : h ≤ 10000) (d0 : -4000000 ≤ d) (d1 : d ≤ 4000010)
    (kl : ∀ W, Calls Tryz.prog 124 #[.int .i64 h] W fun e w' => e = .returned (.bool false) ∧ ∃ n, w' = W.drewN n)
    (kb : ∀ W, Calls Tryz.prog 124 #[.int .i64 (h - 1)] W fun e w' => e = .returned (.bool false) ∧ ∃ n, w' = W.drewN n) (hp : p < 9924) (v2 : d % 7 = 2) :
    Calls Tryz.prog 137 #[.int .i64 h, .agg #[.int .i64 d, .int .i64 p]] w fun e w' => e = .returned (.int .i64 (p1 (d % 7) p false false)) ∧ Later w w' := by
  have HV := Lib.hid (show p1 (d % 7) p false false = 0 by unfold p1; rw [if_neg (by simp; omega)])
  have KL := Lib.hid kl
  have KB := Lib.hid kb
  have KW := Lib.hid (fun W => rweekday_any d W (by omega) (by omega))
  clear kl kb
  have t0 := eqb v2
  clear v2
  go_enter Tryz.func137, Tryz.ntmps137
  go_wp2_with fail
  refine (KW.out _).mono ?_
  rintro e w1 ⟨rfl, n1, rfl⟩
  go_wp2_with fail
  refine (KL.out _).mono ?_
  rintro e w2 ⟨rfl, n2, rfl⟩
  go_wp2_with fail
  refine (KB.out _).mono ?_
  rintro e w3 ⟨rfl, n3, rfl⟩
  go_wp2_with fail
  go_ret
  exact ⟨ret1 HV.out.symm, (Later.refl w).alloc _ _⟩

theorem rput_ft_low (h d p : Int) (w : World) (h1 : 2 ≤ h) (h2 : h ≤ 10000) (d0 : -4000000 ≤ d) (d1 : d ≤ 4000010)
    (kl : ∀ W, Calls Tryz.prog 124 #[.int .i64 h] W fun e w' => e = .returned (.bool false) ∧ ∃ n, w' = W.drewN n)
    (kb : ∀ W, Calls Tryz.prog 124 #[.int .i64 (h - 1)] W fun e w' => e = .returned (.bool true) ∧ ∃ n, w' = W.drewN n) (hp : p < 9924) (v2 : d % 7 = 2) (v1 : ¬ d % 7 = 1) :
    Calls Tryz.prog 137 #[.int .i64 h, .agg #[.int .i64 d, .int .i64 p]] w fun e w' => e = .returned (.int .i64 (p1 (d % 7) p false true)) ∧ Later w w' := by
  have HV := Lib.hid (show p1 (d % 7) p false true = 0 by unfold p1; rw [if_neg (by simp; omega)])
  have KL := Lib.hid kl
  have KB := Lib.hid kb
  have KW := Lib.hid (fun W => rweekday_any d W (by omega) (by omega))
  clear kl kb
  have t0 := eqb v2
  have t1 := neb v1
  clear v2 v1
  go_enter Tryz.func137, Tryz.ntmps137
  go_wp2_with fail
  refine (KW.out _).mono ?_
  rintro e w1 ⟨rfl, n1, rfl⟩
  go_wp2_with fail
  refine (KL.out _).mono ?_
  rintro e w2 ⟨rfl, n2, rfl⟩
  go_wp2_with fail
  refine (KB.out _).mono ?_
  rintro e w3 ⟨rfl, n3, rfl⟩
  go_wp2_with fail
  go_ret
  exact ⟨ret1 HV.out.symm, (Later.refl w).alloc _ _⟩

theorem rput_ff_not (h d p : Int) (w : World) (h1 : 2 ≤ h) (h2 : h ≤ 10000) (d0 : -4000000 ≤ d) (d1 : d ≤ 4000010)
    (kl : ∀ W, Calls Tryz.prog 124 #[.int .i64 h] W fun e w' => e = .returned (.bool false) ∧ ∃ n, w' = W.drewN n)
    (kb : ∀ W, Calls Tryz.prog 124 #[.int .i64 (h - 1)] W fun e w' => e = .returned (.bool false) ∧ ∃ n, w' = W.drewN n) (hp : p < 19440) (v2 : ¬ d % 7 = 2) :
    Calls Tryz.prog 137 #[.int .i64 h, .agg #[.int .i64 d, .int .i64 p]] w fun e w' => e = .returned (.int .i64 (p1 (d % 7) p false false)) ∧ Later w w' := by
  have HV := Lib.hid (show p1 (d % 7) p false false = 0 by unfold p1; rw [if_neg (by simp; omega)])
  have KL := Lib.hid kl
  have KB := Lib.hid kb
  have KW := Lib.hid (fun W => rweekday_any d W (by omega) (by omega))
  clear kl kb
  have t0 := neb v2
  clear v2
  go_enter Tryz.func137, Tryz.ntmps137
  go_wp2_with fail
  refine (KW.out _).mono ?_
  rintro e w1 ⟨rfl, n1, rfl⟩
  go_wp2_with fail
  refine (KL.out _).mono ?_
  rintro e w2 ⟨rfl, n2, rfl⟩
  go_wp2_with fail
  refine (KB.out _).mono ?_
  rintro e w3 ⟨rfl, n3, rfl⟩
  go_wp2_with fail
  go_ret
  exact ⟨ret1 HV.out.symm, (Later.refl w).alloc _ _⟩

theorem rput_ft_not (h d p : Int) (w : World) (h1 : 2 ≤ h) (h2 : h ≤ 10000) (d0 : -4000000 ≤ d) (d1 : d ≤ 4000010)
    (kl : ∀ W, Calls Tryz.prog 124 #[.int .i64 h] W fun e w' => e = .returned (.bool false) ∧ ∃ n, w' = W.drewN n)
    (kb : ∀ W, Calls Tryz.prog 124 #[.int .i64 (h - 1)] W fun e w' => e = .returned (.bool true) ∧ ∃ n, w' = W.drewN n) (hp : p < 19440) (v2 : ¬ d % 7 = 2) (v1 : ¬ d % 7 = 1) :
    Calls Tryz.prog 137 #[.int .i64 h, .agg #[.int .i64 d, .int .i64 p]] w fun e w' => e = .returned (.int .i64 (p1 (d % 7) p false true)) ∧ Later w w' := by
  have HV := Lib.hid (show p1 (d % 7) p false true = 0 by unfold p1; rw [if_neg (by simp; omega)])
  have KL := Lib.hid kl
  have KB := Lib.hid kb
  have KW := Lib.hid (fun W => rweekday_any d W (by omega) (by omega))
  clear kl kb
  have t0 := neb v2
  have t1 := neb v1
  clear v2 v1
  go_enter Tryz.func137, Tryz.ntmps137
  go_wp2_with fail
  refine (KW.out _).mono ?_
  rintro e w1 ⟨rfl, n1, rfl⟩
  go_wp2_with fail
  refine (KL.out _).mono ?_
  rintro e w2 ⟨rfl, n2, rfl⟩
  go_wp2_with fail
  refine (KB.out _).mono ?_
  rintro e w3 ⟨rfl, n3, rfl⟩
  go_wp2_with fail
  go_ret
  exact ⟨ret1 HV.out.symm, (Later.refl w).alloc _ _⟩

theorem rput_ft_l (h d p : Int) (w : World) (h1 : 2 ≤ h) (h2 : h ≤ 10000) (d0 : -4000000 ≤ d) (d1 : d ≤ 4000010)
    (kl : ∀ W, Calls Tryz.prog 124 #[.int .i64 h] W fun e w' => e = .returned (.bool false) ∧ ∃ n, w' = W.drewN n)
    (kb : ∀ W, Calls Tryz.prog 124 #[.int .i64 (h - 1)] W fun e w' => e = .returned (.bool true) ∧ ∃ n, w' = W.drewN n) (hp : p < 16789) (v2 : ¬ d % 7 = 2) (v1 : d % 7 = 1) :
    Calls Tryz.prog 137 #[.int .i64 h, .agg #[.int .i64 d, .int .i64 p]] w fun e w' => e = .returned (.int .i64 (p1 (d % 7) p false true)) ∧ Later w w' := by
  have HV := Lib.hid (show p1 (d % 7) p false true = 0 by unfold p1; rw [if_neg (by simp; omega)])
  have KL := Lib.hid kl
  have KB := Lib.hid kb
  have KW := Lib.hid (fun W => rweekday_any d W (by omega) (by omega))
  clear kl kb
  have t0 := neb v2
  have t1 := eqb v1
  clear v2 v1
  go_enter Tryz.func137, Tryz.ntmps137
  go_wp2_with fail
  refine (KW.out _).mono ?_
  rintro e w1 ⟨rfl, n1, rfl⟩
  go_wp2_with fail
  refine (KL.out _).mono ?_
  rintro e w2 ⟨rfl, n2, rfl⟩
  go_wp2_with fail
  refine (KB.out _).mono ?_
  rintro e w3 ⟨rfl, n3, rfl⟩
  go_wp2_with fail
  go_ret
  exact ⟨ret1 HV.out.symm, (Later.refl w).alloc _ _⟩

theorem rput_ft_h (h d p : Int) (w : World) (h1 : 2 ≤ h) (h2 : h ≤ 10000) (d0 : -4000000 ≤ d) (d1 : d ≤ 4000010)
    (kl : ∀ W, Calls Tryz.prog 124 #[.int .i64 h] W fun e w' => e = .returned (.bool false) ∧ ∃ n, w' = W.drewN n)
    (kb : ∀ W, Calls Tryz.prog 124 #[.int .i64 (h - 1)] W fun e w' => e = .returned (.bool true) ∧ ∃ n, w' = W.drewN n) (hp : p < 19440) (hq : 16789 ≤ p) (v2 : ¬ d % 7 = 2) (v1 : d % 7 = 1) :
    Calls Tryz.prog 137 #[.int .i64 h, .agg #[.int .i64 d, .int .i64 p]] w fun e w' => e = .returned (.int .i64 (p1 (d % 7) p false true)) ∧ Later w w' := by
  have HV := Lib.hid (show p1 (d % 7) p false true = 1 by unfold p1; rw [if_pos (by simp; omega)])
  have KL := Lib.hid kl
  have KB := Lib.hid kb
  have KW := Lib.hid (fun W => rweekday_any d W (by omega) (by omega))
  clear kl kb
  have t0 := neb v2
  have t1 := eqb v1
  clear v2 v1
  go_enter Tryz.func137, Tryz.ntmps137
  go_wp2_with fail
  refine (KW.out _).mono ?_
  rintro e w1 ⟨rfl, n1, rfl⟩
  go_wp2_with fail
  refine (KL.out _).mono ?_
  rintro e w2 ⟨rfl, n2, rfl⟩
  go_wp2_with fail
  refine (KB.out _).mono ?_
  rintro e w3 ⟨rfl, n3, rfl⟩
  go_wp2_with fail
  go_ret
  exact ⟨ret1 HV.out.symm, (Later.refl w).alloc _ _⟩

theorem rput_any (h d p : Int) (l b : Bool) (w : World) (h1 : 2 ≤ h) (h2 : h ≤ 10000) (d0 : -4000000 ≤ d) (d1 : d ≤ 4000010)
    (kl : ∀ W, Calls Tryz.prog 124 #[.int .i64 h] W fun e w' => e = .returned (.bool l) ∧ ∃ n, w' = W.drewN n)
    (kb : ∀ W, Calls Tryz.prog 124 #[.int .i64 (h - 1)] W fun e w' => e = .returned (.bool b) ∧ ∃ n, w' = W.drewN n) :
    Calls Tryz.prog 137 #[.int .i64 h, .agg #[.int .i64 d, .int .i64 p]] w fun e w' => e = .returned (.int .i64 (p1 (d % 7) p l b)) ∧ Later w w' := by
  by_cases hp : 19440 ≤ p
  · exact rput_late h d p l b w h1 h2 d0 d1 kl kb hp
  have hp : p < 19440 := by omega
  cases l with
  | true =>
    cases b with
    | false => exact rput_tf h d p w h1 h2 d0 d1 kl kb hp
    | true =>
      by_cases v1 : d % 7 = 1
      · by_cases hq : 16789 ≤ p
        · exact rput_tt_high h d p w h1 h2 d0 d1 kl kb hp hq v1
        · exact rput_tt_low h d p w h1 h2 d0 d1 kl kb (by omega) v1
      · exact rput_tt_not h d p w h1 h2 d0 d1 kl kb hp v1
  | false =>
    by_cases v2 : d % 7 = 2
    · by_cases hq : 9924 ≤ p
      · exact rput_f_high h d p b w h1 h2 d0 d1 kl kb hp hq v2
      · cases b with
        | false => exact rput_ff_low h d p w h1 h2 d0 d1 kl kb (by omega) v2
        | true => exact rput_ft_low h d p w h1 h2 d0 d1 kl kb (by omega) v2 (by omega)
    · cases b with
      | false => exact rput_ff_not h d p w h1 h2 d0 d1 kl kb hp v2
      | true =>
        by_cases v1 : d % 7 = 1
        · by_cases hq : 16789 ≤ p
          · exact rput_ft_h h d p w h1 h2 d0 d1 kl kb hp hq v2 v1
          · exact rput_ft_l h d p w h1 h2 d0 d1 kl kb (by omega) v2 v1
        · exact rput_ft_not h d p w h1 h2 d0 d1 kl kb hp v2 v1

end Go.Proofs.YtmlnlkfdbbnkbaaGreatDoor.Mol

/- What the document's own delays, first days and lengths of years come to. Conditions: the years are from 2 to 10000, as each theorem says. -/
namespace Go.Proofs.YtmlnlkfdbbnkbaaGreatDoor.Mol
set_option maxRecDepth 100000
open Go.ChangeShapes Go.WideShapes Go.ChangeAt Go.RowKit
open Go.Proofs.YtmlnlkfdbbnkbaaGreatDoor.Divs Go.Proofs.YtmlnlkfdbbnkbaaGreatDoor.Grow
open Go.Proofs.YtmlnlkfdbbnkbaaGreatDoor.Year (lh mh pt md mp p1 p2 po dl ny yl)

theorem p2_shift (a x : Int) : p2 (a % 7 + x) = p2 (a + x) := by
  unfold p2
  rw [show (a % 7 + x) % 7 = (a + x) % 7 by omega]

theorem rdelay_any (h : Int) (w : World) (h1 : 2 ≤ h) (h2 : h ≤ 10000) :
    Calls Tryz.prog 122 #[.int .i64 h] w fun e w' => e = .returned (.int .i64 (dl h)) ∧ Later w w' := by
  have hb := Year.md_bd h (by omega) h2
  have hx := Year.p1_bd (md h % 7) (mp h) (lh h) (lh (h - 1))
  have KM := Lib.hid (fun W => rmolad_any h W h1 h2)
  have kp := fun W => rput_any h (md h) (mp h) (lh h) (lh (h - 1)) W h1 h2 (by omega) (by omega) (fun W => rleap_any h W (by omega) (by omega)) (fun W => rleap_any (h - 1) W (by omega) (by omega))
  have hv : dl h = p1 (md h % 7) (mp h) (lh h) (lh (h - 1)) + p2 (md h + p1 (md h % 7) (mp h) (lh h) (lh (h - 1))) := by
    rw [← p2_shift]
    rfl
  generalize p1 (md h % 7) (mp h) (lh h) (lh (h - 1)) = x at *
  have KP := Lib.hid kp
  have KW := Lib.hid (fun W => rweekday_any (md h + x) W (by omega) (by omega))
  clear kp
  rcases four ((md h + x) % 7) with t1 | ⟨t1, t2⟩ | ⟨t1, t2, t3⟩ | ⟨t1, t2, t3⟩
  · rw [p2_yes _ (Or.inl t1)] at hv
    have HV := Lib.hid hv
    clear hv
    go_enter Tryz.func122, Tryz.ntmps122
    go_wp2_with fail
    refine (KM.out _).mono ?_
    rintro e w1 ⟨rfl, hg1⟩
    go_wp2_with fail
    refine (KP.out _).mono ?_
    rintro e w2 ⟨rfl, hg2⟩
    have c0 : w2.cell? ⟨w1.heap.size, 0, none⟩ = some (.int .i64 (md h)) := gsome hg2 (by simp)
    go_wp2_with fail
    refine (KW.out _).mono ?_
    rintro e w3 ⟨rfl, n3, rfl⟩
    go_wp2_with fail
    go_ret
    exact ⟨ret1 (by rw [HV.out]), gtrans (hg1.alloc _ _) hg2⟩
  · rw [p2_yes _ (Or.inr (Or.inl t2))] at hv
    have HV := Lib.hid hv
    clear hv
    go_enter Tryz.func122, Tryz.ntmps122
    go_wp2_with fail
    refine (KM.out _).mono ?_
    rintro e w1 ⟨rfl, hg1⟩
    go_wp2_with fail
    refine (KP.out _).mono ?_
    rintro e w2 ⟨rfl, hg2⟩
    have c0 : w2.cell? ⟨w1.heap.size, 0, none⟩ = some (.int .i64 (md h)) := gsome hg2 (by simp)
    go_wp2_with fail
    refine (KW.out _).mono ?_
    rintro e w3 ⟨rfl, n3, rfl⟩
    go_wp2_with fail
    go_ret
    exact ⟨ret1 (by rw [HV.out]), gtrans (hg1.alloc _ _) hg2⟩
  · rw [p2_yes _ (Or.inr (Or.inr t3))] at hv
    have HV := Lib.hid hv
    clear hv
    go_enter Tryz.func122, Tryz.ntmps122
    go_wp2_with fail
    refine (KM.out _).mono ?_
    rintro e w1 ⟨rfl, hg1⟩
    go_wp2_with fail
    refine (KP.out _).mono ?_
    rintro e w2 ⟨rfl, hg2⟩
    have c0 : w2.cell? ⟨w1.heap.size, 0, none⟩ = some (.int .i64 (md h)) := gsome hg2 (by simp)
    go_wp2_with fail
    refine (KW.out _).mono ?_
    rintro e w3 ⟨rfl, n3, rfl⟩
    go_wp2_with fail
    go_ret
    exact ⟨ret1 (by rw [HV.out]), gtrans (hg1.alloc _ _) hg2⟩
  · rw [p2_no _ ⟨t1, t2, t3⟩] at hv
    have HV := Lib.hid hv
    clear hv
    go_enter Tryz.func122, Tryz.ntmps122
    go_wp2_with fail
    refine (KM.out _).mono ?_
    rintro e w1 ⟨rfl, hg1⟩
    go_wp2_with fail
    refine (KP.out _).mono ?_
    rintro e w2 ⟨rfl, hg2⟩
    have c0 : w2.cell? ⟨w1.heap.size, 0, none⟩ = some (.int .i64 (md h)) := gsome hg2 (by simp)
    go_wp2_with fail
    refine (KW.out _).mono ?_
    rintro e w3 ⟨rfl, n3, rfl⟩
    go_wp2_with fail
    go_ret
    exact ⟨ret1 (by rw [HV.out]; simp), gtrans (hg1.alloc _ _) hg2⟩

theorem rnewyear_any (h : Int) (w : World) (h1 : 2 ≤ h) (h2 : h ≤ 10000) :
    Calls Tryz.prog 101 #[.int .i64 h] w fun e w' => e = .returned (.int .i64 (ny h)) ∧ Later w w' := by
  have hb := Year.md_bd h (by omega) h2
  have hd := Year.dl_bd h
  have KM := Lib.hid (fun W => rmolad_any h W h1 h2)
  have KD := Lib.hid (fun W => rdelay_any h W h1 h2)
  go_enter Tryz.func101, Tryz.ntmps101
  go_wp2_with fail
  refine (KM.out _).mono ?_
  rintro e w1 ⟨rfl, hg1⟩
  go_wp2_with fail
  have x0 := gw_new w1 #[.int .i64 (md h), .int .i64 (mp h)] 151 0 (.int .i64 (md h)) rfl
  refine region_grown (by kernel_rfl) (by kernel_rfl) ?_
  repeat (go_big_quiet_step ((go_at_call 122; exact in_grown (KD.out _))))
  refine wpQuiet_nil (grown_end ?_)
  intro w2 hg2
  clear x0
  go_wp2_with fail
  go_ret
  exact ⟨ret1 rfl, gtrans (hg1.alloc _ _) hg2⟩

theorem rlen_any (h : Int) (w : World) (h1 : 2 ≤ h) (h2 : h ≤ 9999) :
    Calls Tryz.prog 103 #[.int .i64 h] w fun e w' => e = .returned (.int .i64 (yl h)) ∧ Later w w' := by
  have hb := Year.ny_bd h (by omega) (by omega)
  have hd := Year.ny_bd (h + 1) (by omega) (by omega)
  have K1 := Lib.hid (fun W => rnewyear_any (h + 1) W (by omega) (by omega))
  have K2 := Lib.hid (fun W => rnewyear_any h W (by omega) (by omega))
  go_enter Tryz.func103, Tryz.ntmps103
  go_wp2_with fail
  refine (K1.out _).mono ?_
  rintro e w1 ⟨rfl, hg1⟩
  go_wp2_with fail
  refine (K2.out _).mono ?_
  rintro e w2 ⟨rfl, hg2⟩
  go_wp2_with fail
  go_ret
  exact ⟨ret1 rfl, gtrans hg1 hg2⟩

end Go.Proofs.YtmlnlkfdbbnkbaaGreatDoor.Mol

/- The document's answer for layer 4: how many days a month has, which date may be, a date's number and a number's date. Conditions: as each theorem says. -/
namespace Go.Proofs.YtmlnlkfdbbnkbaaGreatDoor.Hebrew
set_option maxRecDepth 100000
open Go.ChangeShapes Go.WideShapes Go.ChangeAt Go.RowKit
open Go.Proofs.YtmlnlkfdbbnkbaaGreatDoor.Divs Go.Proofs.YtmlnlkfdbbnkbaaGreatDoor.Grow Go.Proofs.YtmlnlkfdbbnkbaaGreatDoor.Mol
open Go.Proofs.YtmlnlkfdbbnkbaaGreatDoor.Year (lh mh pt md mp p1 p2 po dl ny yl)
open Go.Proofs.YtmlnlkfdbbnkbaaGreatDoor.Heb (hd ha ups)

/-- The days of month m of year h, whatever h. -/
def rd (h m : Int) : Int := if h < 3762 ∨ 9999 < h then 0 else hd (yl h) (lh h) m

theorem rd_no (h m : Int) (hb : h < 3762 ∨ 9999 < h) : rd h m = 0 := by unfold rd; rw [if_pos hb]
theorem rd_yes (h m : Int) (h1 : 3762 ≤ h) (h2 : h ≤ 9999) : rd h m = hd (yl h) (lh h) m := by unfold rd; rw [if_neg (by omega)]
theorem rd_bd (h m : Int) : 0 ≤ rd h m ∧ rd h m ≤ 30 := by
  have := Heb.hd_bd (yl h) (lh h) m
  unfold rd
  split <;> omega
theorem rd_in (h m : Int) (hp : 0 < rd h m) : 3762 ≤ h ∧ h ≤ 9999 ∧ 1 ≤ m ∧ m ≤ 13 := by
  by_cases hb : h < 3762 ∨ 9999 < h
  · rw [rd_no h m hb] at hp; omega
  · rw [rd_yes h m (by omega) (by omega)] at hp
    have := Heb.hd_month _ _ _ hp
    omega

theorem rdays_no (h m : Int) (w : World) (hb : h < 3762 ∨ 9999 < h) : Calls Tryz.prog 102 #[.int .i64 h, .int .i64 m] w fun e w' => e = .returned (.int .i64 0) ∧ Later w w' := by
  have N := Lib.hid (fun W => same_g (may_no h W hb))
  clear hb
  go_enter Tryz.func102, Tryz.ntmps102
  go_wp2_with fail
  refine (N.out _).mono ?_
  rintro e w1 ⟨rfl, hg1⟩
  go_wp2_with fail
  go_ret
  exact ⟨rfl, hg1⟩

theorem rdays_out (h m : Int) (w : World) (h1 : 3762 ≤ h) (h2 : h ≤ 9999) (hb : m < 1 ∨ 13 < m) : Calls Tryz.prog 102 #[.int .i64 h, .int .i64 m] w fun e w' => e = .returned (.int .i64 0) ∧ Later w w' := by
  have Y := Lib.hid (fun W => same_g (may_yes h W h1 h2))
  by_cases hm : m < 1
  · clear hb
    go_enter Tryz.func102, Tryz.ntmps102
    go_wp2_with fail
    refine (Y.out _).mono ?_
    rintro e w1 ⟨rfl, hg1⟩
    go_wp2_with fail
    go_ret
    exact ⟨rfl, hg1⟩
  · have hm2 : 13 < m := by omega
    clear hb
    go_enter Tryz.func102, Tryz.ntmps102
    go_wp2_with fail
    refine (Y.out _).mono ?_
    rintro e w1 ⟨rfl, hg1⟩
    go_wp2_with fail
    go_ret
    exact ⟨rfl, hg1⟩

set_option maxHeartbeats 2000000 in
theorem rdays_in (h m : Int) (w : World) (h1 : 3762 ≤ h) (h2 : h ≤ 9999) (m1 : 1 ≤ m) (m2 : m ≤ 13) : Calls Tryz.prog 102 #[.int .i64 h, .int .i64 m] w fun e w' => e = .returned (.int .i64 (hd (yl h) (lh h) m)) ∧ Later w w' := by
  have Y := Lib.hid (fun W => same_g (may_yes h W h1 h2))
  have L := Lib.hid (fun W => rlen_any h W (by omega) h2)
  have B := Lib.hid (fun W => drew_g (rleap_any h W (by omega) (by omega)))
  have hl := Heb.yl_bd h
  have hm : (yl h).tmod 10 = yl h % 10 := Int.tmod_eq_emod_of_nonneg (by omega)
  clear h1 h2
  rcases Heb.months_all m m1 m2 with rfl | rfl | rfl | rfl | rfl | rfl | rfl | rfl | rfl | rfl | rfl | rfl | rfl <;> clear m1 m2
  · go_enter Tryz.func102, Tryz.ntmps102
    go_wp2_with fail
    refine (Y.out _).mono ?_
    rintro e w1 ⟨rfl, hg1⟩
    go_wp2_with fail
    refine (L.out _).mono ?_
    rintro e w2 ⟨rfl, hg2⟩
    go_wp2_with fail
    refine (B.out _).mono ?_
    rintro e w3 ⟨rfl, hg3⟩
    go_wp2_with fail
    go_ret
    exact ⟨ret1 (by simp [hd]), gtrans hg1 (gtrans hg2 hg3)⟩
  · by_cases hx : yl h % 10 = 5
    · have t : (yl h % 10 == 5) = true := beq_iff_eq.2 hx
      have HS := Lib.hid hx
      clear hx
      go_enter Tryz.func102, Tryz.ntmps102
      go_wp2_with fail
      refine (Y.out _).mono ?_
      rintro e w1 ⟨rfl, hg1⟩
      go_wp2_with fail
      refine (L.out _).mono ?_
      rintro e w2 ⟨rfl, hg2⟩
      go_wp2_with fail
      go_ret
      exact ⟨ret1 (by simp [hd, HS.out]), gtrans hg1 hg2⟩
    · have t : (yl h % 10 == 5) = false := by simpa using hx
      have HS := Lib.hid hx
      clear hx
      go_enter Tryz.func102, Tryz.ntmps102
      go_wp2_with fail
      refine (Y.out _).mono ?_
      rintro e w1 ⟨rfl, hg1⟩
      go_wp2_with fail
      refine (L.out _).mono ?_
      rintro e w2 ⟨rfl, hg2⟩
      go_wp2_with fail
      refine (B.out _).mono ?_
      rintro e w3 ⟨rfl, hg3⟩
      go_wp2_with fail
      go_ret
      exact ⟨ret1 (by simp [hd, HS.out]), gtrans hg1 (gtrans hg2 hg3)⟩
  · by_cases hx : yl h % 10 = 3
    · have t : (yl h % 10 == 3) = true := beq_iff_eq.2 hx
      have HS := Lib.hid hx
      clear hx
      go_enter Tryz.func102, Tryz.ntmps102
      go_wp2_with fail
      refine (Y.out _).mono ?_
      rintro e w1 ⟨rfl, hg1⟩
      go_wp2_with fail
      refine (L.out _).mono ?_
      rintro e w2 ⟨rfl, hg2⟩
      go_wp2_with fail
      go_ret
      exact ⟨ret1 (by simp [hd, HS.out]), gtrans hg1 hg2⟩
    · have t : (yl h % 10 == 3) = false := by simpa using hx
      have HS := Lib.hid hx
      clear hx
      go_enter Tryz.func102, Tryz.ntmps102
      go_wp2_with fail
      refine (Y.out _).mono ?_
      rintro e w1 ⟨rfl, hg1⟩
      go_wp2_with fail
      refine (L.out _).mono ?_
      rintro e w2 ⟨rfl, hg2⟩
      go_wp2_with fail
      refine (B.out _).mono ?_
      rintro e w3 ⟨rfl, hg3⟩
      go_wp2_with fail
      go_ret
      exact ⟨ret1 (by simp [hd, HS.out]), gtrans hg1 (gtrans hg2 hg3)⟩
  · go_enter Tryz.func102, Tryz.ntmps102
    go_wp2_with fail
    refine (Y.out _).mono ?_
    rintro e w1 ⟨rfl, hg1⟩
    go_wp2_with fail
    refine (L.out _).mono ?_
    rintro e w2 ⟨rfl, hg2⟩
    go_wp2_with fail
    refine (B.out _).mono ?_
    rintro e w3 ⟨rfl, hg3⟩
    go_wp2_with fail
    go_ret
    exact ⟨ret1 (by simp [hd]), gtrans hg1 (gtrans hg2 hg3)⟩
  · go_enter Tryz.func102, Tryz.ntmps102
    go_wp2_with fail
    refine (Y.out _).mono ?_
    rintro e w1 ⟨rfl, hg1⟩
    go_wp2_with fail
    refine (L.out _).mono ?_
    rintro e w2 ⟨rfl, hg2⟩
    go_wp2_with fail
    refine (B.out _).mono ?_
    rintro e w3 ⟨rfl, hg3⟩
    go_wp2_with fail
    go_ret
    exact ⟨ret1 (by simp [hd]), gtrans hg1 (gtrans hg2 hg3)⟩
  · cases hb : lh h with
    | true =>
      rw [hb] at B
      clear hb
      go_enter Tryz.func102, Tryz.ntmps102
      go_wp2_with fail
      refine (Y.out _).mono ?_
      rintro e w1 ⟨rfl, hg1⟩
      go_wp2_with fail
      refine (L.out _).mono ?_
      rintro e w2 ⟨rfl, hg2⟩
      go_wp2_with fail
      refine (B.out _).mono ?_
      rintro e w3 ⟨rfl, hg3⟩
      go_wp2_with fail
      go_ret
      exact ⟨ret1 (by simp [hd]), gtrans hg1 (gtrans hg2 hg3)⟩
    | false =>
      rw [hb] at B
      clear hb
      go_enter Tryz.func102, Tryz.ntmps102
      go_wp2_with fail
      refine (Y.out _).mono ?_
      rintro e w1 ⟨rfl, hg1⟩
      go_wp2_with fail
      refine (L.out _).mono ?_
      rintro e w2 ⟨rfl, hg2⟩
      go_wp2_with fail
      refine (B.out _).mono ?_
      rintro e w3 ⟨rfl, hg3⟩
      go_wp2_with fail
      go_ret
      exact ⟨ret1 (by simp [hd]), gtrans hg1 (gtrans hg2 hg3)⟩
  · go_enter Tryz.func102, Tryz.ntmps102
    go_wp2_with fail
    refine (Y.out _).mono ?_
    rintro e w1 ⟨rfl, hg1⟩
    go_wp2_with fail
    refine (L.out _).mono ?_
    rintro e w2 ⟨rfl, hg2⟩
    go_wp2_with fail
    refine (B.out _).mono ?_
    rintro e w3 ⟨rfl, hg3⟩
    go_wp2_with fail
    go_ret
    exact ⟨ret1 (by simp [hd]), gtrans hg1 (gtrans hg2 hg3)⟩
  · go_enter Tryz.func102, Tryz.ntmps102
    go_wp2_with fail
    refine (Y.out _).mono ?_
    rintro e w1 ⟨rfl, hg1⟩
    go_wp2_with fail
    refine (L.out _).mono ?_
    rintro e w2 ⟨rfl, hg2⟩
    go_wp2_with fail
    refine (B.out _).mono ?_
    rintro e w3 ⟨rfl, hg3⟩
    go_wp2_with fail
    go_ret
    exact ⟨ret1 (by simp [hd]), gtrans hg1 (gtrans hg2 hg3)⟩
  · go_enter Tryz.func102, Tryz.ntmps102
    go_wp2_with fail
    refine (Y.out _).mono ?_
    rintro e w1 ⟨rfl, hg1⟩
    go_wp2_with fail
    refine (L.out _).mono ?_
    rintro e w2 ⟨rfl, hg2⟩
    go_wp2_with fail
    refine (B.out _).mono ?_
    rintro e w3 ⟨rfl, hg3⟩
    go_wp2_with fail
    go_ret
    exact ⟨ret1 (by simp [hd]), gtrans hg1 (gtrans hg2 hg3)⟩
  · go_enter Tryz.func102, Tryz.ntmps102
    go_wp2_with fail
    refine (Y.out _).mono ?_
    rintro e w1 ⟨rfl, hg1⟩
    go_wp2_with fail
    refine (L.out _).mono ?_
    rintro e w2 ⟨rfl, hg2⟩
    go_wp2_with fail
    refine (B.out _).mono ?_
    rintro e w3 ⟨rfl, hg3⟩
    go_wp2_with fail
    go_ret
    exact ⟨ret1 (by simp [hd]), gtrans hg1 (gtrans hg2 hg3)⟩
  · go_enter Tryz.func102, Tryz.ntmps102
    go_wp2_with fail
    refine (Y.out _).mono ?_
    rintro e w1 ⟨rfl, hg1⟩
    go_wp2_with fail
    refine (L.out _).mono ?_
    rintro e w2 ⟨rfl, hg2⟩
    go_wp2_with fail
    refine (B.out _).mono ?_
    rintro e w3 ⟨rfl, hg3⟩
    go_wp2_with fail
    go_ret
    exact ⟨ret1 (by simp [hd]), gtrans hg1 (gtrans hg2 hg3)⟩
  · go_enter Tryz.func102, Tryz.ntmps102
    go_wp2_with fail
    refine (Y.out _).mono ?_
    rintro e w1 ⟨rfl, hg1⟩
    go_wp2_with fail
    refine (L.out _).mono ?_
    rintro e w2 ⟨rfl, hg2⟩
    go_wp2_with fail
    refine (B.out _).mono ?_
    rintro e w3 ⟨rfl, hg3⟩
    go_wp2_with fail
    go_ret
    exact ⟨ret1 (by simp [hd]), gtrans hg1 (gtrans hg2 hg3)⟩
  · go_enter Tryz.func102, Tryz.ntmps102
    go_wp2_with fail
    refine (Y.out _).mono ?_
    rintro e w1 ⟨rfl, hg1⟩
    go_wp2_with fail
    refine (L.out _).mono ?_
    rintro e w2 ⟨rfl, hg2⟩
    go_wp2_with fail
    refine (B.out _).mono ?_
    rintro e w3 ⟨rfl, hg3⟩
    go_wp2_with fail
    go_ret
    exact ⟨ret1 (by simp [hd]), gtrans hg1 (gtrans hg2 hg3)⟩

theorem rdays_any (h m : Int) (w : World) : Calls Tryz.prog 102 #[.int .i64 h, .int .i64 m] w fun e w' => e = .returned (.int .i64 (rd h m)) ∧ Later w w' := by
  by_cases hb : h < 3762 ∨ 9999 < h
  · rw [rd_no h m hb]; exact rdays_no h m w hb
  · rw [rd_yes h m (by omega) (by omega)]
    by_cases hm : m < 1 ∨ 13 < m
    · rw [Heb.hd_out _ _ m hm]; exact rdays_out h m w (by omega) (by omega) hm
    · exact rdays_in h m w (by omega) (by omega) (by omega) (by omega)

end Go.Proofs.YtmlnlkfdbbnkbaaGreatDoor.Hebrew

/- The document's answer for layer 4, on: which date may be, a date's number, the first and the last day, a day's year, a number's date; and what the chapter's example fixes. Conditions: as each theorem says. -/
namespace Go.Proofs.YtmlnlkfdbbnkbaaGreatDoor.Hebrew
set_option maxRecDepth 100000
open Go.ChangeShapes Go.WideShapes Go.ChangeAt Go.RowKit
open Go.Proofs.YtmlnlkfdbbnkbaaGreatDoor.Divs Go.Proofs.YtmlnlkfdbbnkbaaGreatDoor.Grow Go.Proofs.YtmlnlkfdbbnkbaaGreatDoor.Mol
open Go.Proofs.YtmlnlkfdbbnkbaaGreatDoor.Year (lh mh pt md mp p1 p2 po dl ny yl)
open Go.Proofs.YtmlnlkfdbbnkbaaGreatDoor.Heb (hd ha ups)

def DRel (y m d : Int) (w : World) (s i : Value) (wr : World) : Prop :=
  ∃ k : Int, 1 ≤ k ∧ k ≤ m ∧ s = .int .i64 (ny y + d - 1 + ha (yl y) (lh y) k) ∧ i = .int .i64 k ∧ Later (w.alloc (.cells #[.int .i64 y, .int .i64 m, .int .i64 d] 119)) wr

theorem rfirst_any (w : World) : Calls Tryz.prog 79 #[] w fun e w' => e = .returned (.int .i64 (ny 3762)) ∧ Later w w' := by
  have Y := Lib.hid (fun W => rnewyear_any 3762 W (by omega) (by omega))
  go_enter Tryz.func79, Tryz.ntmps79
  go_wp2_with fail
  refine (Y.out _).mono ?_
  rintro e w1 ⟨rfl, hg1⟩
  go_wp2_with fail
  go_ret
  exact ⟨rfl, hg1⟩

theorem rlast_any (w : World) : Calls Tryz.prog 80 #[] w fun e w' => e = .returned (.int .i64 (ny 10000 - 1)) ∧ Later w w' := by
  have Y := Lib.hid (fun W => rnewyear_any 9999 W (by omega) (by omega))
  have L := Lib.hid (fun W => rlen_any 9999 W (by omega) (by omega))
  have E := Lib.hid (Heb.ny_next 9999)
  have b1 := Year.ny_bd 9999 (by omega) (by omega)
  have b2 := Heb.yl_bd 9999
  go_enter Tryz.func80, Tryz.ntmps80
  go_wp2_with fail
  refine (Y.out _).mono ?_
  rintro e w1 ⟨rfl, hg1⟩
  go_wp2_with fail
  refine (L.out _).mono ?_
  rintro e w2 ⟨rfl, hg2⟩
  go_wp2_with fail
  go_ret
  exact ⟨ret1 (by have := E.out; simp at this; omega), gtrans hg1 hg2⟩

def YRel (h : Int) (w : World) (x y : Value) (wr : World) : Prop := ∃ i j : Int, 3762 ≤ i ∧ i ≤ h ∧ h < j ∧ j ≤ 10000 ∧ x = .int .i64 i ∧ y = .int .i64 j ∧ Later w wr

set_option maxHeartbeats 1000000 in
theorem ryear_any (n h : Int) (w : World) (h1 : 3762 ≤ h) (h2 : h ≤ 9999) (a1 : ny h ≤ n) (a2 : n < ny (h + 1)) :
    Calls Tryz.prog 100 #[.int .i64 n] w fun e w' => e = .returned (.int .i64 h) ∧ Later w w' := by
  have Y := Lib.hid (fun (k : Int) (k1 : 3762 ≤ k) (k2 : k ≤ 10000) W => rnewyear_any k W (by omega) (by omega))
  have O := Lib.hid (fun k => Heb.ny_one_of n h k a1 a2)
  clear a1 a2
  go_enter Tryz.func100, Tryz.ntmps100
  go_wp2_with fail
  go_loopw [3, 4] (fun x y wr => YRel h w x y wr) (fun x y _ => (intOf y - intOf x).toNat)
  case atStart => exact ⟨3762, 10000, by omega, by omega, by omega, by omega, rfl, rfl, Later.refl w⟩
  case round =>
    obtain ⟨i, j, i0, i1, j0, j1, rfl, rfl, hg⟩ := hrel
    have hq : (i + j).tdiv 2 = (i + j) / 2 := Int.tdiv_eq_ediv_of_nonneg (by omega)
    by_cases hlt : 1 < j - i
    · have hh : i < (i + j) / 2 ∧ (i + j) / 2 < j := by omega
      have o := O.out ((i + j) / 2)
      by_cases hm : (i + j) / 2 ≤ h
      · have t : ny ((i + j) / 2) ≤ n := o.2 hm
        clear o
        go_wp2_with fail
        refine (Y.out _ (by omega) (by omega) _).mono ?_
        rintro e w1 ⟨rfl, hg1⟩
        go_wp2_with fail
        go_roundw
        case rel => exact ⟨(i + j) / 2, j, by omega, by omega, by omega, by omega, rfl, rfl, gtrans hg hg1⟩
        case measure => simp [intOf]; omega
      · have t : ¬ ny ((i + j) / 2) ≤ n := fun x => hm (o.1 x)
        clear o
        go_wp2_with fail
        refine (Y.out _ (by omega) (by omega) _).mono ?_
        rintro e w1 ⟨rfl, hg1⟩
        go_wp2_with fail
        go_roundw
        case rel => exact ⟨i, (i + j) / 2, by omega, by omega, by omega, by omega, rfl, rfl, gtrans hg hg1⟩
        case measure => simp [intOf]; omega
    · obtain rfl : i = h := by omega
      go_wp2_with fail
      go_ret
      exact ⟨rfl, hg⟩

def ORel (n h m : Int) (w : World) (x y : Value) (wr : World) : Prop :=
  ∃ k : Int, 1 ≤ k ∧ k ≤ m ∧ x = .int .i64 (n - ny h - ha (yl h) (lh h) k) ∧ y = .int .i64 k ∧ Later w wr

set_option maxHeartbeats 1000000 in
theorem rof_any (n h m : Int) (w : World) (h1 : 3762 ≤ h) (h2 : h ≤ 9999) (a1 : ny h ≤ n) (a2 : n < ny (h + 1)) (m1 : 1 ≤ m) (m2 : m ≤ 13) (g1 : ha (yl h) (lh h) m ≤ n - ny h) (g2 : n - ny h < ha (yl h) (lh h) (m + 1)) :
    Calls Tryz.prog 78 #[.int .i64 n] w fun e w' => e = .returned (.agg #[.int .i64 h, .int .i64 m, .int .i64 (n - ny h - ha (yl h) (lh h) m + 1)]) ∧ Later w w' := by
  have Y := Lib.hid (fun W => ryear_any n h W h1 h2 a1 a2)
  have N := Lib.hid (fun W => rnewyear_any h W (by omega) (by omega))
  have D := Lib.hid (fun k W => rdays_any h k W)
  have hb := Year.ny_bd h (by omega) (by omega)
  have hb2 := Year.ny_bd (h + 1) (by omega) (by omega)
  have hn : -10000000 ≤ n ∧ n ≤ 10000000 := by omega
  clear a1 a2 hb2
  go_enter Tryz.func78, Tryz.ntmps78
  go_wp2_with fail
  refine (Y.out _).mono ?_
  rintro e w1 ⟨rfl, hg1⟩
  go_wp2_with fail
  refine (N.out _).mono ?_
  rintro e w2 ⟨rfl, hg2⟩
  go_wp2_with fail
  go_loopw [4, 5] (fun x y wr => ORel n h m (w.alloc (.cells #[.int .i64 0, .int .i64 0, .int .i64 0] 119)) x y wr) (fun _ y _ => (20 - intOf y).toNat)
  case atStart => exact ⟨1, by omega, by omega, by rw [Heb.ha_one]; simp, rfl, gtrans hg1 hg2⟩
  case round =>
    obtain ⟨k, k1, k2, rfl, rfl, hg⟩ := hrel
    have ba := Heb.ha_bd (yl h) (lh h) k
    have st := Heb.ha_step (yl h) (lh h) k k1 (by omega)
    have hr := rd_yes h k h1 h2
    have bd := rd_bd h k
    by_cases hlt : k < m
    · have mo := Heb.ha_mono (yl h) (lh h) (k + 1) m (by omega) (by omega) (by omega)
      have t : rd h k ≤ n - ny h - ha (yl h) (lh h) k := by omega
      have HS := Lib.hid st
      have HR := Lib.hid hr
      clear st hr mo g1 g2
      go_wp2_with fail
      refine (D.out _ _).mono ?_
      rintro e w3 ⟨rfl, hg3⟩
      go_wp2_with fail
      refine (D.out _ _).mono ?_
      rintro e w4 ⟨rfl, hg4⟩
      go_wp2_with fail
      go_roundw
      case rel => exact ⟨k + 1, by omega, by omega, by rw [HS.out, HR.out, Int.sub_sub (n - ny h)], rfl, gtrans hg (gtrans hg3 hg4)⟩
      case measure => simp [intOf]; omega
    · obtain rfl : k = m := by omega
      have t : ¬ rd h k ≤ n - ny h - ha (yl h) (lh h) k := by omega
      clear st hr g1 g2
      go_wp2_with fail
      refine (D.out _ _).mono ?_
      rintro e w3 ⟨rfl, hg3⟩
      have hG := gtrans hg hg3
      have c0 := cell4 hG 0 rfl
      have c1 := cell4 hG 1 rfl
      have c2 := cell4 hG 2 rfl
      have f0 := froz4 hG 0
      have f1 := froz4 hG 1
      have f2 := froz4 hG 2
      go_wp2_with fail
      refine bodyPost_ret (v := .agg #[.int .i64 h, .int .i64 k, .int .i64 (n - ny h - ha (yl h) (lh h) k + 1)]) ?_ rfl ⟨rfl, ?_⟩
      · exact results_cell_row (P := Tryz.prog) (fn := Tryz.f78) Tryz.results78 _ _ w.heap.size 119 _ (0, 0) _ rfl (row3 (heap_late hG)) Tryz.underlying119 rfl (by kernel_rfl)
      exact (((gtrans ((Later.refl w).alloc _ _) hG).setCell (Nat.le_refl _) _).setCell (Nat.le_refl _) _).setCell (Nat.le_refl _) _

theorem of_example (W : World) : Calls Tryz.prog 65 #[.int .i64 738779] W fun e w' => e = .returned (.tuple #[.agg #[.int .i64 5784, .int .i64 1, .int .i64 1], .int .i64 0]) ∧ Later W w' := by
  have hn := Heb.ny_next 5784
  have hy := Year.ny_example
  have hl := Year.yl_example
  have e1 : ha (yl 5784) (lh 5784) 1 = 0 := Heb.ha_one _ _
  have e2 : ha (yl 5784) (lh 5784) (1 + 1) = 30 := by rw [Year.yl_example, Year.lh_example]; decide
  have k := of_yes 738779 5784 1 W (by omega) (by omega) (by omega) (by omega) (by omega) (by omega) (by omega) (by omega)
  rw [show 738779 - ny 5784 - ha (yl 5784) (lh 5784) 1 + 1 = 1 by rw [e1, hy]; rfl] at k
  exact k

end Go.Proofs.YtmlnlkfdbbnkbaaGreatDoor.Hebrew
