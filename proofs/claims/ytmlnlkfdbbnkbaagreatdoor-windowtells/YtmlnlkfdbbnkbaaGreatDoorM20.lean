/-
  Texts of mine, merged: each part says what it holds. Conditions: as each theorem states.
-/
import Derived.Test.YtmlnlkfdbbnkbaaGreatDoorM19

/- The document's answer for layer 5: a date's feast, a day's feast, days of rest, the days of rest that touch. Conditions: the numbers are ints, as each theorem says. -/
namespace Go.Proofs.YtmlnlkfdbbnkbaaGreatDoor.Feast
set_option maxRecDepth 100000
open Go.ChangeShapes Go.WideShapes Go.ChangeAt Go.RowKit
open Go.Proofs.YtmlnlkfdbbnkbaaGreatDoor.Divs Go.Proofs.YtmlnlkfdbbnkbaaGreatDoor.Grow Go.Proofs.YtmlnlkfdbbnkbaaGreatDoor.Mol Go.Proofs.YtmlnlkfdbbnkbaaGreatDoor.Hebrew
open Go.Proofs.YtmlnlkfdbbnkbaaGreatDoor.Year (lh mh pt md mp p1 p2 po dl ny yl)
open Go.Proofs.YtmlnlkfdbbnkbaaGreatDoor.Heb (hd ha ups)
open Go.Proofs.YtmlnlkfdbbnkbaaGreatDoor.Fe

set_option maxHeartbeats 1000000 in
theorem rtishri_any (d : Int) (ab : Bool) (w : World) : Calls Tryz.prog 99 #[.int .i64 d, .bool ab] w fun e w' => e = .returned (.int .i64 (fk ab 1 d)) ∧ w = w' := by
  by_cases c : d = 1 ∨ d = 2 ∨ d = 10 ∨ d = 15 ∨ d = 16 ∨ d = 22 ∨ d = 23
  · rcases c with rfl | rfl | rfl | rfl | rfl | rfl | rfl <;> cases ab <;>
      (go_enter Tryz.func99, Tryz.ntmps99
       go_wp2
       go_ret
       exact ⟨ret1 (by simp [fk]), rfl⟩)
  · have t1 : (d == 1) = false := by simp; omega
    have t2 : (d == 2) = false := by simp; omega
    have t3 : (d == 10) = false := by simp; omega
    have t4 : (d == 15) = false := by simp; omega
    have t5 : (d == 16) = false := by simp; omega
    have t6 : (d == 22) = false := by simp; omega
    have t7 : (d == 23) = false := by simp; omega
    have Z := Lib.hid (show 0 = fk ab 1 d by unfold fk; rw [if_pos rfl, if_neg (by omega), if_neg (by omega), if_neg (by omega), if_neg (by omega)])
    clear c
    cases ab <;>
      (go_enter Tryz.func99, Tryz.ntmps99
       go_wp2
       go_ret
       exact ⟨ret1 Z.out, rfl⟩)

set_option maxHeartbeats 1000000 in
theorem rof8_15 (y : Int) (ab : Bool) (w : World) : Calls Tryz.prog 77 #[.agg #[.int .i64 y, .int .i64 8, .int .i64 15], .bool ab] w fun e w' => e = .returned (.int .i64 (fk ab 8 15)) ∧ Later w w' := by
  have L1 := Lib.hid ((Later.refl w).alloc #[.int .i64 y, .int .i64 8, .int .i64 15] 119)
  cases ab <;>
    (go_enter Tryz.func77, Tryz.ntmps77
     go_wp2
     go_ret
     exact ⟨ret1 (by simp [fk]), L1.out⟩)

set_option maxHeartbeats 1000000 in
theorem rof8_16 (y : Int) (ab : Bool) (w : World) : Calls Tryz.prog 77 #[.agg #[.int .i64 y, .int .i64 8, .int .i64 16], .bool ab] w fun e w' => e = .returned (.int .i64 (fk ab 8 16)) ∧ Later w w' := by
  have L1 := Lib.hid ((Later.refl w).alloc #[.int .i64 y, .int .i64 8, .int .i64 16] 119)
  cases ab <;>
    (go_enter Tryz.func77, Tryz.ntmps77
     go_wp2
     go_ret
     exact ⟨ret1 (by simp [fk]), L1.out⟩)

set_option maxHeartbeats 1000000 in
theorem rof8_21 (y : Int) (ab : Bool) (w : World) : Calls Tryz.prog 77 #[.agg #[.int .i64 y, .int .i64 8, .int .i64 21], .bool ab] w fun e w' => e = .returned (.int .i64 (fk ab 8 21)) ∧ Later w w' := by
  have L1 := Lib.hid ((Later.refl w).alloc #[.int .i64 y, .int .i64 8, .int .i64 21] 119)
  cases ab <;>
    (go_enter Tryz.func77, Tryz.ntmps77
     go_wp2
     go_ret
     exact ⟨ret1 (by simp [fk]), L1.out⟩)

set_option maxHeartbeats 1000000 in
theorem rof8_22 (y : Int) (ab : Bool) (w : World) : Calls Tryz.prog 77 #[.agg #[.int .i64 y, .int .i64 8, .int .i64 22], .bool ab] w fun e w' => e = .returned (.int .i64 (fk ab 8 22)) ∧ Later w w' := by
  have L1 := Lib.hid ((Later.refl w).alloc #[.int .i64 y, .int .i64 8, .int .i64 22] 119)
  cases ab <;>
    (go_enter Tryz.func77, Tryz.ntmps77
     go_wp2
     go_ret
     exact ⟨ret1 (by simp [fk]), L1.out⟩)

set_option maxHeartbeats 1000000 in
theorem rof10_6 (y : Int) (ab : Bool) (w : World) : Calls Tryz.prog 77 #[.agg #[.int .i64 y, .int .i64 10, .int .i64 6], .bool ab] w fun e w' => e = .returned (.int .i64 (fk ab 10 6)) ∧ Later w w' := by
  have L1 := Lib.hid ((Later.refl w).alloc #[.int .i64 y, .int .i64 10, .int .i64 6] 119)
  cases ab <;>
    (go_enter Tryz.func77, Tryz.ntmps77
     go_wp2
     go_ret
     exact ⟨ret1 (by simp [fk]), L1.out⟩)

set_option maxHeartbeats 1000000 in
theorem rof10_7 (y : Int) (ab : Bool) (w : World) : Calls Tryz.prog 77 #[.agg #[.int .i64 y, .int .i64 10, .int .i64 7], .bool ab] w fun e w' => e = .returned (.int .i64 (fk ab 10 7)) ∧ Later w w' := by
  have L1 := Lib.hid ((Later.refl w).alloc #[.int .i64 y, .int .i64 10, .int .i64 7] 119)
  cases ab <;>
    (go_enter Tryz.func77, Tryz.ntmps77
     go_wp2
     go_ret
     exact ⟨ret1 (by simp [fk]), L1.out⟩)

set_option maxHeartbeats 1000000 in
theorem rof8_else (y d : Int) (ab : Bool) (h : d ≠ 15 ∧ d ≠ 16 ∧ d ≠ 21 ∧ d ≠ 22) (w : World) : Calls Tryz.prog 77 #[.agg #[.int .i64 y, .int .i64 8, .int .i64 d], .bool ab] w fun e w' => e = .returned (.int .i64 (fk ab 8 d)) ∧ Later w w' := by
  have t15 : (d == 15) = false := by simp; omega
  have t16 : (d == 16) = false := by simp; omega
  have t21 : (d == 21) = false := by simp; omega
  have t22 : (d == 22) = false := by simp; omega
  have Z := Lib.hid (show 0 = fk ab 8 d by unfold fk; rw [if_neg (by omega), if_pos rfl, if_neg (by omega), if_neg (by omega)])
  clear h
  have L1 := Lib.hid ((Later.refl w).alloc #[.int .i64 y, .int .i64 8, .int .i64 d] 119)
  cases ab <;>
    (go_enter Tryz.func77, Tryz.ntmps77
     go_wp2
     go_ret
     exact ⟨ret1 Z.out, L1.out⟩)

set_option maxHeartbeats 1000000 in
theorem rof10_else (y d : Int) (ab : Bool) (h : d ≠ 6 ∧ d ≠ 7) (w : World) : Calls Tryz.prog 77 #[.agg #[.int .i64 y, .int .i64 10, .int .i64 d], .bool ab] w fun e w' => e = .returned (.int .i64 (fk ab 10 d)) ∧ Later w w' := by
  have t6 : (d == 6) = false := by simp; omega
  have t7 : (d == 7) = false := by simp; omega
  have Z := Lib.hid (show 0 = fk ab 10 d by unfold fk; rw [if_neg (by omega), if_neg (by omega), if_pos rfl, if_neg (by omega)])
  clear h
  have L1 := Lib.hid ((Later.refl w).alloc #[.int .i64 y, .int .i64 10, .int .i64 d] 119)
  cases ab <;>
    (go_enter Tryz.func77, Tryz.ntmps77
     go_wp2
     go_ret
     exact ⟨ret1 Z.out, L1.out⟩)

set_option maxHeartbeats 1000000 in
theorem rof_else (y m d : Int) (ab : Bool) (h : m ≠ 1 ∧ m ≠ 8 ∧ m ≠ 10) (w : World) : Calls Tryz.prog 77 #[.agg #[.int .i64 y, .int .i64 m, .int .i64 d], .bool ab] w fun e w' => e = .returned (.int .i64 (fk ab m d)) ∧ Later w w' := by
  have t1 : (m == 1) = false := by simp; omega
  have t8 : (m == 8) = false := by simp; omega
  have t10 : (m == 10) = false := by simp; omega
  have Z := Lib.hid (fk_else ab m d h.1 h.2.1 h.2.2).symm
  clear h
  have L1 := Lib.hid ((Later.refl w).alloc #[.int .i64 y, .int .i64 m, .int .i64 d] 119)
  cases ab <;>
    (go_enter Tryz.func77, Tryz.ntmps77
     go_wp2
     go_ret
     exact ⟨ret1 Z.out, L1.out⟩)

theorem rof1 (y d : Int) (ab : Bool) (w : World) : Calls Tryz.prog 77 #[.agg #[.int .i64 y, .int .i64 1, .int .i64 d], .bool ab] w fun e w' => e = .returned (.int .i64 (fk ab 1 d)) ∧ Later w w' := by
  have L1 := Lib.hid ((Later.refl w).alloc #[.int .i64 y, .int .i64 1, .int .i64 d] 119)
  have T := Lib.hid (fun W => rtishri_any d ab W)
  go_enter Tryz.func77, Tryz.ntmps77
  go_wp2_with fail
  refine (T.out _).mono ?_
  rintro e w1 ⟨rfl, rfl⟩
  go_wp2_with fail
  go_ret
  exact ⟨rfl, L1.out⟩

theorem rfeast_any (y m d : Int) (ab : Bool) (w : World) : Calls Tryz.prog 77 #[.agg #[.int .i64 y, .int .i64 m, .int .i64 d], .bool ab] w fun e w' => e = .returned (.int .i64 (fk ab m d)) ∧ Later w w' := by
  by_cases c1 : m = 1
  · subst c1; exact rof1 y d ab w
  · by_cases c8 : m = 8
    · subst c8
      by_cases d1 : d = 15
      · subst d1; exact rof8_15 y ab w
      · by_cases d2 : d = 16
        · subst d2; exact rof8_16 y ab w
        · by_cases d3 : d = 21
          · subst d3; exact rof8_21 y ab w
          · by_cases d4 : d = 22
            · subst d4; exact rof8_22 y ab w
            · exact rof8_else y d ab ⟨d1, d2, d3, d4⟩ w
    · by_cases c10 : m = 10
      · subst c10
        by_cases d1 : d = 6
        · subst d1; exact rof10_6 y ab w
        · by_cases d2 : d = 7
          · subst d2; exact rof10_7 y ab w
          · exact rof10_else y d ab ⟨d1, d2⟩ w
      · exact rof_else y m d ab ⟨c1, c8, c10⟩ w

theorem rhas_any (n : Int) (w : World) : Calls Tryz.prog 53 #[.int .i64 n] w fun e w' => e = .returned (.bool (decide (ny 3762 ≤ n ∧ n < ny 10000))) ∧ Later w w' := by
  have F := Lib.hid rfirst_any
  have L := Lib.hid rlast_any
  have b1 := Year.ny_bd 10000 (by omega) (by omega)
  by_cases c1 : ny 3762 ≤ n
  · have t1 : decide (ny 3762 ≤ n) = true := by simp [c1]
    have E := Lib.hid (show decide (n ≤ ny 10000 - 1) = decide (ny 3762 ≤ n ∧ n < ny 10000) by
      by_cases c2 : n < ny 10000
      · rw [decide_eq_true (by omega), decide_eq_true (by omega)]
      · rw [decide_eq_false (by omega), decide_eq_false (by omega)])
    go_enter Tryz.func53, Tryz.ntmps53
    go_wp2_with fail
    refine (F.out _).mono ?_
    rintro e w1 ⟨rfl, hg1⟩
    go_wp2_with fail
    refine (L.out _).mono ?_
    rintro e w2 ⟨rfl, hg2⟩
    go_wp2_with fail
    go_ret
    exact ⟨retbool E.out, gtrans hg1 hg2⟩
  · have t1 : decide (ny 3762 ≤ n) = false := by simpa using c1
    have E := Lib.hid (show false = decide (ny 3762 ≤ n ∧ n < ny 10000) from (decide_eq_false (by omega)).symm)
    go_enter Tryz.func53, Tryz.ntmps53
    go_wp2_with fail
    refine (F.out _).mono ?_
    rintro e w1 ⟨rfl, hg1⟩
    go_wp2_with fail
    go_ret
    exact ⟨retbool E.out, hg1⟩

theorem rkind_any (n : Int) (ab : Bool) (w : World) : Calls Tryz.prog 52 #[.int .i64 n, .bool ab] w fun e w' => e = .returned (.int .i64 (kd ab n)) ∧ Later w w' := by
  have H := Lib.hid (fun W => rhas_any n W)
  by_cases ho : n < ny 3762 ∨ ny 10000 ≤ n
  · rw [decide_eq_false (by omega)] at H
    have E := Lib.hid (kd_out ab n ho).symm
    clear ho
    go_enter Tryz.func52, Tryz.ntmps52
    go_wp2_with fail
    refine (H.out _).mono ?_
    rintro e w1 ⟨rfl, hg1⟩
    go_wp2_with fail
    go_ret
    exact ⟨ret1 E.out, hg1⟩
  · rw [decide_eq_true (by omega)] at H
    obtain ⟨h, m, y1, y2, a1, a2, m1, m2, g1, g2⟩ := dt_ex n (by omega) (by omega)
    have O := Lib.hid (fun W => rof_any n h m W y1 y2 a1 a2 m1 m2 g1 g2)
    have E := Lib.hid (kd_dt ab n _ _ _ (dt_of n h m y1 y2 m1 m2 g1 g2)).symm
    have F := Lib.hid (fun W => rfeast_any h m (n - ny h - ha (yl h) (lh h) m + 1) ab W)
    clear ho a1 a2 g1 g2 m1 m2 y1 y2
    go_enter Tryz.func52, Tryz.ntmps52
    go_wp2_with fail
    refine (H.out _).mono ?_
    rintro e w1 ⟨rfl, hg1⟩
    go_wp2_with fail
    refine (O.out _).mono ?_
    rintro e w2 ⟨rfl, hg2⟩
    go_wp2_with fail
    refine (F.out _).mono ?_
    rintro e w3 ⟨rfl, hg3⟩
    go_wp2_with fail
    go_ret
    exact ⟨ret1 E.out, gtrans (gtrans hg1 hg2) hg3⟩

theorem rweekday_any (n : Int) (w : World) (h0 : -9223372036854775808 ≤ n) (h1 : n ≤ 9223372036854775807) : Calls Tryz.prog 51 #[.int .i64 n] w fun e w' => e = .returned (.int .i64 (n % 7)) ∧ ∃ k, w' = w.drewN k := by
  have M := Lib.hid (fun W => rmod_any n 7 W h0 h1 (by omega) (by omega))
  go_enter Tryz.func51, Tryz.ntmps51
  go_wp2_with fail
  refine (M.out _).mono ?_
  rintro e w1 ⟨rfl, k, rfl⟩
  go_wp2_with fail
  go_ret
  exact ⟨rfl, _, rfl⟩

set_option maxHeartbeats 1000000 in
theorem rrest_any (n : Int) (ab : Bool) (w : World) (h0 : -9223372036854775808 ≤ n) (h1 : n ≤ 9223372036854775807) : Calls Tryz.prog 30 #[.int .i64 n, .bool ab] w fun e w' => e = .returned (.bool (rst ab n)) ∧ Later w w' := by
  have H := Lib.hid (fun W => rhas_any n W)
  have W7 := Lib.hid (fun W => rweekday_any n W h0 h1)
  have K := Lib.hid (fun W => rkind_any n ab W)
  have E := Lib.hid (show rst ab n = (decide (ny 3762 ≤ n ∧ n < ny 10000) && (decide (n % 7 = 6) || decide (kd ab n ≠ 0))) from rfl)
  by_cases ho : ny 3762 ≤ n ∧ n < ny 10000
  · rw [decide_eq_true ho] at H E
    clear ho
    by_cases hs : n % 7 = 6
    · rw [decide_eq_true hs] at E
      have t : (n % 7 == 6) = true := by simp [hs]
      clear hs
      go_enter Tryz.func30, Tryz.ntmps30
      go_wp2_with fail
      refine (H.out _).mono ?_
      rintro e w1 ⟨rfl, hg1⟩
      go_wp2_with fail
      refine (W7.out _).mono ?_
      rintro e w2 ⟨rfl, k, rfl⟩
      go_wp2_with fail
      go_ret
      exact ⟨retbool (by rw [E.out]; rfl), hg1⟩
    · rw [decide_eq_false hs] at E
      have t : (n % 7 == 6) = false := by simp [hs]
      clear hs
      go_enter Tryz.func30, Tryz.ntmps30
      go_wp2_with fail
      refine (H.out _).mono ?_
      rintro e w1 ⟨rfl, hg1⟩
      go_wp2_with fail
      refine (W7.out _).mono ?_
      rintro e w2 ⟨rfl, k, rfl⟩
      go_wp2_with fail
      refine (K.out _).mono ?_
      rintro e w3 ⟨rfl, hg3⟩
      go_wp2_with fail
      go_ret
      refine ⟨retbool ?_, gtrans (gtrans hg1 (later_drewN _ k)) hg3⟩
      rw [E.out]
      by_cases z : kd ab n = 0 <;> simp [z]
  · rw [decide_eq_false ho] at H E
    clear ho
    go_enter Tryz.func30, Tryz.ntmps30
    go_wp2_with fail
    refine (H.out _).mono ?_
    rintro e w1 ⟨rfl, hg1⟩
    go_wp2_with fail
    go_ret
    exact ⟨retbool (by rw [E.out]; rfl), hg1⟩

theorem row2 {X : World} {b : Nat} {t : TypeId} {fr : Nat × Nat} {u0 u1 v0 v1 : Value} (h : X.heap[b]? = some (.cells #[u0, u1] t fr)) :
    ((X.setCell ⟨b, 0, none⟩ v0).setCell ⟨b, 1, none⟩ v1).heap[b]? = some (.cells #[v0, v1] t fr) :=
  row_set (row_set h)

def Lo (ab : Bool) (a n : Int) (w : World) (x y : Value) (wr : World) : Prop := ∃ i : Int, a ≤ i ∧ i ≤ n ∧ x = .int .i64 i ∧ y = .bool (rst ab (i - 1)) ∧ Later w wr
def Up (ab : Bool) (b n : Int) (w : World) (x y : Value) (wr : World) : Prop := ∃ i : Int, n ≤ i ∧ i ≤ b ∧ x = .int .i64 i ∧ y = .bool (rst ab (i + 1)) ∧ Later w wr

set_option maxHeartbeats 2000000 in
theorem rrun_any (n a b : Int) (ab : Bool) (w : World) (h : Row ab n a b) : Calls Tryz.prog 31 #[.int .i64 n, .bool ab] w fun e w' => e = .returned (.agg #[.int .i64 a, .int .i64 b]) ∧ Later w w' := by
  have rl := row_len ab n a b h
  obtain ⟨x1, x2, x3, x4, x5⟩ := h
  have hn := x3 n x1 x2
  obtain ⟨n0, n1, _⟩ := (rst_iff ab n).1 hn
  have b1 := Year.ny_bd 3762 (by omega) (by omega)
  have b2 := Year.ny_bd 10000 (by omega) (by omega)
  have nb : -10000000 ≤ n ∧ n ≤ 10000000 := by omega
  have R := Lib.hid (fun i W (h0 : -20000000 ≤ i) (h1 : i ≤ 20000000) => rrest_any i ab W (by omega) (by omega))
  have X3 := Lib.hid x3
  have X4 := Lib.hid x4
  have X5 := Lib.hid x5
  clear x3 x4 x5 hn n0 n1 b1 b2
  go_enter Tryz.func31, Tryz.ntmps31
  go_wp2_with fail
  refine (R.out _ _ (by omega) (by omega)).mono ?_
  rintro e w1 ⟨rfl, hg1⟩
  go_wp2_with fail
  go_loopw [5, 7] (fun x y wr => Lo ab a n (w.alloc (.cells #[.int .i64 0, .int .i64 0] 74)) x y wr) (fun x _ _ => (intOf x - a).toNat)
  case atStart => exact ⟨n, by omega, by omega, rfl, rfl, hg1⟩
  case round =>
    obtain ⟨i, i1, i2, rfl, rfl, hg⟩ := hrel
    by_cases c : i = a
    · subst c
      have HG := Lib.hid hg
      rw [X4.out]
      clear hg
      go_wp2_with fail
      refine (R.out _ _ (by omega) (by omega)).mono ?_
      rintro e w2 ⟨rfl, hg2⟩
      have HG2 := Lib.hid (gtrans HG.out hg2)
      clear hg2
      go_wp2_with fail
      go_loopw [6, 7] (fun x y wr => Up ab b n (w.alloc (.cells #[.int .i64 0, .int .i64 0] 74)) x y wr) (fun x _ _ => (b - intOf x).toNat)
      case atStart => exact ⟨n, by omega, by omega, rfl, rfl, HG2.out⟩
      case round =>
        obtain ⟨j, j1, j2, rfl, rfl, hgj⟩ := hrel
        by_cases c : j = b
        · subst c
          rw [X5.out]
          have c0 := cell4 hgj 0 rfl
          have c1 := cell4 hgj 1 rfl
          have f0 := froz4 hgj 0
          have f1 := froz4 hgj 1
          have HGJ := Lib.hid hgj
          clear hgj
          go_wp2_with fail
          refine bodyPost_ret (v := .agg #[.int .i64 i, .int .i64 j]) ?_ rfl ⟨rfl, ?_⟩
          · exact results_cell_row (P := Tryz.prog) (fn := Tryz.f31) Tryz.results31 _ _ w.heap.size 74 _ (0, 0) _ rfl (row2 (heap_late HGJ.out)) Tryz.underlying74 rfl (by kernel_rfl)
          exact ((gtrans ((Later.refl w).alloc _ _) HGJ.out).setCell (Nat.le_refl _) _).setCell (Nat.le_refl _) _
        · rw [X3.out (j + 1) (by omega) (by omega)]
          have HGJ := Lib.hid hgj
          clear hgj
          go_wp2_with fail
          refine (R.out _ _ (by omega) (by omega)).mono ?_
          rintro e w3 ⟨rfl, hg3⟩
          go_wp2_with fail
          go_roundw
          case rel => exact ⟨j + 1, by omega, by omega, rfl, rfl, gtrans HGJ.out hg3⟩
          case measure => simp [intOf]; omega
    · rw [X3.out (i - 1) (by omega) (by omega)]
      have HG := Lib.hid hg
      clear hg
      go_wp2_with fail
      refine (R.out _ _ (by omega) (by omega)).mono ?_
      rintro e w3 ⟨rfl, hg3⟩
      go_wp2_with fail
      go_roundw
      case rel => exact ⟨i - 1, by omega, by omega, rfl, rfl, gtrans HG.out hg3⟩
      case measure => simp [intOf]; omega

end Go.Proofs.YtmlnlkfdbbnkbaaGreatDoor.Feast

/- The document's answers: whether a window's span may be asked for, whether it begins on a day. Conditions: the numbers are ints, the window may be, as each theorem says. -/
namespace Go.Proofs.YtmlnlkfdbbnkbaaGreatDoor.Window
set_option maxRecDepth 100000
set_option maxRecDepth 100000
open Go.ChangeShapes Go.WideShapes Go.ChangeAt Go.RowKit
open Go.Proofs.YtmlnlkfdbbnkbaaGreatDoor.Divs Go.Proofs.YtmlnlkfdbbnkbaaGreatDoor.Grow
open Go.Proofs.YtmlnlkfdbbnkbaaGreatDoor.Greg (Laid)
open Go.Proofs.YtmlnlkfdbbnkbaaGreatDoor.Zo Go.Proofs.YtmlnlkfdbbnkbaaGreatDoor.Zone Go.Proofs.YtmlnlkfdbbnkbaaGreatDoor.Win
open Go.Proofs.YtmlnlkfdbbnkbaaGreatDoor.Cf (Cg Wn ce wo)
open Go.Proofs.YtmlnlkfdbbnkbaaGreatDoor.Conf (wc cc Is)
open Go.Proofs.YtmlnlkfdbbnkbaaGreatDoor.Fe (kd rst)
open Go.Proofs.YtmlnlkfdbbnkbaaGreatDoor.Su (mV mE sk sa)

set_option linter.unusedVariables false
open Go.Proofs.YtmlnlkfdbbnkbaaGreatDoor.Conf (At load_at)

theorem rchk_cfg (D : Array Value) (c : Cg) (x : Wn) (d : Int) (w : World) (hc : Is w D c) (h : ¬ ce c = 0) : Calls Tryz.prog 13 #[.agg D, .agg (wc x).toArray, .int .i64 d] w fun e w' => e = .returned (.int .i64 (pE c x d)) ∧ Later w w' := by
  have e0 : (ce c != 0) = true := by simpa using h
  rw [show pE c x d = ce c by unfold pE; rw [if_neg h]]
  have KC := Lib.hid (fun W (g : Later w W) => Conf.rcheck_of (hc.later g))
  have KW := Lib.hid (fun W => Conf.rwindow_any x W)
  have KD := Lib.hid (fun W => rday_any d W)
  have HZ := Lib.hid hc.size
  have HG0 := Lib.hid (((Later.refl w).alloc D 33).alloc (wc x).toArray 35)
  have HA0 := Lib.hid ((At.new w D 33).put (.cells (wc x).toArray 35))
  have HB0 := Lib.hid (At.new (w.alloc (.cells D 33)) (wc x).toArray 35)
  simp only [World.size_alloc] at HB0
  clear hc
  clear h
  generalize ce c = k at *
  unfold wc at HG0 HA0 HB0 ⊢
  go_enter Tryz.func13, Tryz.ntmps13
  go_wp2_with (refine load_at D HZ.out rfl (.tmp 3) rfl w.heap.size rfl HA0.out ?_)
  refine (KC.out _ HG0.out).mono ?_
  rintro e w1 ⟨rfl, hg1⟩
  have HG1 := Lib.hid (gtrans HG0.out hg1)
  clear hg1
  go_wp2_with fail
  go_ret
  exact ⟨rfl, HG1.out⟩

theorem rchk_win (D : Array Value) (c : Cg) (x : Wn) (d : Int) (w : World) (hc : Is w D c) (h : ce c = 0) (h2 : wo x = false) : Calls Tryz.prog 13 #[.agg D, .agg (wc x).toArray, .int .i64 d] w fun e w' => e = .returned (.int .i64 (pE c x d)) ∧ Later w w' := by
  have e0 : (ce c != 0) = false := by simpa using h
  rw [show pE c x d = 104 by unfold pE; rw [if_pos h, h2]; simp]
  have KC := Lib.hid (fun W (g : Later w W) => Conf.rcheck_of (hc.later g))
  have KW := Lib.hid (fun W => Conf.rwindow_any x W)
  have KD := Lib.hid (fun W => rday_any d W)
  have HZ := Lib.hid hc.size
  have HG0 := Lib.hid (((Later.refl w).alloc D 33).alloc (wc x).toArray 35)
  have HA0 := Lib.hid ((At.new w D 33).put (.cells (wc x).toArray 35))
  have HB0 := Lib.hid (At.new (w.alloc (.cells D 33)) (wc x).toArray 35)
  simp only [World.size_alloc] at HB0
  clear hc
  clear h
  generalize ce c = k at *
  unfold wc at HG0 HA0 HB0 ⊢
  go_enter Tryz.func13, Tryz.ntmps13
  go_wp2_with (refine load_at D HZ.out rfl (.tmp 3) rfl w.heap.size rfl HA0.out ?_)
  refine (KC.out _ HG0.out).mono ?_
  rintro e w1 ⟨rfl, hg1⟩
  have HG1 := Lib.hid (gtrans HG0.out hg1)
  have HB1' : Hid (w1.rangeAt (w.heap.size + 1) 0 (wc x)) := Lib.hid (fun j y hy => by rw [Nat.zero_add]; exact HB0.out.later hg1 j y (by simpa [wc] using hy))
  clear hg1
  go_wp2_with (refine Conf.load_win x rfl (.tmp 4) rfl (w.heap.size + 1) 0 rfl HB1'.out ?_)
  refine (KW.out _).mono ?_
  rintro e w2 ⟨rfl, hg2⟩
  have HG2 := Lib.hid (gtrans HG1.out hg2)
  clear hg2
  go_wp2_with fail
  go_ret
  exact ⟨rfl, HG2.out⟩

theorem rchk_day (D : Array Value) (c : Cg) (x : Wn) (d : Int) (w : World) (hc : Is w D c) (h : ce c = 0) (h2 : wo x = true) (hd : ¬ (402 ≤ d ∧ d ≤ 3651990)) : Calls Tryz.prog 13 #[.agg D, .agg (wc x).toArray, .int .i64 d] w fun e w' => e = .returned (.int .i64 (pE c x d)) ∧ Later w w' := by
  have e0 : (ce c != 0) = false := by simpa using h
  have e1 := wiB_not d 402 3651990 hd
  rw [show pE c x d = 140 by unfold pE; rw [if_pos h, h2]; simp; omega]
  have KC := Lib.hid (fun W (g : Later w W) => Conf.rcheck_of (hc.later g))
  have KW := Lib.hid (fun W => Conf.rwindow_any x W)
  have KD := Lib.hid (fun W => rday_any d W)
  have HZ := Lib.hid hc.size
  have HG0 := Lib.hid (((Later.refl w).alloc D 33).alloc (wc x).toArray 35)
  have HA0 := Lib.hid ((At.new w D 33).put (.cells (wc x).toArray 35))
  have HB0 := Lib.hid (At.new (w.alloc (.cells D 33)) (wc x).toArray 35)
  simp only [World.size_alloc] at HB0
  clear hc
  clear h hd
  generalize ce c = k at *
  unfold wc at HG0 HA0 HB0 ⊢
  go_enter Tryz.func13, Tryz.ntmps13
  go_wp2_with (refine load_at D HZ.out rfl (.tmp 3) rfl w.heap.size rfl HA0.out ?_)
  refine (KC.out _ HG0.out).mono ?_
  rintro e w1 ⟨rfl, hg1⟩
  have HG1 := Lib.hid (gtrans HG0.out hg1)
  have HB1' : Hid (w1.rangeAt (w.heap.size + 1) 0 (wc x)) := Lib.hid (fun j y hy => by rw [Nat.zero_add]; exact HB0.out.later hg1 j y (by simpa [wc] using hy))
  clear hg1
  go_wp2_with (refine Conf.load_win x rfl (.tmp 4) rfl (w.heap.size + 1) 0 rfl HB1'.out ?_)
  refine (KW.out _).mono ?_
  rintro e w2 ⟨rfl, hg2⟩
  have HG2 := Lib.hid (gtrans HG1.out hg2)
  clear hg2
  go_wp2_with fail
  refine (KD.out _).mono ?_
  rintro e w3 ⟨rfl, rfl⟩
  go_wp2_with fail
  go_ret
  exact ⟨rfl, HG2.out⟩

theorem rchk_yes (D : Array Value) (c : Cg) (x : Wn) (d : Int) (w : World) (hc : Is w D c) (h : ce c = 0) (h2 : wo x = true) (hd : 402 ≤ d ∧ d ≤ 3651990) : Calls Tryz.prog 13 #[.agg D, .agg (wc x).toArray, .int .i64 d] w fun e w' => e = .returned (.int .i64 (pE c x d)) ∧ Later w w' := by
  have e0 : (ce c != 0) = false := by simpa using h
  have e1 := (wiB_iff d 402 3651990).2 hd
  rw [show pE c x d = 0 from (pE_ok c x d).2 ⟨h, h2, hd.1, hd.2⟩]
  have KC := Lib.hid (fun W (g : Later w W) => Conf.rcheck_of (hc.later g))
  have KW := Lib.hid (fun W => Conf.rwindow_any x W)
  have KD := Lib.hid (fun W => rday_any d W)
  have HZ := Lib.hid hc.size
  have HG0 := Lib.hid (((Later.refl w).alloc D 33).alloc (wc x).toArray 35)
  have HA0 := Lib.hid ((At.new w D 33).put (.cells (wc x).toArray 35))
  have HB0 := Lib.hid (At.new (w.alloc (.cells D 33)) (wc x).toArray 35)
  simp only [World.size_alloc] at HB0
  clear hc
  clear h hd
  generalize ce c = k at *
  unfold wc at HG0 HA0 HB0 ⊢
  go_enter Tryz.func13, Tryz.ntmps13
  go_wp2_with (refine load_at D HZ.out rfl (.tmp 3) rfl w.heap.size rfl HA0.out ?_)
  refine (KC.out _ HG0.out).mono ?_
  rintro e w1 ⟨rfl, hg1⟩
  have HG1 := Lib.hid (gtrans HG0.out hg1)
  have HB1' : Hid (w1.rangeAt (w.heap.size + 1) 0 (wc x)) := Lib.hid (fun j y hy => by rw [Nat.zero_add]; exact HB0.out.later hg1 j y (by simpa [wc] using hy))
  clear hg1
  go_wp2_with (refine Conf.load_win x rfl (.tmp 4) rfl (w.heap.size + 1) 0 rfl HB1'.out ?_)
  refine (KW.out _).mono ?_
  rintro e w2 ⟨rfl, hg2⟩
  have HG2 := Lib.hid (gtrans HG1.out hg2)
  clear hg2
  go_wp2_with fail
  refine (KD.out _).mono ?_
  rintro e w3 ⟨rfl, rfl⟩
  go_wp2_with fail
  go_ret
  exact ⟨rfl, HG2.out⟩

theorem rchk_any (D : Array Value) (c : Cg) (x : Wn) (d : Int) (w : World) (hc : Is w D c) : Calls Tryz.prog 13 #[.agg D, .agg (wc x).toArray, .int .i64 d] w fun e w' => e = .returned (.int .i64 (pE c x d)) ∧ Later w w' := by
  by_cases h : ce c = 0
  · cases h2 : wo x
    · exact rchk_win D c x d w hc h h2
    · by_cases hd : 402 ≤ d ∧ d ≤ 3651990
      · exact rchk_yes D c x d w hc h h2 hd
      · exact rchk_day D c x d w hc h h2 hd
  · exact rchk_cfg D c x d w hc h

theorem is_abroad {w : World} {D : Array Value} {c : Cg} (h : Is w D c) : D[35]? = some (.bool c.ab) := by
  obtain ⟨u, v, rfl, _, _⟩ := h
  rfl

theorem rbegins_weekly (D : Array Value) (c : Cg) (x : Wn) (d : Int) (w : World) (hc : Is w D c) (hk : x.k = 1) (d0 : 0 ≤ d) (d1 : d ≤ 10000000) (ha : 0 ≤ x.a) : Calls Tryz.prog 29 #[.agg D, .agg (wc x).toArray, .int .i64 d] w fun e w' => e = .returned (.bool (bit x.a d)) ∧ Later w w' := by
  have t1 : (x.k == 1) = true := by simp; omega
  have t2 : (x.k == 2) = false := by simp; omega
  have t3 : (x.k == 3) = false := by simp; omega
  have W7 := Lib.hid (fun W => drew_g (Feast.rweekday_any d W (by omega) (by omega)))
  have k0 : 0 ≤ d % 7 := by omega
  have k1 : d % 7 ≤ 6 := by omega
  have HV := Lib.hid (show bit x.a d = (x.a / 2 ^ (d % 7).toNat % 2 == 1) from rfl)
  have hm : 0 ≤ x.a / 2 ^ (d % 7).toNat := Int.ediv_nonneg ha (Int.pow_nonneg (by omega))
  have hw : IntKind.u64.wrap (d % 7) = d % 7 := IntWalk.u64_in _ (by omega)
  have htm : (x.a / 2 ^ (d % 7).toNat).tmod 2 = x.a / 2 ^ (d % 7).toNat % 2 := Int.tmod_eq_emod_of_nonneg hm
  generalize d % 7 = q at *
  clear hk d0 d1
  have HZ := Lib.hid hc.size
  have HC := Lib.hid (is_abroad hc)
  have HG0 := Lib.hid (((Later.refl w).alloc D 33).alloc (wc x).toArray 35)
  have HA0 := Lib.hid ((At.new w D 33).put (.cells (wc x).toArray 35))
  have HB0 := Lib.hid (At.new (w.alloc (.cells D 33)) (wc x).toArray 35)
  simp only [World.size_alloc] at HB0
  clear hc
  unfold wc at HG0 HB0 ⊢
  go_enter Tryz.func29, Tryz.ntmps29
  have c3 := gw_cell (HB0.out 3 _ rfl)
  go_wp2_with fail
  refine region_grown (by kernel_rfl) (by kernel_rfl) ?_
  repeat (go_big_quiet_step ((go_at_call 51; exact in_grown (W7.out _))))
  refine wpQuiet_nil (grown_end ?_)
  intro w2 hg2
  clear c3
  go_wp2_with fail
  go_ret
  exact ⟨retb HV.out.symm, gtrans HG0.out hg2⟩

theorem rbegins_dated (D : Array Value) (c : Cg) (x : Wn) (d : Int) (w : World) (hc : Is w D c) (hk : x.k = 2)  : Calls Tryz.prog 29 #[.agg D, .agg (wc x).toArray, .int .i64 d] w fun e w' => e = .returned (.bool (x.a == d)) ∧ Later w w' := by
  have t1 : (x.k == 1) = false := by simp; omega
  have t2 : (x.k == 2) = true := by simp; omega
  have t3 : (x.k == 3) = false := by simp; omega
  clear hk
  have HZ := Lib.hid hc.size
  have HC := Lib.hid (is_abroad hc)
  have HG0 := Lib.hid (((Later.refl w).alloc D 33).alloc (wc x).toArray 35)
  have HA0 := Lib.hid ((At.new w D 33).put (.cells (wc x).toArray 35))
  have HB0 := Lib.hid (At.new (w.alloc (.cells D 33)) (wc x).toArray 35)
  simp only [World.size_alloc] at HB0
  clear hc
  unfold wc at HG0 HB0 ⊢
  go_enter Tryz.func29, Tryz.ntmps29
  go_wp2_with fail
  go_ret
  exact ⟨rfl, HG0.out⟩

theorem rbegins_festive (D : Array Value) (c : Cg) (x : Wn) (d : Int) (w : World) (hc : Is w D c) (hk : x.k = 3) (d0 : 0 ≤ d) (d1 : d ≤ 10000000) (h0 : -7 ≤ x.h) (h1 : x.h ≤ 7) : Calls Tryz.prog 29 #[.agg D, .agg (wc x).toArray, .int .i64 d] w fun e w' => e = .returned (.bool (kd c.ab (d - x.h) == x.a)) ∧ Later w w' := by
  have t1 : (x.k == 1) = false := by simp; omega
  have t2 : (x.k == 2) = false := by simp; omega
  have t3 : (x.k == 3) = true := by simp; omega
  have K := Lib.hid (fun W => Feast.rkind_any (d - x.h) c.ab W)
  have wr : IntKind.i64.wrap (d - x.h) = d - x.h := IntWalk.i64_in _ (by omega)
  clear hk
  have HZ := Lib.hid hc.size
  have HC := Lib.hid (is_abroad hc)
  have HG0 := Lib.hid (((Later.refl w).alloc D 33).alloc (wc x).toArray 35)
  have HA0 := Lib.hid ((At.new w D 33).put (.cells (wc x).toArray 35))
  have HB0 := Lib.hid (At.new (w.alloc (.cells D 33)) (wc x).toArray 35)
  simp only [World.size_alloc] at HB0
  clear hc
  unfold wc at HG0 HB0 ⊢
  go_enter Tryz.func29, Tryz.ntmps29
  have c3 := gw_cell (HB0.out 3 _ rfl)
  have c4 := gw_cell (HB0.out 4 _ rfl)
  have c0 := gw_cell (HB0.out 0 _ rfl)
  have c35 := gw_cell (HA0.out 35 _ HC.out)
  unfold wc at c35
  go_wp2_with fail
  refine region_grown (by kernel_rfl) (by kernel_rfl) ?_
  repeat (go_big_quiet_step ((go_at_call 52; exact in_grown (K.out _))))
  refine wpQuiet_nil (grown_end ?_)
  intro w2 hg2
  clear c0 c3 c4 c35
  go_wp2_with fail
  go_ret
  exact ⟨rfl, gtrans HG0.out hg2⟩

end Go.Proofs.YtmlnlkfdbbnkbaaGreatDoor.Window
