/-
  The document's answer for layer 5: a date's feast, a day's feast, days of rest, the days of rest that touch. Conditions: the numbers are ints, as each theorem says.
-/
import Derived.Test.YtdoahnkjkbpdaaaFr
import Derived.Test.YtdoahnkjkbpdaaaRo
namespace Go.Proofs.Ytdoahnkjkbpdaaa.Feast
open Go.ChangeShapes Go.WideShapes Go.ChangeAt Go.RowKit
open Go.Proofs.Ytdoahnkjkbpdaaa.Divs Go.Proofs.Ytdoahnkjkbpdaaa.Grow Go.Proofs.Ytdoahnkjkbpdaaa.Mol Go.Proofs.Ytdoahnkjkbpdaaa.Hebrew
open Go.Proofs.Ytdoahnkjkbpdaaa.Year (lh mh pt md mp p1 p2 po dl ny yl)
open Go.Proofs.Ytdoahnkjkbpdaaa.Heb (hd ha ups)
open Go.Proofs.Ytdoahnkjkbpdaaa.Fe

set_option maxHeartbeats 1000000 in
theorem rtishri_any (d : Int) (ab : Bool) (w : World) : Calls Try.prog 46 #[.int .i64 d, .bool ab] w fun e w' => e = .returned (.int .i64 (fk ab 1 d)) ∧ w = w' := by
  by_cases c : d = 1 ∨ d = 2 ∨ d = 10 ∨ d = 15 ∨ d = 16 ∨ d = 22 ∨ d = 23
  · rcases c with rfl | rfl | rfl | rfl | rfl | rfl | rfl <;> cases ab <;>
      (go_enter Try.func46, Try.ntmps46
       go_wp2
       go_ret
       exact ⟨ret1 (by simp [fk]), rfl⟩)
  · have t1 : (d == 1) = false := by simp; omega
    have t2 : (d == 2) = false := by simp; omega
    have t3 : (d == 10) = false := by simp; omega
    have t4 : (d == 15) = false := by simp; omega
    have t5 : (d == 16) = false := by simp; omega
    have t6 : (d == 22) = false := by simp; omega
    have t7 : (d == 23) = false := by simp; omega
    have Z := Lib.hid (show 0 = fk ab 1 d by unfold fk; rw [if_pos rfl, if_neg (by omega), if_neg (by omega), if_neg (by omega), if_neg (by omega)])
    clear c
    cases ab <;>
      (go_enter Try.func46, Try.ntmps46
       go_wp2
       go_ret
       exact ⟨ret1 Z.out, rfl⟩)

set_option maxHeartbeats 1000000 in
theorem rof8_15 (y : Int) (ab : Bool) (w : World) : Calls Try.prog 26 #[.agg #[.int .i64 y, .int .i64 8, .int .i64 15], .bool ab] w fun e w' => e = .returned (.int .i64 (fk ab 8 15)) ∧ Later w w' := by
  have L1 := Lib.hid ((Later.refl w).alloc #[.int .i64 y, .int .i64 8, .int .i64 15] 43)
  cases ab <;>
    (go_enter Try.func26, Try.ntmps26
     go_wp2
     go_ret
     exact ⟨ret1 (by simp [fk]), L1.out⟩)

set_option maxHeartbeats 1000000 in
theorem rof8_16 (y : Int) (ab : Bool) (w : World) : Calls Try.prog 26 #[.agg #[.int .i64 y, .int .i64 8, .int .i64 16], .bool ab] w fun e w' => e = .returned (.int .i64 (fk ab 8 16)) ∧ Later w w' := by
  have L1 := Lib.hid ((Later.refl w).alloc #[.int .i64 y, .int .i64 8, .int .i64 16] 43)
  cases ab <;>
    (go_enter Try.func26, Try.ntmps26
     go_wp2
     go_ret
     exact ⟨ret1 (by simp [fk]), L1.out⟩)

set_option maxHeartbeats 1000000 in
theorem rof8_21 (y : Int) (ab : Bool) (w : World) : Calls Try.prog 26 #[.agg #[.int .i64 y, .int .i64 8, .int .i64 21], .bool ab] w fun e w' => e = .returned (.int .i64 (fk ab 8 21)) ∧ Later w w' := by
  have L1 := Lib.hid ((Later.refl w).alloc #[.int .i64 y, .int .i64 8, .int .i64 21] 43)
  cases ab <;>
    (go_enter Try.func26, Try.ntmps26
     go_wp2
     go_ret
     exact ⟨ret1 (by simp [fk]), L1.out⟩)

set_option maxHeartbeats 1000000 in
theorem rof8_22 (y : Int) (ab : Bool) (w : World) : Calls Try.prog 26 #[.agg #[.int .i64 y, .int .i64 8, .int .i64 22], .bool ab] w fun e w' => e = .returned (.int .i64 (fk ab 8 22)) ∧ Later w w' := by
  have L1 := Lib.hid ((Later.refl w).alloc #[.int .i64 y, .int .i64 8, .int .i64 22] 43)
  cases ab <;>
    (go_enter Try.func26, Try.ntmps26
     go_wp2
     go_ret
     exact ⟨ret1 (by simp [fk]), L1.out⟩)

set_option maxHeartbeats 1000000 in
theorem rof10_6 (y : Int) (ab : Bool) (w : World) : Calls Try.prog 26 #[.agg #[.int .i64 y, .int .i64 10, .int .i64 6], .bool ab] w fun e w' => e = .returned (.int .i64 (fk ab 10 6)) ∧ Later w w' := by
  have L1 := Lib.hid ((Later.refl w).alloc #[.int .i64 y, .int .i64 10, .int .i64 6] 43)
  cases ab <;>
    (go_enter Try.func26, Try.ntmps26
     go_wp2
     go_ret
     exact ⟨ret1 (by simp [fk]), L1.out⟩)

set_option maxHeartbeats 1000000 in
theorem rof10_7 (y : Int) (ab : Bool) (w : World) : Calls Try.prog 26 #[.agg #[.int .i64 y, .int .i64 10, .int .i64 7], .bool ab] w fun e w' => e = .returned (.int .i64 (fk ab 10 7)) ∧ Later w w' := by
  have L1 := Lib.hid ((Later.refl w).alloc #[.int .i64 y, .int .i64 10, .int .i64 7] 43)
  cases ab <;>
    (go_enter Try.func26, Try.ntmps26
     go_wp2
     go_ret
     exact ⟨ret1 (by simp [fk]), L1.out⟩)

set_option maxHeartbeats 1000000 in
theorem rof8_else (y d : Int) (ab : Bool) (h : d ≠ 15 ∧ d ≠ 16 ∧ d ≠ 21 ∧ d ≠ 22) (w : World) : Calls Try.prog 26 #[.agg #[.int .i64 y, .int .i64 8, .int .i64 d], .bool ab] w fun e w' => e = .returned (.int .i64 (fk ab 8 d)) ∧ Later w w' := by
  have t15 : (d == 15) = false := by simp; omega
  have t16 : (d == 16) = false := by simp; omega
  have t21 : (d == 21) = false := by simp; omega
  have t22 : (d == 22) = false := by simp; omega
  have Z := Lib.hid (show 0 = fk ab 8 d by unfold fk; rw [if_neg (by omega), if_pos rfl, if_neg (by omega), if_neg (by omega)])
  clear h
  have L1 := Lib.hid ((Later.refl w).alloc #[.int .i64 y, .int .i64 8, .int .i64 d] 43)
  cases ab <;>
    (go_enter Try.func26, Try.ntmps26
     go_wp2
     go_ret
     exact ⟨ret1 Z.out, L1.out⟩)

set_option maxHeartbeats 1000000 in
theorem rof10_else (y d : Int) (ab : Bool) (h : d ≠ 6 ∧ d ≠ 7) (w : World) : Calls Try.prog 26 #[.agg #[.int .i64 y, .int .i64 10, .int .i64 d], .bool ab] w fun e w' => e = .returned (.int .i64 (fk ab 10 d)) ∧ Later w w' := by
  have t6 : (d == 6) = false := by simp; omega
  have t7 : (d == 7) = false := by simp; omega
  have Z := Lib.hid (show 0 = fk ab 10 d by unfold fk; rw [if_neg (by omega), if_neg (by omega), if_pos rfl, if_neg (by omega)])
  clear h
  have L1 := Lib.hid ((Later.refl w).alloc #[.int .i64 y, .int .i64 10, .int .i64 d] 43)
  cases ab <;>
    (go_enter Try.func26, Try.ntmps26
     go_wp2
     go_ret
     exact ⟨ret1 Z.out, L1.out⟩)

set_option maxHeartbeats 1000000 in
theorem rof_else (y m d : Int) (ab : Bool) (h : m ≠ 1 ∧ m ≠ 8 ∧ m ≠ 10) (w : World) : Calls Try.prog 26 #[.agg #[.int .i64 y, .int .i64 m, .int .i64 d], .bool ab] w fun e w' => e = .returned (.int .i64 (fk ab m d)) ∧ Later w w' := by
  have t1 : (m == 1) = false := by simp; omega
  have t8 : (m == 8) = false := by simp; omega
  have t10 : (m == 10) = false := by simp; omega
  have Z := Lib.hid (fk_else ab m d h.1 h.2.1 h.2.2).symm
  clear h
  have L1 := Lib.hid ((Later.refl w).alloc #[.int .i64 y, .int .i64 m, .int .i64 d] 43)
  cases ab <;>
    (go_enter Try.func26, Try.ntmps26
     go_wp2
     go_ret
     exact ⟨ret1 Z.out, L1.out⟩)

theorem rof1 (y d : Int) (ab : Bool) (w : World) : Calls Try.prog 26 #[.agg #[.int .i64 y, .int .i64 1, .int .i64 d], .bool ab] w fun e w' => e = .returned (.int .i64 (fk ab 1 d)) ∧ Later w w' := by
  have L1 := Lib.hid ((Later.refl w).alloc #[.int .i64 y, .int .i64 1, .int .i64 d] 43)
  have T := Lib.hid (fun W => rtishri_any d ab W)
  go_enter Try.func26, Try.ntmps26
  go_wp2_with fail
  refine (T.out _).mono ?_
  rintro e w1 ⟨rfl, rfl⟩
  go_wp2_with fail
  go_ret
  exact ⟨rfl, L1.out⟩

theorem rfeast_any (y m d : Int) (ab : Bool) (w : World) : Calls Try.prog 26 #[.agg #[.int .i64 y, .int .i64 m, .int .i64 d], .bool ab] w fun e w' => e = .returned (.int .i64 (fk ab m d)) ∧ Later w w' := by
  by_cases c1 : m = 1
  · subst c1; exact rof1 y d ab w
  · by_cases c8 : m = 8
    · subst c8
      by_cases d1 : d = 15
      · subst d1; exact rof8_15 y ab w
      · by_cases d2 : d = 16
        · subst d2; exact rof8_16 y ab w
        · by_cases d3 : d = 21
          · subst d3; exact rof8_21 y ab w
          · by_cases d4 : d = 22
            · subst d4; exact rof8_22 y ab w
            · exact rof8_else y d ab ⟨d1, d2, d3, d4⟩ w
    · by_cases c10 : m = 10
      · subst c10
        by_cases d1 : d = 6
        · subst d1; exact rof10_6 y ab w
        · by_cases d2 : d = 7
          · subst d2; exact rof10_7 y ab w
          · exact rof10_else y d ab ⟨d1, d2⟩ w
      · exact rof_else y m d ab ⟨c1, c8, c10⟩ w

theorem rhas_any (n : Int) (w : World) : Calls Try.prog 25 #[.int .i64 n] w fun e w' => e = .returned (.bool (decide (ny 3762 ≤ n ∧ n < ny 10000))) ∧ Later w w' := by
  have F := Lib.hid rfirst_any
  have L := Lib.hid rlast_any
  have b1 := Year.ny_bd 10000 (by omega) (by omega)
  by_cases c1 : ny 3762 ≤ n
  · have t1 : decide (ny 3762 ≤ n) = true := by simp [c1]
    have E := Lib.hid (show decide (n ≤ ny 10000 - 1) = decide (ny 3762 ≤ n ∧ n < ny 10000) by
      by_cases c2 : n < ny 10000
      · rw [decide_eq_true (by omega), decide_eq_true (by omega)]
      · rw [decide_eq_false (by omega), decide_eq_false (by omega)])
    go_enter Try.func25, Try.ntmps25
    go_wp2_with fail
    refine (F.out _).mono ?_
    rintro e w1 ⟨rfl, hg1⟩
    go_wp2_with fail
    refine (L.out _).mono ?_
    rintro e w2 ⟨rfl, hg2⟩
    go_wp2_with fail
    go_ret
    exact ⟨retbool E.out, gtrans hg1 hg2⟩
  · have t1 : decide (ny 3762 ≤ n) = false := by simpa using c1
    have E := Lib.hid (show false = decide (ny 3762 ≤ n ∧ n < ny 10000) from (decide_eq_false (by omega)).symm)
    go_enter Try.func25, Try.ntmps25
    go_wp2_with fail
    refine (F.out _).mono ?_
    rintro e w1 ⟨rfl, hg1⟩
    go_wp2_with fail
    go_ret
    exact ⟨retbool E.out, hg1⟩

theorem rkind_any (n : Int) (ab : Bool) (w : World) : Calls Try.prog 12 #[.int .i64 n, .bool ab] w fun e w' => e = .returned (.int .i64 (kd ab n)) ∧ Later w w' := by
  have H := Lib.hid (fun W => rhas_any n W)
  by_cases ho : n < ny 3762 ∨ ny 10000 ≤ n
  · rw [decide_eq_false (by omega)] at H
    have E := Lib.hid (kd_out ab n ho).symm
    clear ho
    go_enter Try.func12, Try.ntmps12
    go_wp2_with fail
    refine (H.out _).mono ?_
    rintro e w1 ⟨rfl, hg1⟩
    go_wp2_with fail
    go_ret
    exact ⟨ret1 E.out, hg1⟩
  · rw [decide_eq_true (by omega)] at H
    obtain ⟨h, m, y1, y2, a1, a2, m1, m2, g1, g2⟩ := dt_ex n (by omega) (by omega)
    have O := Lib.hid (fun W => rof_any n h m W y1 y2 a1 a2 m1 m2 g1 g2)
    have E := Lib.hid (kd_dt ab n _ _ _ (dt_of n h m y1 y2 m1 m2 g1 g2)).symm
    have F := Lib.hid (fun W => rfeast_any h m (n - ny h - ha (yl h) (lh h) m + 1) ab W)
    clear ho a1 a2 g1 g2 m1 m2 y1 y2
    go_enter Try.func12, Try.ntmps12
    go_wp2_with fail
    refine (H.out _).mono ?_
    rintro e w1 ⟨rfl, hg1⟩
    go_wp2_with fail
    refine (O.out _).mono ?_
    rintro e w2 ⟨rfl, hg2⟩
    go_wp2_with fail
    refine (F.out _).mono ?_
    rintro e w3 ⟨rfl, hg3⟩
    go_wp2_with fail
    go_ret
    exact ⟨ret1 E.out, gtrans (gtrans hg1 hg2) hg3⟩

theorem rweekday_any (n : Int) (w : World) (h0 : -9223372036854775808 ≤ n) (h1 : n ≤ 9223372036854775807) : Calls Try.prog 29 #[.int .i64 n] w fun e w' => e = .returned (.int .i64 (n % 7)) ∧ ∃ k, w' = w.drewN k := by
  have M := Lib.hid (fun W => rmod_any n 7 W h0 h1 (by omega) (by omega))
  go_enter Try.func29, Try.ntmps29
  go_wp2_with fail
  refine (M.out _).mono ?_
  rintro e w1 ⟨rfl, k, rfl⟩
  go_wp2_with fail
  go_ret
  exact ⟨rfl, _, rfl⟩

set_option maxHeartbeats 1000000 in
theorem rrest_any (n : Int) (ab : Bool) (w : World) (h0 : -9223372036854775808 ≤ n) (h1 : n ≤ 9223372036854775807) : Calls Try.prog 14 #[.int .i64 n, .bool ab] w fun e w' => e = .returned (.bool (rst ab n)) ∧ Later w w' := by
  have H := Lib.hid (fun W => rhas_any n W)
  have W7 := Lib.hid (fun W => rweekday_any n W h0 h1)
  have K := Lib.hid (fun W => rkind_any n ab W)
  have E := Lib.hid (show rst ab n = (decide (ny 3762 ≤ n ∧ n < ny 10000) && (decide (n % 7 = 6) || decide (kd ab n ≠ 0))) from rfl)
  by_cases ho : ny 3762 ≤ n ∧ n < ny 10000
  · rw [decide_eq_true ho] at H E
    clear ho
    by_cases hs : n % 7 = 6
    · rw [decide_eq_true hs] at E
      have t : (n % 7 == 6) = true := by simp [hs]
      clear hs
      go_enter Try.func14, Try.ntmps14
      go_wp2_with fail
      refine (H.out _).mono ?_
      rintro e w1 ⟨rfl, hg1⟩
      go_wp2_with fail
      refine (W7.out _).mono ?_
      rintro e w2 ⟨rfl, k, rfl⟩
      go_wp2_with fail
      go_ret
      exact ⟨retbool (by rw [E.out]; rfl), hg1⟩
    · rw [decide_eq_false hs] at E
      have t : (n % 7 == 6) = false := by simp [hs]
      clear hs
      go_enter Try.func14, Try.ntmps14
      go_wp2_with fail
      refine (H.out _).mono ?_
      rintro e w1 ⟨rfl, hg1⟩
      go_wp2_with fail
      refine (W7.out _).mono ?_
      rintro e w2 ⟨rfl, k, rfl⟩
      go_wp2_with fail
      refine (K.out _).mono ?_
      rintro e w3 ⟨rfl, hg3⟩
      go_wp2_with fail
      go_ret
      refine ⟨retbool ?_, gtrans (gtrans hg1 (later_drewN _ k)) hg3⟩
      rw [E.out]
      by_cases z : kd ab n = 0 <;> simp [z]
  · rw [decide_eq_false ho] at H E
    clear ho
    go_enter Try.func14, Try.ntmps14
    go_wp2_with fail
    refine (H.out _).mono ?_
    rintro e w1 ⟨rfl, hg1⟩
    go_wp2_with fail
    go_ret
    exact ⟨retbool (by rw [E.out]; rfl), hg1⟩

theorem row2 {X : World} {b : Nat} {t : TypeId} {fr : Nat × Nat} {u0 u1 v0 v1 : Value} (h : X.heap[b]? = some (.cells #[u0, u1] t fr)) :
    ((X.setCell ⟨b, 0, none⟩ v0).setCell ⟨b, 1, none⟩ v1).heap[b]? = some (.cells #[v0, v1] t fr) :=
  row_set (row_set h)

def Lo (ab : Bool) (a n : Int) (w : World) (x y : Value) (wr : World) : Prop := ∃ i : Int, a ≤ i ∧ i ≤ n ∧ x = .int .i64 i ∧ y = .bool (rst ab (i - 1)) ∧ Later w wr
def Up (ab : Bool) (b n : Int) (w : World) (x y : Value) (wr : World) : Prop := ∃ i : Int, n ≤ i ∧ i ≤ b ∧ x = .int .i64 i ∧ y = .bool (rst ab (i + 1)) ∧ Later w wr

set_option maxHeartbeats 2000000 in
theorem rrun_any (n a b : Int) (ab : Bool) (w : World) (h : Row ab n a b) : Calls Try.prog 20 #[.int .i64 n, .bool ab] w fun e w' => e = .returned (.agg #[.int .i64 a, .int .i64 b]) ∧ Later w w' := by
  have rl := row_len ab n a b h
  obtain ⟨x1, x2, x3, x4, x5⟩ := h
  have hn := x3 n x1 x2
  obtain ⟨n0, n1, _⟩ := (rst_iff ab n).1 hn
  have b1 := Year.ny_bd 3762 (by omega) (by omega)
  have b2 := Year.ny_bd 10000 (by omega) (by omega)
  have nb : -10000000 ≤ n ∧ n ≤ 10000000 := by omega
  have R := Lib.hid (fun i W (h0 : -20000000 ≤ i) (h1 : i ≤ 20000000) => rrest_any i ab W (by omega) (by omega))
  have X3 := Lib.hid x3
  have X4 := Lib.hid x4
  have X5 := Lib.hid x5
  clear x3 x4 x5 hn n0 n1 b1 b2
  go_enter Try.func20, Try.ntmps20
  go_wp2_with fail
  refine (R.out _ _ (by omega) (by omega)).mono ?_
  rintro e w1 ⟨rfl, hg1⟩
  go_wp2_with fail
  go_loopw [5, 7] (fun x y wr => Lo ab a n (w.alloc (.cells #[.int .i64 0, .int .i64 0] 35)) x y wr) (fun x _ _ => (intOf x - a).toNat)
  case atStart => exact ⟨n, by omega, by omega, rfl, rfl, hg1⟩
  case round =>
    obtain ⟨i, i1, i2, rfl, rfl, hg⟩ := hrel
    by_cases c : i = a
    · subst c
      have HG := Lib.hid hg
      rw [X4.out]
      clear hg
      go_wp2_with fail
      refine (R.out _ _ (by omega) (by omega)).mono ?_
      rintro e w2 ⟨rfl, hg2⟩
      have HG2 := Lib.hid (gtrans HG.out hg2)
      clear hg2
      go_wp2_with fail
      go_loopw [6, 7] (fun x y wr => Up ab b n (w.alloc (.cells #[.int .i64 0, .int .i64 0] 35)) x y wr) (fun x _ _ => (b - intOf x).toNat)
      case atStart => exact ⟨n, by omega, by omega, rfl, rfl, HG2.out⟩
      case round =>
        obtain ⟨j, j1, j2, rfl, rfl, hgj⟩ := hrel
        by_cases c : j = b
        · subst c
          rw [X5.out]
          have c0 := cell4 hgj 0 rfl
          have c1 := cell4 hgj 1 rfl
          have f0 := froz4 hgj 0
          have f1 := froz4 hgj 1
          have HGJ := Lib.hid hgj
          clear hgj
          go_wp2_with fail
          refine bodyPost_ret (v := .agg #[.int .i64 i, .int .i64 j]) ?_ rfl ⟨rfl, ?_⟩
          · exact results_cell_row (P := Try.prog) (fn := Try.f20) Try.results20 _ _ w.heap.size 35 _ (0, 0) _ rfl (row2 (heap_late HGJ.out)) Try.underlying35 rfl (by kernel_rfl)
          exact ((gtrans ((Later.refl w).alloc _ _) HGJ.out).setCell (Nat.le_refl _) _).setCell (Nat.le_refl _) _
        · rw [X3.out (j + 1) (by omega) (by omega)]
          have HGJ := Lib.hid hgj
          clear hgj
          go_wp2_with fail
          refine (R.out _ _ (by omega) (by omega)).mono ?_
          rintro e w3 ⟨rfl, hg3⟩
          go_wp2_with fail
          go_roundw
          case rel => exact ⟨j + 1, by omega, by omega, rfl, rfl, gtrans HGJ.out hg3⟩
          case measure => simp [intOf]; omega
    · rw [X3.out (i - 1) (by omega) (by omega)]
      have HG := Lib.hid hg
      clear hg
      go_wp2_with fail
      refine (R.out _ _ (by omega) (by omega)).mono ?_
      rintro e w3 ⟨rfl, hg3⟩
      go_wp2_with fail
      go_roundw
      case rel => exact ⟨i - 1, by omega, by omega, rfl, rfl, gtrans HG.out hg3⟩
      case measure => simp [intOf]; omega

end Go.Proofs.Ytdoahnkjkbpdaaa.Feast
