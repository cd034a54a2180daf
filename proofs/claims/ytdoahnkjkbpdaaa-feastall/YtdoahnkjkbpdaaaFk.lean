/-
  A day's feast and whether it is one of rest, by the program: its questions, made as function values over a map, and who asks them. Conditions: the numbers are ints, as each theorem says.
-/
import Derived.Test.YtdoahnkjkbpdaaaFs
import Derived.Laws.EntriesVeiled
namespace Go.Proofs.Ytdoahnkjkbpdaaa.Feast
open Go.ChangeShapes Go.WideShapes Go.ChangeAt Go.RowKit
open Go.Proofs.Ytdoahnkjkbpdaaa.Divs Go.Proofs.Ytdoahnkjkbpdaaa.Grow Go.Proofs.Ytdoahnkjkbpdaaa.Mol Go.Proofs.Ytdoahnkjkbpdaaa.Hebrew
open Go.Proofs.Ytdoahnkjkbpdaaa.Year (lh mh pt md mp p1 p2 po dl ny yl)
open Go.Proofs.Ytdoahnkjkbpdaaa.Heb (hd ha ups)
open Go.Proofs.Ytdoahnkjkbpdaaa.Fe

/-- Box b holds the map of the feasts' days. -/
def KB (w : World) (b : Nat) (ab : Bool) : Prop := ∃ c, w.cell? ⟨b, 0, none⟩ = some (.map (some c)) ∧ FMap w c (fk ab)

theorem KB.later {w w' : World} {b : Nat} {ab : Bool} (h : KB w b ab) (g : Later w w') : KB w' b ab := by
  obtain ⟨c, h1, h2⟩ := h
  exact ⟨c, gsome g h1, h2.later g⟩

theorem KB.lt {w : World} {b : Nat} {ab : Bool} (h : KB w b ab) : b < w.heap.size := by
  obtain ⟨c, h1, h2⟩ := h
  exact World.block_lt_of_cell? _ _ h1

/-- The question of a day's feast. -/
def kq (b : Nat) : Value := .func (.func 43) #[] #[.pointer (some ⟨b, 0, none⟩)]

theorem kinds_any (ab : Bool) (w : World) : Calls Try.prog 24 #[.bool ab] w fun e w' => ∃ b, e = .returned (.func (.func 43) #[] #[.pointer (some ⟨b, 0, none⟩)]) ∧ w.heap.size ≤ b ∧ KB w' b ab ∧ Later w w' := by
  have F := Lib.hid (fun W => feasts_any ab W)
  go_enter Try.func24, Try.ntmps24
  go_wp2_with fail
  refine (F.out _).mono ?_
  rintro e w1 ⟨rfl, hF, hg1⟩
  have HF := Lib.hid hF
  have HG := Lib.hid hg1
  clear hF hg1
  go_wp2_with fail
  go_ret
  refine ⟨w1.heap.size, rfl, HG.out.size, ⟨w.heap.size, ?_, HF.out.later ((Later.refl w1).put _)⟩, HG.out.put _⟩
  exact cell4 (Later.refl _) 0 rfl

theorem kinds1_any (y m d : Int) (b : Nat) (ab : Bool) (w : World) (h : KB w b ab) :
    Calls Try.prog 43 #[.agg #[.int .i64 y, .int .i64 m, .int .i64 d], .pointer (some ⟨b, 0, none⟩)] w fun e w' => e = .returned (.int .i64 (fk ab m d)) ∧ Later w w' := by
  obtain ⟨c, h1, h2⟩ := h
  have L1 := (Later.refl w).alloc #[.int .i64 y, .int .i64 m, .int .i64 d] 43
  have r := (h2.later L1).lookup m d
  have c1 := gsome L1 h1
  have HL := Lib.hid L1
  clear L1 h1 h2
  go_enter Try.func43, Try.ntmps43
  go_wp2_with fail
  go_ret
  exact ⟨rfl, HL.out⟩

theorem weekday_any (n : Int) (w : World) (h0 : -9223372036854775808 ≤ n) (h1 : n ≤ 9223372036854775807) : Calls Try.prog 22 #[.int .i64 n] w fun e w' => e = .returned (.int .i64 (n % 7)) ∧ ∃ k, w' = w.drewN k := by
  have M := Lib.hid (fun W => mod_yes n 7 W h0 h1 (by omega) (by omega))
  go_enter Try.func22, Try.ntmps22
  go_wp2_with fail
  refine (M.out _).mono ?_
  rintro e w1 ⟨rfl, k, rfl⟩
  go_wp2_with fail
  go_ret
  exact ⟨rfl, _, rfl⟩

/-- Box r holds the question of a day's feast. -/
def RB (w : World) (r : Nat) (ab : Bool) : Prop := ∃ b, w.cell? ⟨r, 0, none⟩ = some (.func (.func 43) #[] #[.pointer (some ⟨b, 0, none⟩)]) ∧ KB w b ab

theorem RB.later {w w' : World} {b : Nat} {ab : Bool} (h : RB w b ab) (g : Later w w') : RB w' b ab := by
  obtain ⟨c, h1, h2⟩ := h
  exact ⟨c, gsome g h1, h2.later g⟩

theorem RB.lt {w : World} {b : Nat} {ab : Bool} (h : RB w b ab) : b < w.heap.size := by
  obtain ⟨c, h1, h2⟩ := h
  exact World.block_lt_of_cell? _ _ h1

theorem rests_any (ab : Bool) (w : World) : Calls Try.prog 28 #[.bool ab] w fun e w' => ∃ r, e = .returned (.func (.func 49) #[] #[.pointer (some ⟨r, 0, none⟩)]) ∧ w.heap.size ≤ r ∧ RB w' r ab ∧ Later w w' := by
  have F := Lib.hid (fun W => kinds_any ab W)
  go_enter Try.func28, Try.ntmps28
  go_wp2_with fail
  refine (F.out _).mono ?_
  rintro e w1 ⟨b, rfl, hb, hF, hg1⟩
  have HF := Lib.hid hF
  have HG := Lib.hid hg1
  clear hF hg1
  go_wp2_with fail
  go_ret
  refine ⟨w1.heap.size, rfl, HG.out.size, ⟨b, ?_, HF.out.later ((Later.refl w1).put _)⟩, HG.out.put _⟩
  exact cell4 (Later.refl _) 0 rfl

theorem of_none (n : Int) (w : World) (h : n < ny 3762 ∨ ny 10000 ≤ n) : Calls Try.prog 23 #[.int .i64 n] w fun e w' => e = .returned (.tuple #[.agg #[.int .i64 0, .int .i64 0, .int .i64 0], .int .i64 41]) ∧ Later w w' := by
  by_cases h1 : n < ny 3762
  · exact of_early n w h1
  · exact of_late n w (by omega) (by omega)

theorem retbool {a b : Bool} (h : a = b) : Ending.returned (.bool a) = .returned (.bool b) := by rw [h]

set_option maxHeartbeats 1000000 in
theorem rests1_any (n : Int) (r : Nat) (ab : Bool) (w : World) (h0 : -9223372036854775808 ≤ n) (h1 : n ≤ 9223372036854775807) (hr : RB w r ab) :
    Calls Try.prog 49 #[.int .i64 n, .pointer (some ⟨r, 0, none⟩)] w fun e w' => e = .returned (.bool (rst ab n)) ∧ Later w w' := by
  have W7 := Lib.hid (fun W => weekday_any n W h0 h1)
  by_cases ho : n < ny 3762 ∨ ny 10000 ≤ n
  · have O := Lib.hid (fun W => of_none n W ho)
    have E := Lib.hid (show rst ab n = false from by rcases ho with x | x; exact rst_low ab n x; exact rst_high ab n x)
    clear ho
    go_enter Try.func49, Try.ntmps49
    go_wp2_with fail
    refine (O.out _).mono ?_
    rintro e w1 ⟨rfl, hg1⟩
    have HG := Lib.hid hg1
    clear hg1
    go_wp2_with fail
    go_ret
    exact ⟨retbool E.out.symm, HG.out.put _⟩
  · obtain ⟨h, m, y1, y2, a1, a2, m1, m2, g1, g2⟩ := dt_ex n (by omega) (by omega)
    have O := Lib.hid (fun W => of_yes n h m W y1 y2 a1 a2 m1 m2 g1 g2)
    have D := kd_dt ab n _ _ _ (dt_of n h m y1 y2 m1 m2 g1 g2)
    have E := Lib.hid (show rst ab n = (decide (n % 7 = 6) || decide (fk ab m (n - ny h - ha (yl h) (lh h) m + 1) ≠ 0)) from by unfold rst; rw [D, decide_eq_true (by omega)]; simp)
    obtain ⟨d, hd'⟩ : ∃ d, n - ny h - ha (yl h) (lh h) m + 1 = d := ⟨_, rfl⟩
    rw [hd'] at O E
    clear ho D hd' a1 a2 g1 g2 m1 m2 y1 y2
    by_cases hs : n % 7 = 6
    · rw [decide_eq_true hs, Bool.true_or] at E
      have t : (n % 7 == 6) = true := by simp [hs]
      clear hs
      go_enter Try.func49, Try.ntmps49
      go_wp2_with fail
      refine (O.out _).mono ?_
      rintro e w1 ⟨rfl, hg1⟩
      have HG := Lib.hid hg1
      clear hg1
      go_wp2_with fail
      refine (W7.out _).mono ?_
      rintro e w2 ⟨rfl, k, rfl⟩
      go_wp2_with fail
      go_ret
      exact ⟨retbool E.out.symm, HG.out.put _⟩
    · rw [decide_eq_false hs, Bool.false_or] at E
      have t : (n % 7 == 6) = false := by simp [hs]
      clear hs
      obtain ⟨b, hb, hk⟩ := hr
      have HB := Lib.hid hb
      have HK := Lib.hid hk
      clear hb hk
      go_enter Try.func49, Try.ntmps49
      go_wp2_with fail
      refine (O.out _).mono ?_
      rintro e w1 ⟨rfl, hg1⟩
      have HG := Lib.hid hg1
      have L1 := Lib.hid ((Later.refl w1).put (.cells #[.int .i64 h, .int .i64 m, .int .i64 d] 43))
      have cb := gsome (gtrans HG.out L1.out) HB.out
      clear hg1
      go_wp2_with fail
      refine (W7.out _).mono ?_
      rintro e w2 ⟨rfl, k, rfl⟩
      go_wp2_with fail
      refine (kinds1_any h m d b ab _ (HK.out.later (gtrans (gtrans HG.out L1.out) (later_drewN _ k)))).mono ?_
      rintro e w3 ⟨rfl, hg3⟩
      go_wp2_with fail
      go_ret
      refine ⟨retbool ?_, gtrans (gtrans (gtrans HG.out L1.out) (later_drewN _ k)) hg3⟩
      rw [E.out]
      by_cases z : fk ab m d = 0 <;> simp [z]

theorem rest_any (n : Int) (ab : Bool) (w : World) (h0 : -9223372036854775808 ≤ n) (h1 : n ≤ 9223372036854775807) :
    Calls Try.prog 13 #[.int .i64 n, .bool ab] w fun e w' => e = .returned (.bool (rst ab n)) ∧ Later w w' := by
  have F := Lib.hid (fun W => rests_any ab W)
  go_enter Try.func13, Try.ntmps13
  go_wp2_with fail
  refine (F.out _).mono ?_
  rintro e w1 ⟨r, rfl, _, hR, hg1⟩
  have HR := Lib.hid hR
  have HG := Lib.hid hg1
  clear hR hg1
  go_wp2_with fail
  refine (rests1_any n r ab _ h0 h1 HR.out).mono ?_
  rintro e w2 ⟨rfl, hg2⟩
  go_wp2_with fail
  go_ret
  exact ⟨rfl, gtrans HG.out hg2⟩

theorem kind_any (n : Int) (ab : Bool) (w : World) :
    Calls Try.prog 11 #[.int .i64 n, .bool ab] w fun e w' => e = .returned (.int .i64 (kd ab n)) ∧ Later w w' := by
  by_cases ho : n < ny 3762 ∨ ny 10000 ≤ n
  · have O := Lib.hid (fun W => of_none n W ho)
    have E := Lib.hid (kd_out ab n ho)
    clear ho
    go_enter Try.func11, Try.ntmps11
    go_wp2_with fail
    refine (O.out _).mono ?_
    rintro e w1 ⟨rfl, hg1⟩
    have HG := Lib.hid hg1
    clear hg1
    go_wp2_with fail
    go_ret
    exact ⟨ret1 E.out.symm, HG.out.put _⟩
  · obtain ⟨h, m, y1, y2, a1, a2, m1, m2, g1, g2⟩ := dt_ex n (by omega) (by omega)
    have O := Lib.hid (fun W => of_yes n h m W y1 y2 a1 a2 m1 m2 g1 g2)
    have E := Lib.hid (kd_dt ab n _ _ _ (dt_of n h m y1 y2 m1 m2 g1 g2))
    have F := Lib.hid (fun W => kinds_any ab W)
    obtain ⟨d, hd'⟩ : ∃ d, n - ny h - ha (yl h) (lh h) m + 1 = d := ⟨_, rfl⟩
    rw [hd'] at O E
    clear ho hd' a1 a2 g1 g2 m1 m2 y1 y2
    go_enter Try.func11, Try.ntmps11
    go_wp2_with fail
    refine (O.out _).mono ?_
    rintro e w1 ⟨rfl, hg1⟩
    have HG := Lib.hid hg1
    have L1 := Lib.hid ((Later.refl w1).put (.cells #[.int .i64 h, .int .i64 m, .int .i64 d] 43))
    clear hg1
    go_wp2_with fail
    refine (F.out _).mono ?_
    rintro e w2 ⟨b, rfl, _, hK, hg2⟩
    have c0 := cell4 hg2 0 rfl
    have c1 := cell4 hg2 1 rfl
    have c2 := cell4 hg2 2 rfl
    have HK := Lib.hid hK
    have HG2 := Lib.hid hg2
    clear hK hg2
    go_wp2_with fail
    refine (kinds1_any h m d b ab _ HK.out).mono ?_
    rintro e w3 ⟨rfl, hg3⟩
    go_wp2_with fail
    go_ret
    exact ⟨ret1 E.out.symm, gtrans (gtrans (gtrans HG.out L1.out) HG2.out) hg3⟩

end Go.Proofs.Ytdoahnkjkbpdaaa.Feast
