/-
  What the zone's small functions and Check answer, by the program. Conditions: the numbers are ints, as each theorem says.
-/
import Derived.Test.YthbgllbbliijlaaZo
import Derived.Test.YthbgllbbliijlaaGrow
import Derived.OwnWalk
import Derived.Laws.StructEq
namespace Go.Proofs.Ythbgllbbliijlaa.Zone
open Go.ChangeShapes Go.WideShapes Go.ChangeAt Go.RowKit
open Go.Proofs.Ythbgllbbliijlaa.Divs Go.Proofs.Ythbgllbbliijlaa.Grow
open Go.Proofs.Ythbgllbbliijlaa.Zo

/-- A turn's cells. -/
def tc (t : Tn) : Array Value := #[.int .i64 t.m, .int .i64 t.k, .int .i64 t.v, .int .i64 t.u]

/-- A zone's cells. -/
def zc (z : Zn) : Array Value := #[.int .i64 z.b, .int .i64 z.s, .int .i64 z.p.m, .int .i64 z.p.k, .int .i64 z.p.v, .int .i64 z.p.u, .int .i64 z.q.m, .int .i64 z.q.k, .int .i64 z.q.v, .int .i64 z.q.u]

def wiB (n a b : Int) : Bool := decide (a ≤ n) && decide (n ≤ b)

theorem wiB_iff (n a b : Int) : wiB n a b = true ↔ a ≤ n ∧ n ≤ b := by simp [wiB]

theorem within_any (n a b : Int) (w : World) : Calls Try.prog 46 #[.int .i64 n, .int .i64 a, .int .i64 b] w fun e w' => e = .returned (.bool (wiB n a b)) ∧ w = w' := by
  by_cases h : a ≤ n
  · have t : decide (a ≤ n) = true := by simpa using h
    have HV : Hid (wiB n a b = decide (n ≤ b)) := by
      have : wiB n a b = decide (n ≤ b) := by unfold wiB; rw [t]; rfl
      exact this
    clear h
    go_enter Try.func46, Try.ntmps46
    go_wp2
    go_ret
    exact ⟨retb HV.out.symm, rfl⟩
  · have t : decide (a ≤ n) = false := by simpa using h
    have HV : Hid (wiB n a b = false) := by
      have : wiB n a b = false := by unfold wiB; rw [t]; rfl
      exact this
    clear h
    go_enter Try.func46, Try.ntmps46
    go_wp2
    go_ret
    exact ⟨retb HV.out.symm, rfl⟩

theorem equal_turn_at (n : Nat) (a b c d a' b' c' d' : Int) (w : World) : (Op.equalIn (n + 1 + 1) 26 (.agg #[.int .i64 a, .int .i64 b, .int .i64 c, .int .i64 d]) (.agg #[.int .i64 a', .int .i64 b', .int .i64 c', .int .i64 d'])).run Try.prog w = .ok (a == a' && (b == b' && (c == c' && d == d'))) w := by
  have u3 := Try.underlying3
  have a3 := Try.isAgg3
  have z3 := Try.sizeOf3
  have hS : Try.prog.underlying 26 = some (.struct (Try.prog.fieldsOf 26)) := by kernel_rfl
  have hp : Try.prog.stoodInHeld 26 = false := by kernel_rfl
  rw [run_equalIn_agg w (n + 1) 26 _ _ hS hp]
  simp only [Program.fieldsOf, Try.underlying26]
  go_simp
  by_cases h1 : a = a' <;> by_cases h2 : b = b' <;> by_cases h3 : c = c' <;> by_cases h4 : d = d' <;> simp [h1, h2, h3, h4]

theorem equal_turn (a b c d a' b' c' d' : Int) (w : World) : (Op.equalIn 10000 26 (.agg #[.int .i64 a, .int .i64 b, .int .i64 c, .int .i64 d]) (.agg #[.int .i64 a', .int .i64 b', .int .i64 c', .int .i64 d'])).run Try.prog w = .ok (a == a' && (b == b' && (c == c' && d == d'))) w :=
  equal_turn_at 9998 a b c d a' b' c' d' w

theorem equal_int_at (n : Nat) (a b : Int) (w : World) : (Op.equalIn (n + 1) 3 (.int .i64 a) (.int .i64 b)).run Try.prog w = .ok (a == b) w := by
  have u3 := Try.underlying3
  have a3 := Try.isAgg3
  have z3 := Try.sizeOf3
  go_simp

attribute [local go_sem] equal_turn_at equal_int_at

/-- Is a zone nothing but its base? -/
def stB (z : Zn) : Bool := z.s == 0 && (ztB z.p && ztB z.q)

set_option maxHeartbeats 1000000 in
theorem equal_zone (a b c d e f g h i j a' b' c' d' e' f' g' h' i' j' : Int) (w : World) : (Op.equalIn 10000 28 (.agg #[.int .i64 a, .int .i64 b, .int .i64 c, .int .i64 d, .int .i64 e, .int .i64 f, .int .i64 g, .int .i64 h, .int .i64 i, .int .i64 j])
      (.agg #[.int .i64 a', .int .i64 b', .int .i64 c', .int .i64 d', .int .i64 e', .int .i64 f', .int .i64 g', .int .i64 h', .int .i64 i', .int .i64 j'])).run Try.prog w
    = .ok (a == a' && (b == b' && ((c == c' && (d == d' && (e == e' && f == f'))) && (g == g' && (h == h' && (i == i' && j == j')))))) w := by
  have u3 := Try.underlying3
  have a3 := Try.isAgg3
  have z3 := Try.sizeOf3
  have hS : Try.prog.underlying 28 = some (.struct (Try.prog.fieldsOf 28)) := by kernel_rfl
  have hp : Try.prog.stoodInHeld 28 = false := by kernel_rfl
  have E : ∀ n, n = 9997 → (Op.equalIn (n + 1 + 1 + 1) 28 (.agg #[.int .i64 a, .int .i64 b, .int .i64 c, .int .i64 d, .int .i64 e, .int .i64 f, .int .i64 g, .int .i64 h, .int .i64 i, .int .i64 j])
      (.agg #[.int .i64 a', .int .i64 b', .int .i64 c', .int .i64 d', .int .i64 e', .int .i64 f', .int .i64 g', .int .i64 h', .int .i64 i', .int .i64 j'])).run Try.prog w
    = .ok (a == a' && (b == b' && ((c == c' && (d == d' && (e == e' && f == f'))) && (g == g' && (h == h' && (i == i' && j == j')))))) w := by
    intro n _
    rw [run_equalIn_agg w (n + 1 + 1) 28 _ _ hS hp]
    simp only [Program.fieldsOf, Try.underlying28]
    have a23 := Try.isAgg26
    have z23 := Try.sizeOf26
    go_simp
    repeat' split
    all_goals simp_all
  exact E 9997 rfl

attribute [local go_sem high] equal_turn equal_zone

theorem steady_any (z : Zn) (w : World) : Calls Try.prog 47 #[.agg (zc z)] w fun e w' => e = .returned (.bool (stB z)) ∧ Later w w' := by
  unfold zc
  go_enter Try.func47, Try.ntmps47
  go_wp2
  go_ret
  exact ⟨rfl, (Later.refl w).alloc _ _⟩

theorem apart_any (z : Zn) (w : World) (h1 : 1 ≤ z.p.m) (h2 : z.p.m ≤ 12) (h3 : 1 ≤ z.q.m) (h4 : z.q.m ≤ 12) : Calls Try.prog 48 #[.agg (zc z)] w fun e w' => e = .returned (.bool (apB z)) ∧ Later w w' := by
  unfold zc
  have K := Lib.hid (fun n W => within_any n 2 10 W)
  by_cases h : z.p.m - z.q.m < 0
  · have HV : Hid (wiB (-(z.p.m - z.q.m)) 2 10 = apB z) := by
      have : wiB (-(z.p.m - z.q.m)) 2 10 = apB z := by rw [Bool.eq_iff_iff, wiB_iff, apB_iff]; omega
      exact this
    go_enter Try.func48, Try.ntmps48
    go_wp2_with fail
    refine (K.out _ _).mono ?_
    rintro e w1 ⟨rfl, rfl⟩
    go_wp2_with fail
    go_ret
    exact ⟨retb HV.out, (Later.refl w).alloc _ _⟩
  · have HV : Hid (wiB (z.p.m - z.q.m) 2 10 = apB z) := by
      have : wiB (z.p.m - z.q.m) 2 10 = apB z := by rw [Bool.eq_iff_iff, wiB_iff, apB_iff]; omega
      exact this
    go_enter Try.func48, Try.ntmps48
    go_wp2_with fail
    refine (K.out _ _).mono ?_
    rintro e w1 ⟨rfl, rfl⟩
    go_wp2_with fail
    go_ret
    exact ⟨retb HV.out, (Later.refl w).alloc _ _⟩

theorem okB_of (t : Tn) : okB t = (wiB t.m 1 12 && (wiB t.k 1 5 && (wiB t.v 0 6 && wiB t.u 0 1439))) := by
  rw [Bool.eq_iff_iff, okB_iff]
  simp only [Bool.and_eq_true, wiB_iff]
  omega

set_option maxHeartbeats 1000000 in
theorem wrong_any (s : Int) (t : Tn) (a : Nat) (w : World) (hc : w.cell? ⟨a, 1, none⟩ = some (.int .i64 s)) : Calls Try.prog 51 #[.agg (tc t), .pointer (some ⟨a, 0, none⟩)] w fun e w' => e = .returned (.bool (wrB s t)) ∧ Later w w' := by
  unfold tc
  have c : (w.alloc (.cells #[.int .i64 t.m, .int .i64 t.k, .int .i64 t.v, .int .i64 t.u] 26)).cell? ⟨a, 1, none⟩ = some (.int .i64 s) := gsome ((Later.refl w).alloc _ _) hc
  clear hc
  have HL := Lib.hid ((Later.refl w).alloc #[.int .i64 t.m, .int .i64 t.k, .int .i64 t.v, .int .i64 t.u] 26)
  by_cases h : s = 0
  · have e : (s == 0) = true := by simpa using h
    have HV : Hid (wrB s t = !ztB t) := by
      have : wrB s t = !ztB t := by unfold wrB; rw [if_pos h]
      exact this
    clear h
    go_enter Try.func51, Try.ntmps51
    go_wp2
    go_ret
    exact ⟨retb (by rw [HV.out]; unfold ztB; simp), HL.out⟩
  · have e : (s == 0) = false := by simpa using h
    have K := Lib.hid (fun n a b W => within_any n a b W)
    have HV : Hid (wrB s t = !okB t) := by
      have : wrB s t = !okB t := by unfold wrB; rw [if_neg h]
      exact this
    have HO := Lib.hid (okB_of t)
    clear h
    have one : ∀ b : Bool, wiB t.m 1 12 = b → ∀ b2 : Bool, wiB t.k 1 5 = b2 → ∀ b3 : Bool, wiB t.v 0 6 = b3 → ∀ b4 : Bool, wiB t.u 0 1439 = b4 → wrB s t = !(b && (b2 && (b3 && b4))) := by
      rintro _ rfl _ rfl _ rfl _ rfl
      rw [HV.out, HO.out]
    cases e1 : wiB t.m 1 12 with
    | false =>
      have R := Lib.hid (one _ e1 _ rfl _ rfl _ rfl)
      clear one
      go_enter Try.func51, Try.ntmps51
      go_wp2_with (go_at_call 46; refine (K.out _ _ _ _).mono ?_; rintro e w1 ⟨rfl, rfl⟩)
      go_ret
      exact ⟨retb (by rw [R.out]; rfl), HL.out⟩
    | true =>
      cases e2 : wiB t.k 1 5 with
      | false =>
        have R := Lib.hid (one _ e1 _ e2 _ rfl _ rfl)
        clear one
        go_enter Try.func51, Try.ntmps51
        go_wp2_with (go_at_call 46; refine (K.out _ _ _ _).mono ?_; rintro e w1 ⟨rfl, rfl⟩)
        go_ret
        exact ⟨retb (by rw [R.out]; rfl), HL.out⟩
      | true =>
        cases e3 : wiB t.v 0 6 with
        | false =>
          have R := Lib.hid (one _ e1 _ e2 _ e3 _ rfl)
          clear one
          go_enter Try.func51, Try.ntmps51
          go_wp2_with (go_at_call 46; refine (K.out _ _ _ _).mono ?_; rintro e w1 ⟨rfl, rfl⟩)
          go_ret
          exact ⟨retb (by rw [R.out]; rfl), HL.out⟩
        | true =>
          have R := Lib.hid (one _ e1 _ e2 _ e3 _ rfl)
          clear one
          go_enter Try.func51, Try.ntmps51
          go_wp2_with (go_at_call 46; refine (K.out _ _ _ _).mono ?_; rintro e w1 ⟨rfl, rfl⟩)
          go_ret
          exact ⟨retb (by rw [R.out]; rfl), HL.out⟩

/-- A zone lies in the block a. -/
def Zat (w : World) (a : Nat) (z : Zn) : Prop := w.cell? ⟨a, 0, none⟩ = some (.int .i64 z.b) ∧ w.cell? ⟨a, 1, none⟩ = some (.int .i64 z.s) ∧ w.cell? ⟨a, 2, none⟩ = some (.int .i64 z.p.m) ∧ w.cell? ⟨a, 3, none⟩ = some (.int .i64 z.p.k) ∧ w.cell? ⟨a, 4, none⟩ = some (.int .i64 z.p.v) ∧ w.cell? ⟨a, 5, none⟩ = some (.int .i64 z.p.u) ∧ w.cell? ⟨a, 6, none⟩ = some (.int .i64 z.q.m) ∧ w.cell? ⟨a, 7, none⟩ = some (.int .i64 z.q.k) ∧ w.cell? ⟨a, 8, none⟩ = some (.int .i64 z.q.v) ∧ w.cell? ⟨a, 9, none⟩ = some (.int .i64 z.q.u)

theorem Zat.new (w : World) (z : Zn) : Zat (w.alloc (.cells (zc z) 28)) w.heap.size z := by
  refine ⟨?_, ?_, ?_, ?_, ?_, ?_, ?_, ?_, ?_, ?_⟩ <;> rw [World.cell?_alloc_new] <;> rfl

theorem Zat.later {w w1 : World} {a : Nat} {z : Zn} (h : Zat w a z) (g : Later w w1) : Zat w1 a z := by
  obtain ⟨h0, h1, h2, h3, h4, h5, h6, h7, h8, h9⟩ := h
  exact ⟨gsome g h0, gsome g h1, gsome g h2, gsome g h3, gsome g h4, gsome g h5, gsome g h6, gsome g h7, gsome g h8, gsome g h9⟩

theorem make_any (z : Zn) (w : World) : Calls Try.prog 45 #[.agg (zc z)] w fun e w' => ∃ a, e = .returned (.func (.func 51) #[] #[.pointer (some ⟨a, 0, none⟩)]) ∧ Zat w' a z ∧ Later w w' := by
  have HZ := Lib.hid (Zat.new w z)
  unfold zc at *
  go_enter Try.func45, Try.ntmps45
  go_wp2
  go_ret
  exact ⟨_, rfl, HZ.out, (Later.refl w).alloc _ _⟩

theorem ck_of (z : Zn) (e0 : wiB z.b (-720) 840 = true) (e1 : wiB z.s 0 120 = true) : ck z = if badB z = true then 62 else 0 := by
  rw [wiB_iff] at e0 e1
  unfold ck
  rw [if_neg (by omega), if_neg (by omega)]

theorem reti {a b : Int} (h : a = b) : Ending.returned (.int .i64 a) = .returned (.int .i64 b) := by rw [h]

theorem check_base (z : Zn) (w : World) (e0 : wiB z.b (-720) 840 = false) : Calls Try.prog 43 #[.agg (zc z)] w fun e w' => e = .returned (.int .i64 (ck z)) ∧ Later w w' := by
  have M := Lib.hid (fun W => make_any z W)
  have K := Lib.hid (fun n a b W => within_any n a b W)
  have HV : Hid (60 = ck z) := by
    have : 60 = ck z := by
      have := mt (wiB_iff z.b (-720) 840).2 (by rw [e0]; simp)
      unfold ck; rw [if_pos (by omega)]
    exact this
  unfold zc
  go_enter Try.func43, Try.ntmps43
  go_wp2_with fail
  refine (M.out _).mono ?_
  rintro e w1 ⟨a, rfl, za, hg1⟩
  obtain ⟨c0, c1, c2, c3, c4, c5, c6, c7, c8, c9⟩ := (Zat.new w z).later hg1
  have HG := Lib.hid (gtrans ((Later.refl w).alloc _ _) hg1)
  clear hg1 za
  go_wp2_with (go_at_call 46; refine (K.out _ _ _ _).mono ?_; rintro e w1 ⟨rfl, rfl⟩)
  go_ret
  exact ⟨reti HV.out, HG.out⟩

theorem check_shift (z : Zn) (w : World) (e0 : wiB z.b (-720) 840 = true) (e1 : wiB z.s 0 120 = false) : Calls Try.prog 43 #[.agg (zc z)] w fun e w' => e = .returned (.int .i64 (ck z)) ∧ Later w w' := by
  have M := Lib.hid (fun W => make_any z W)
  have K := Lib.hid (fun n a b W => within_any n a b W)
  have HV : Hid (61 = ck z) := by
    have : 61 = ck z := by
      have h0 := (wiB_iff z.b (-720) 840).1 e0
      have := mt (wiB_iff z.s 0 120).2 (by rw [e1]; simp)
      unfold ck; rw [if_neg (by omega), if_pos (by omega)]
    exact this
  unfold zc
  go_enter Try.func43, Try.ntmps43
  go_wp2_with fail
  refine (M.out _).mono ?_
  rintro e w1 ⟨a, rfl, za, hg1⟩
  obtain ⟨c0, c1, c2, c3, c4, c5, c6, c7, c8, c9⟩ := (Zat.new w z).later hg1
  have HG := Lib.hid (gtrans ((Later.refl w).alloc _ _) hg1)
  clear hg1 za
  go_wp2_with (go_at_call 46; refine (K.out _ _ _ _).mono ?_; rintro e w1 ⟨rfl, rfl⟩)
  go_ret
  exact ⟨reti HV.out, HG.out⟩

theorem stB_of (z : Zn) (h1 : wrB z.s z.p = false) (h2 : wrB z.s z.q = false) : stB z = decide (z.s = 0) := by
  unfold wrB at h1 h2
  unfold stB
  by_cases h : z.s = 0
  · rw [if_pos h] at h1 h2
    simp at h1 h2
    simp [h, h1, h2]
  · simp [h]

theorem wr_month (s : Int) (t : Tn) (hs : ¬ s = 0) (h : wrB s t = false) : 1 ≤ t.m ∧ t.m ≤ 12 := by
  unfold wrB at h
  rw [if_neg hs] at h
  have := (okB_iff t).1 (by simpa using h)
  omega

set_option maxHeartbeats 2000000 in
theorem check_turn (z : Zn) (w : World) (e0 : wiB z.b (-720) 840 = true) (e1 : wiB z.s 0 120 = true) : Calls Try.prog 43 #[.agg (zc z)] w fun e w' => e = .returned (.int .i64 (ck z)) ∧ Later w w' := by
  have M := Lib.hid (fun W => make_any z W)
  have K := Lib.hid (fun n a b W => within_any n a b W)
  have HP := Lib.hid (fun a W hc => wrong_any z.s z.p a W hc)
  have HQ := Lib.hid (fun a W hc => wrong_any z.s z.q a W hc)
  have HS := Lib.hid (fun W => steady_any z W)
  have HC := Lib.hid (ck_of z e0 e1)
  have HB : Hid (badB z = (wrB z.s z.p || (wrB z.s z.q || (!decide (z.s = 0) && !apB z)))) := (rfl : badB z = _)
  have HA := Lib.hid (fun h1 h2 h3 h4 W => apart_any z W h1 h2 h3 h4)
  have HT := Lib.hid (stB_of z)
  have HM := Lib.hid (fun t => wr_month z.s t)
  have HN := Lib.hid (Zat.new w z)
  unfold zc
  go_enter Try.func43, Try.ntmps43
  go_wp2_with fail
  refine (M.out _).mono ?_
  rintro e w1 ⟨a, rfl, za, hg1⟩
  have HG := Lib.hid (gtrans ((Later.refl w).alloc _ _) hg1)
  have z1 := HN.out.later hg1
  have HZ := Lib.hid z1
  have HY := Lib.hid za
  obtain ⟨c0, c1, c2, c3, c4, c5, c6, c7, c8, c9⟩ := z1
  clear hg1 za
  go_wp2_with (go_at_call 46; refine (K.out _ _ _ _).mono ?_; rintro e w1 ⟨rfl, rfl⟩)
  refine (HP.out _ _ HY.out.2.1).mono ?_
  rintro e w2 ⟨rfl, hg2⟩
  have HG2 := Lib.hid (gtrans HG.out hg2)
  have z2 := HZ.out.later hg2
  have HZ2 := Lib.hid z2
  have HY2 := Lib.hid (HY.out.later hg2)
  clear c0 c1 c2 c3 c4 c5 c6 c7 c8 c9 hg2
  cases p : wrB z.s z.p with
  | true =>
    clear z2
    have HP := Lib.hid p
    clear p
    go_wp2_with fail
    go_ret
    exact ⟨reti (by rw [HC.out, HB.out, HP.out]; rfl), HG2.out⟩
  | false =>
    have HP1 := Lib.hid p
    clear p
    obtain ⟨c0, c1, c2, c3, c4, c5, c6, c7, c8, c9⟩ := z2
    go_wp2_with fail
    refine (HQ.out _ _ HY2.out.2.1).mono ?_
    rintro e w3 ⟨rfl, hg3⟩
    have HG3 := Lib.hid (gtrans HG2.out hg3)
    have z3 := HZ2.out.later hg3
    have HZ3 := Lib.hid z3
    clear c0 c1 c2 c3 c4 c5 c6 c7 c8 c9 hg3
    cases q : wrB z.s z.q with
    | true =>
      clear z3
      have HQ := Lib.hid q
      clear q
      go_wp2_with fail
      go_ret
      exact ⟨reti (by rw [HC.out, HB.out, HP1.out, HQ.out]; rfl), HG3.out⟩
    | false =>
      have HQ1 := Lib.hid q
      clear q
      obtain ⟨c0, c1, c2, c3, c4, c5, c6, c7, c8, c9⟩ := z3
      go_wp2_with fail
      refine (HS.out _).mono ?_
      rintro e w4 ⟨rfl, hg4⟩
      rw [HT.out HP1.out HQ1.out]
      have HG4 := Lib.hid (gtrans HG3.out hg4)
      have z4 := HZ3.out.later hg4
      clear c0 c1 c2 c3 c4 c5 c6 c7 c8 c9 hg4
      obtain ⟨c0, c1, c2, c3, c4, c5, c6, c7, c8, c9⟩ := z4
      by_cases hs : z.s = 0
      · have t : decide (z.s = 0) = true := by simpa using hs
        have HS0 := Lib.hid hs
        rw [t]
        clear t hs
        go_wp2_with fail
        go_ret
        exact ⟨reti (by rw [HC.out, HB.out, HP1.out, HQ1.out]; simp [HS0.out]), HG4.out⟩
      · have t : decide (z.s = 0) = false := by simpa using hs
        obtain ⟨m1, m2⟩ := HM.out z.p hs HP1.out
        obtain ⟨m3, m4⟩ := HM.out z.q hs HQ1.out
        have HA1 := Lib.hid (HA.out m1 m2 m3 m4)
        have HS0 := Lib.hid hs
        rw [t]
        clear t hs m1 m2 m3 m4
        go_wp2_with fail
        refine (HA1.out _).mono ?_
        rintro e w5 ⟨rfl, hg5⟩
        clear c0 c1 c2 c3 c4 c5 c6 c7 c8 c9
        cases ap : apB z with
        | true =>
          go_wp2_with fail
          go_ret
          exact ⟨reti (by rw [HC.out, HB.out, HP1.out, HQ1.out]; simp [HS0.out, ap]), gtrans HG4.out hg5⟩
        | false =>
          go_wp2_with fail
          go_ret
          exact ⟨reti (by rw [HC.out, HB.out, HP1.out, HQ1.out]; simp [HS0.out, ap]), gtrans HG4.out hg5⟩

theorem check_any (z : Zn) (w : World) : Calls Try.prog 43 #[.agg (zc z)] w fun e w' => e = .returned (.int .i64 (ck z)) ∧ Later w w' := by
  cases e0 : wiB z.b (-720) 840 with
  | false => exact check_base z w e0
  | true =>
    cases e1 : wiB z.s 0 120 with
    | false => exact check_shift z w e0 e1
    | true => exact check_turn z w e0 e1

end Go.Proofs.Ythbgllbbliijlaa.Zone
