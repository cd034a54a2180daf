/-
  Texts of mine, merged: each part says what it holds. Conditions: as each theorem states.
-/
import Derived.OwnWalk
import Derived.Laws.StructEq
import Derived.Maps.AppendAt
import Derived.RangeFuncBox
import Derived.Test.YtihdijkplmfhfaaGreatDoorM2

/- What the zone's small functions and Check answer, by the program. Conditions: the numbers are ints, as each theorem says. -/
namespace Go.Proofs.YtihdijkplmfhfaaGreatDoor.Zone
set_option maxRecDepth 100000
open Go.ChangeShapes Go.WideShapes Go.ChangeAt Go.RowKit
open Go.Proofs.YtihdijkplmfhfaaGreatDoor.Divs Go.Proofs.YtihdijkplmfhfaaGreatDoor.Grow
open Go.Proofs.YtihdijkplmfhfaaGreatDoor.Zo

/-- A turn's cells. -/
def tc (t : Tn) : Array Value := #[.int .i64 t.m, .int .i64 t.k, .int .i64 t.v, .int .i64 t.u]

/-- A zone's cells. -/
def zc (z : Zn) : Array Value := #[.int .i64 z.b, .int .i64 z.s, .int .i64 z.p.m, .int .i64 z.p.k, .int .i64 z.p.v, .int .i64 z.p.u, .int .i64 z.q.m, .int .i64 z.q.k, .int .i64 z.q.v, .int .i64 z.q.u]

def wiB (n a b : Int) : Bool := decide (a ≤ n) && decide (n ≤ b)

theorem wiB_iff (n a b : Int) : wiB n a b = true ↔ a ≤ n ∧ n ≤ b := by simp [wiB]

theorem within_any (n a b : Int) (w : World) : Calls Tryz.prog 74 #[.int .i64 n, .int .i64 a, .int .i64 b] w fun e w' => e = .returned (.bool (wiB n a b)) ∧ w = w' := by
  by_cases h : a ≤ n
  · have t : decide (a ≤ n) = true := by simpa using h
    have HV : Hid (wiB n a b = decide (n ≤ b)) := by
      have : wiB n a b = decide (n ≤ b) := by unfold wiB; rw [t]; rfl
      exact this
    clear h
    go_enter Tryz.func74, Tryz.ntmps74
    go_wp2
    go_ret
    exact ⟨retb HV.out.symm, rfl⟩
  · have t : decide (a ≤ n) = false := by simpa using h
    have HV : Hid (wiB n a b = false) := by
      have : wiB n a b = false := by unfold wiB; rw [t]; rfl
      exact this
    clear h
    go_enter Tryz.func74, Tryz.ntmps74
    go_wp2
    go_ret
    exact ⟨retb HV.out.symm, rfl⟩

theorem equal_turn_at (n : Nat) (a b c d a' b' c' d' : Int) (w : World) : (Op.equalIn (n + 1 + 1) 26 (.agg #[.int .i64 a, .int .i64 b, .int .i64 c, .int .i64 d]) (.agg #[.int .i64 a', .int .i64 b', .int .i64 c', .int .i64 d'])).run Tryz.prog w = .ok (a == a' && (b == b' && (c == c' && d == d'))) w := by
  have u3 := Tryz.underlying3
  have a3 := Tryz.isAgg3
  have z3 := Tryz.sizeOf3
  have hS : Tryz.prog.underlying 26 = some (.struct (Tryz.prog.fieldsOf 26)) := by kernel_rfl
  have hp : Tryz.prog.stoodInHeld 26 = false := by kernel_rfl
  rw [run_equalIn_agg w (n + 1) 26 _ _ hS hp]
  simp only [Program.fieldsOf, Tryz.underlying26]
  go_simp
  by_cases h1 : a = a' <;> by_cases h2 : b = b' <;> by_cases h3 : c = c' <;> by_cases h4 : d = d' <;> simp [h1, h2, h3, h4]

theorem equal_turn (a b c d a' b' c' d' : Int) (w : World) : (Op.equalIn 10000 26 (.agg #[.int .i64 a, .int .i64 b, .int .i64 c, .int .i64 d]) (.agg #[.int .i64 a', .int .i64 b', .int .i64 c', .int .i64 d'])).run Tryz.prog w = .ok (a == a' && (b == b' && (c == c' && d == d'))) w :=
  equal_turn_at 9998 a b c d a' b' c' d' w

theorem equal_int_at (n : Nat) (a b : Int) (w : World) : (Op.equalIn (n + 1) 3 (.int .i64 a) (.int .i64 b)).run Tryz.prog w = .ok (a == b) w := by
  have u3 := Tryz.underlying3
  have a3 := Tryz.isAgg3
  have z3 := Tryz.sizeOf3
  go_simp

attribute [local go_sem] equal_turn_at equal_int_at

/-- Is a zone nothing but its base? -/
def stB (z : Zn) : Bool := z.s == 0 && (ztB z.p && ztB z.q)

set_option maxHeartbeats 1000000 in
theorem equal_zone (a b c d e f g h i j a' b' c' d' e' f' g' h' i' j' : Int) (w : World) : (Op.equalIn 10000 28 (.agg #[.int .i64 a, .int .i64 b, .int .i64 c, .int .i64 d, .int .i64 e, .int .i64 f, .int .i64 g, .int .i64 h, .int .i64 i, .int .i64 j])
      (.agg #[.int .i64 a', .int .i64 b', .int .i64 c', .int .i64 d', .int .i64 e', .int .i64 f', .int .i64 g', .int .i64 h', .int .i64 i', .int .i64 j'])).run Tryz.prog w
    = .ok (a == a' && (b == b' && ((c == c' && (d == d' && (e == e' && f == f'))) && (g == g' && (h == h' && (i == i' && j == j')))))) w := by
  have u3 := Tryz.underlying3
  have a3 := Tryz.isAgg3
  have z3 := Tryz.sizeOf3
  have hS : Tryz.prog.underlying 28 = some (.struct (Tryz.prog.fieldsOf 28)) := by kernel_rfl
  have hp : Tryz.prog.stoodInHeld 28 = false := by kernel_rfl
  have E : ∀ n, n = 9997 → (Op.equalIn (n + 1 + 1 + 1) 28 (.agg #[.int .i64 a, .int .i64 b, .int .i64 c, .int .i64 d, .int .i64 e, .int .i64 f, .int .i64 g, .int .i64 h, .int .i64 i, .int .i64 j])
      (.agg #[.int .i64 a', .int .i64 b', .int .i64 c', .int .i64 d', .int .i64 e', .int .i64 f', .int .i64 g', .int .i64 h', .int .i64 i', .int .i64 j'])).run Tryz.prog w
    = .ok (a == a' && (b == b' && ((c == c' && (d == d' && (e == e' && f == f'))) && (g == g' && (h == h' && (i == i' && j == j')))))) w := by
    intro n _
    rw [run_equalIn_agg w (n + 1 + 1) 28 _ _ hS hp]
    simp only [Program.fieldsOf, Tryz.underlying28]
    have a23 := Tryz.isAgg26
    have z23 := Tryz.sizeOf26
    go_simp
    repeat' split
    all_goals simp_all
  exact E 9997 rfl

attribute [local go_sem high] equal_turn equal_zone

theorem steady_any (z : Zn) (w : World) : Calls Tryz.prog 78 #[.agg (zc z)] w fun e w' => e = .returned (.bool (stB z)) ∧ Later w w' := by
  unfold zc
  go_enter Tryz.func78, Tryz.ntmps78
  go_wp2
  go_ret
  exact ⟨rfl, (Later.refl w).alloc _ _⟩

theorem apart_any (z : Zn) (w : World) (h1 : 1 ≤ z.p.m) (h2 : z.p.m ≤ 12) (h3 : 1 ≤ z.q.m) (h4 : z.q.m ≤ 12) : Calls Tryz.prog 79 #[.agg (zc z)] w fun e w' => e = .returned (.bool (apB z)) ∧ Later w w' := by
  unfold zc
  have K := Lib.hid (fun n W => within_any n 2 10 W)
  by_cases h : z.p.m - z.q.m < 0
  · have HV : Hid (wiB (-(z.p.m - z.q.m)) 2 10 = apB z) := by
      have : wiB (-(z.p.m - z.q.m)) 2 10 = apB z := by rw [Bool.eq_iff_iff, wiB_iff, apB_iff]; omega
      exact this
    go_enter Tryz.func79, Tryz.ntmps79
    go_wp2_with fail
    refine (K.out _ _).mono ?_
    rintro e w1 ⟨rfl, rfl⟩
    go_wp2_with fail
    go_ret
    exact ⟨retb HV.out, (Later.refl w).alloc _ _⟩
  · have HV : Hid (wiB (z.p.m - z.q.m) 2 10 = apB z) := by
      have : wiB (z.p.m - z.q.m) 2 10 = apB z := by rw [Bool.eq_iff_iff, wiB_iff, apB_iff]; omega
      exact this
    go_enter Tryz.func79, Tryz.ntmps79
    go_wp2_with fail
    refine (K.out _ _).mono ?_
    rintro e w1 ⟨rfl, rfl⟩
    go_wp2_with fail
    go_ret
    exact ⟨retb HV.out, (Later.refl w).alloc _ _⟩

theorem okB_of (t : Tn) : okB t = (wiB t.m 1 12 && (wiB t.k 1 5 && (wiB t.v 0 6 && wiB t.u 0 1439))) := by
  rw [Bool.eq_iff_iff, okB_iff]
  simp only [Bool.and_eq_true, wiB_iff]
  omega

set_option maxHeartbeats 1000000 in
theorem wrong_any (s : Int) (t : Tn) (a : Nat) (w : World) (hc : w.cell? ⟨a, 1, none⟩ = some (.int .i64 s)) : Calls Tryz.prog 109 #[.agg (tc t), .pointer (some ⟨a, 0, none⟩)] w fun e w' => e = .returned (.bool (wrB s t)) ∧ Later w w' := by
  unfold tc
  have c : (w.alloc (.cells #[.int .i64 t.m, .int .i64 t.k, .int .i64 t.v, .int .i64 t.u] 26)).cell? ⟨a, 1, none⟩ = some (.int .i64 s) := gsome ((Later.refl w).alloc _ _) hc
  clear hc
  have HL := Lib.hid ((Later.refl w).alloc #[.int .i64 t.m, .int .i64 t.k, .int .i64 t.v, .int .i64 t.u] 26)
  by_cases h : s = 0
  · have e : (s == 0) = true := by simpa using h
    have HV : Hid (wrB s t = !ztB t) := by
      have : wrB s t = !ztB t := by unfold wrB; rw [if_pos h]
      exact this
    clear h
    go_enter Tryz.func109, Tryz.ntmps109
    go_wp2
    go_ret
    exact ⟨retb (by rw [HV.out]; unfold ztB; simp), HL.out⟩
  · have e : (s == 0) = false := by simpa using h
    have K := Lib.hid (fun n a b W => within_any n a b W)
    have HV : Hid (wrB s t = !okB t) := by
      have : wrB s t = !okB t := by unfold wrB; rw [if_neg h]
      exact this
    have HO := Lib.hid (okB_of t)
    clear h
    have one : ∀ b : Bool, wiB t.m 1 12 = b → ∀ b2 : Bool, wiB t.k 1 5 = b2 → ∀ b3 : Bool, wiB t.v 0 6 = b3 → ∀ b4 : Bool, wiB t.u 0 1439 = b4 → wrB s t = !(b && (b2 && (b3 && b4))) := by
      rintro _ rfl _ rfl _ rfl _ rfl
      rw [HV.out, HO.out]
    cases e1 : wiB t.m 1 12 with
    | false =>
      have R := Lib.hid (one _ e1 _ rfl _ rfl _ rfl)
      clear one
      go_enter Tryz.func109, Tryz.ntmps109
      go_wp2_with (go_at_call 74; refine (K.out _ _ _ _).mono ?_; rintro e w1 ⟨rfl, rfl⟩)
      go_ret
      exact ⟨retb (by rw [R.out]; rfl), HL.out⟩
    | true =>
      cases e2 : wiB t.k 1 5 with
      | false =>
        have R := Lib.hid (one _ e1 _ e2 _ rfl _ rfl)
        clear one
        go_enter Tryz.func109, Tryz.ntmps109
        go_wp2_with (go_at_call 74; refine (K.out _ _ _ _).mono ?_; rintro e w1 ⟨rfl, rfl⟩)
        go_ret
        exact ⟨retb (by rw [R.out]; rfl), HL.out⟩
      | true =>
        cases e3 : wiB t.v 0 6 with
        | false =>
          have R := Lib.hid (one _ e1 _ e2 _ e3 _ rfl)
          clear one
          go_enter Tryz.func109, Tryz.ntmps109
          go_wp2_with (go_at_call 74; refine (K.out _ _ _ _).mono ?_; rintro e w1 ⟨rfl, rfl⟩)
          go_ret
          exact ⟨retb (by rw [R.out]; rfl), HL.out⟩
        | true =>
          have R := Lib.hid (one _ e1 _ e2 _ e3 _ rfl)
          clear one
          go_enter Tryz.func109, Tryz.ntmps109
          go_wp2_with (go_at_call 74; refine (K.out _ _ _ _).mono ?_; rintro e w1 ⟨rfl, rfl⟩)
          go_ret
          exact ⟨retb (by rw [R.out]; rfl), HL.out⟩

/-- A zone lies in the block a. -/
def Zat (w : World) (a : Nat) (z : Zn) : Prop := w.cell? ⟨a, 0, none⟩ = some (.int .i64 z.b) ∧ w.cell? ⟨a, 1, none⟩ = some (.int .i64 z.s) ∧ w.cell? ⟨a, 2, none⟩ = some (.int .i64 z.p.m) ∧ w.cell? ⟨a, 3, none⟩ = some (.int .i64 z.p.k) ∧ w.cell? ⟨a, 4, none⟩ = some (.int .i64 z.p.v) ∧ w.cell? ⟨a, 5, none⟩ = some (.int .i64 z.p.u) ∧ w.cell? ⟨a, 6, none⟩ = some (.int .i64 z.q.m) ∧ w.cell? ⟨a, 7, none⟩ = some (.int .i64 z.q.k) ∧ w.cell? ⟨a, 8, none⟩ = some (.int .i64 z.q.v) ∧ w.cell? ⟨a, 9, none⟩ = some (.int .i64 z.q.u)

theorem Zat.new (w : World) (z : Zn) : Zat (w.alloc (.cells (zc z) 28)) w.heap.size z := by
  refine ⟨?_, ?_, ?_, ?_, ?_, ?_, ?_, ?_, ?_, ?_⟩ <;> rw [World.cell?_alloc_new] <;> rfl

theorem Zat.later {w w1 : World} {a : Nat} {z : Zn} (h : Zat w a z) (g : Later w w1) : Zat w1 a z := by
  obtain ⟨h0, h1, h2, h3, h4, h5, h6, h7, h8, h9⟩ := h
  exact ⟨gsome g h0, gsome g h1, gsome g h2, gsome g h3, gsome g h4, gsome g h5, gsome g h6, gsome g h7, gsome g h8, gsome g h9⟩

theorem make_any (z : Zn) (w : World) : Calls Tryz.prog 77 #[.agg (zc z)] w fun e w' => ∃ a, e = .returned (.func (.func 109) #[] #[.pointer (some ⟨a, 0, none⟩)]) ∧ Zat w' a z ∧ Later w w' := by
  have HZ := Lib.hid (Zat.new w z)
  unfold zc at *
  go_enter Tryz.func77, Tryz.ntmps77
  go_wp2
  go_ret
  exact ⟨_, rfl, HZ.out, (Later.refl w).alloc _ _⟩

theorem ck_of (z : Zn) (e0 : wiB z.b (-720) 840 = true) (e1 : wiB z.s 0 120 = true) : ck z = if badB z = true then 62 else 0 := by
  rw [wiB_iff] at e0 e1
  unfold ck
  rw [if_neg (by omega), if_neg (by omega)]

theorem reti {a b : Int} (h : a = b) : Ending.returned (.int .i64 a) = .returned (.int .i64 b) := by rw [h]

theorem check_base (z : Zn) (w : World) (e0 : wiB z.b (-720) 840 = false) : Calls Tryz.prog 49 #[.agg (zc z)] w fun e w' => e = .returned (.int .i64 (ck z)) ∧ Later w w' := by
  have M := Lib.hid (fun W => make_any z W)
  have K := Lib.hid (fun n a b W => within_any n a b W)
  have HV : Hid (60 = ck z) := by
    have : 60 = ck z := by
      have := mt (wiB_iff z.b (-720) 840).2 (by rw [e0]; simp)
      unfold ck; rw [if_pos (by omega)]
    exact this
  unfold zc
  go_enter Tryz.func49, Tryz.ntmps49
  go_wp2_with fail
  refine (M.out _).mono ?_
  rintro e w1 ⟨a, rfl, za, hg1⟩
  obtain ⟨c0, c1, c2, c3, c4, c5, c6, c7, c8, c9⟩ := (Zat.new w z).later hg1
  have HG := Lib.hid (gtrans ((Later.refl w).alloc _ _) hg1)
  clear hg1 za
  go_wp2_with (go_at_call 74; refine (K.out _ _ _ _).mono ?_; rintro e w1 ⟨rfl, rfl⟩)
  go_ret
  exact ⟨reti HV.out, HG.out⟩

theorem check_shift (z : Zn) (w : World) (e0 : wiB z.b (-720) 840 = true) (e1 : wiB z.s 0 120 = false) : Calls Tryz.prog 49 #[.agg (zc z)] w fun e w' => e = .returned (.int .i64 (ck z)) ∧ Later w w' := by
  have M := Lib.hid (fun W => make_any z W)
  have K := Lib.hid (fun n a b W => within_any n a b W)
  have HV : Hid (61 = ck z) := by
    have : 61 = ck z := by
      have h0 := (wiB_iff z.b (-720) 840).1 e0
      have := mt (wiB_iff z.s 0 120).2 (by rw [e1]; simp)
      unfold ck; rw [if_neg (by omega), if_pos (by omega)]
    exact this
  unfold zc
  go_enter Tryz.func49, Tryz.ntmps49
  go_wp2_with fail
  refine (M.out _).mono ?_
  rintro e w1 ⟨a, rfl, za, hg1⟩
  obtain ⟨c0, c1, c2, c3, c4, c5, c6, c7, c8, c9⟩ := (Zat.new w z).later hg1
  have HG := Lib.hid (gtrans ((Later.refl w).alloc _ _) hg1)
  clear hg1 za
  go_wp2_with (go_at_call 74; refine (K.out _ _ _ _).mono ?_; rintro e w1 ⟨rfl, rfl⟩)
  go_ret
  exact ⟨reti HV.out, HG.out⟩

theorem stB_of (z : Zn) (h1 : wrB z.s z.p = false) (h2 : wrB z.s z.q = false) : stB z = decide (z.s = 0) := by
  unfold wrB at h1 h2
  unfold stB
  by_cases h : z.s = 0
  · rw [if_pos h] at h1 h2
    simp at h1 h2
    simp [h, h1, h2]
  · simp [h]

theorem wr_month (s : Int) (t : Tn) (hs : ¬ s = 0) (h : wrB s t = false) : 1 ≤ t.m ∧ t.m ≤ 12 := by
  unfold wrB at h
  rw [if_neg hs] at h
  have := (okB_iff t).1 (by simpa using h)
  omega

set_option maxHeartbeats 2000000 in
theorem check_turn (z : Zn) (w : World) (e0 : wiB z.b (-720) 840 = true) (e1 : wiB z.s 0 120 = true) : Calls Tryz.prog 49 #[.agg (zc z)] w fun e w' => e = .returned (.int .i64 (ck z)) ∧ Later w w' := by
  have M := Lib.hid (fun W => make_any z W)
  have K := Lib.hid (fun n a b W => within_any n a b W)
  have HP := Lib.hid (fun a W hc => wrong_any z.s z.p a W hc)
  have HQ := Lib.hid (fun a W hc => wrong_any z.s z.q a W hc)
  have HS := Lib.hid (fun W => steady_any z W)
  have HC := Lib.hid (ck_of z e0 e1)
  have HB : Hid (badB z = (wrB z.s z.p || (wrB z.s z.q || (!decide (z.s = 0) && !apB z)))) := (rfl : badB z = _)
  have HA := Lib.hid (fun h1 h2 h3 h4 W => apart_any z W h1 h2 h3 h4)
  have HT := Lib.hid (stB_of z)
  have HM := Lib.hid (fun t => wr_month z.s t)
  have HN := Lib.hid (Zat.new w z)
  unfold zc
  go_enter Tryz.func49, Tryz.ntmps49
  go_wp2_with fail
  refine (M.out _).mono ?_
  rintro e w1 ⟨a, rfl, za, hg1⟩
  have HG := Lib.hid (gtrans ((Later.refl w).alloc _ _) hg1)
  have z1 := HN.out.later hg1
  have HZ := Lib.hid z1
  have HY := Lib.hid za
  obtain ⟨c0, c1, c2, c3, c4, c5, c6, c7, c8, c9⟩ := z1
  clear hg1 za
  go_wp2_with (go_at_call 74; refine (K.out _ _ _ _).mono ?_; rintro e w1 ⟨rfl, rfl⟩)
  refine (HP.out _ _ HY.out.2.1).mono ?_
  rintro e w2 ⟨rfl, hg2⟩
  have HG2 := Lib.hid (gtrans HG.out hg2)
  have z2 := HZ.out.later hg2
  have HZ2 := Lib.hid z2
  have HY2 := Lib.hid (HY.out.later hg2)
  clear c0 c1 c2 c3 c4 c5 c6 c7 c8 c9 hg2
  cases p : wrB z.s z.p with
  | true =>
    clear z2
    have HP := Lib.hid p
    clear p
    go_wp2_with fail
    go_ret
    exact ⟨reti (by rw [HC.out, HB.out, HP.out]; rfl), HG2.out⟩
  | false =>
    have HP1 := Lib.hid p
    clear p
    obtain ⟨c0, c1, c2, c3, c4, c5, c6, c7, c8, c9⟩ := z2
    go_wp2_with fail
    refine (HQ.out _ _ HY2.out.2.1).mono ?_
    rintro e w3 ⟨rfl, hg3⟩
    have HG3 := Lib.hid (gtrans HG2.out hg3)
    have z3 := HZ2.out.later hg3
    have HZ3 := Lib.hid z3
    clear c0 c1 c2 c3 c4 c5 c6 c7 c8 c9 hg3
    cases q : wrB z.s z.q with
    | true =>
      clear z3
      have HQ := Lib.hid q
      clear q
      go_wp2_with fail
      go_ret
      exact ⟨reti (by rw [HC.out, HB.out, HP1.out, HQ.out]; rfl), HG3.out⟩
    | false =>
      have HQ1 := Lib.hid q
      clear q
      obtain ⟨c0, c1, c2, c3, c4, c5, c6, c7, c8, c9⟩ := z3
      go_wp2_with fail
      refine (HS.out _).mono ?_
      rintro e w4 ⟨rfl, hg4⟩
      rw [HT.out HP1.out HQ1.out]
      have HG4 := Lib.hid (gtrans HG3.out hg4)
      have z4 := HZ3.out.later hg4
      clear c0 c1 c2 c3 c4 c5 c6 c7 c8 c9 hg4
      obtain ⟨c0, c1, c2, c3, c4, c5, c6, c7, c8, c9⟩ := z4
      by_cases hs : z.s = 0
      · have t : decide (z.s = 0) = true := by simpa using hs
        have HS0 := Lib.hid hs
        rw [t]
        clear t hs
        go_wp2_with fail
        go_ret
        exact ⟨reti (by rw [HC.out, HB.out, HP1.out, HQ1.out]; simp [HS0.out]), HG4.out⟩
      · have t : decide (z.s = 0) = false := by simpa using hs
        obtain ⟨m1, m2⟩ := HM.out z.p hs HP1.out
        obtain ⟨m3, m4⟩ := HM.out z.q hs HQ1.out
        have HA1 := Lib.hid (HA.out m1 m2 m3 m4)
        have HS0 := Lib.hid hs
        rw [t]
        clear t hs m1 m2 m3 m4
        go_wp2_with fail
        refine (HA1.out _).mono ?_
        rintro e w5 ⟨rfl, hg5⟩
        clear c0 c1 c2 c3 c4 c5 c6 c7 c8 c9
        cases ap : apB z with
        | true =>
          go_wp2_with fail
          go_ret
          exact ⟨reti (by rw [HC.out, HB.out, HP1.out, HQ1.out]; simp [HS0.out, ap]), gtrans HG4.out hg5⟩
        | false =>
          go_wp2_with fail
          go_ret
          exact ⟨reti (by rw [HC.out, HB.out, HP1.out, HQ1.out]; simp [HS0.out, ap]), gtrans HG4.out hg5⟩

theorem check_any (z : Zn) (w : World) : Calls Tryz.prog 49 #[.agg (zc z)] w fun e w' => e = .returned (.int .i64 (ck z)) ∧ Later w w' := by
  cases e0 : wiB z.b (-720) 840 with
  | false => exact check_base z w e0
  | true =>
    cases e1 : wiB z.s 0 120 with
    | false => exact check_shift z w e0 e1
    | true => exact check_turn z w e0 e1

end Go.Proofs.YtihdijkplmfhfaaGreatDoor.Zone

/- What the zone's Summer and Local answer, by the program. Conditions: the numbers are ints, the table of months lies where the program lays it, as each theorem says. -/
namespace Go.Proofs.YtihdijkplmfhfaaGreatDoor.Zone
set_option maxRecDepth 100000
open Go.ChangeShapes Go.WideShapes Go.ChangeAt Go.RowKit
open Go.Proofs.YtihdijkplmfhfaaGreatDoor.Divs Go.Proofs.YtihdijkplmfhfaaGreatDoor.Grow
open Go.Proofs.YtihdijkplmfhfaaGreatDoor.Greg (Laid nthV nthE)
open Go.Proofs.YtihdijkplmfhfaaGreatDoor.Cal (ya yr om od)
open Go.Proofs.YtihdijkplmfhfaaGreatDoor.Zo

theorem split_any (n : Int) (w : World) (h0 : -9223372036854775808 ≤ n) (h1 : n ≤ 9223372036854775807) : Calls Tryz.prog 48 #[.int .i64 n] w fun e w' => e = .returned (.tuple #[.int .i64 (n / 1440), .int .i64 (n % 1440)]) ∧ Later w w' := by
  have D := Lib.hid (fun W => drew_g (div_yes n 1440 W h0 h1 (by omega) (by omega)))
  have M := Lib.hid (fun W => drew_g (mod_yes n 1440 W h0 h1 (by omega) (by omega)))
  go_enter Tryz.func48, Tryz.ntmps48
  go_wp2_with fail
  refine (D.out _).mono ?_
  rintro e w1 ⟨rfl, hg1⟩
  go_wp2_with fail
  refine (M.out _).mono ?_
  rintro e w2 ⟨rfl, hg2⟩
  go_wp2_with fail
  go_ret2
  exact ⟨rfl, gtrans hg1 hg2⟩

theorem year_any (z : Zn) (t : Int) (w : World) (hL : Laid w) (t0 : -9000000000000000000 ≤ t) (t1 : t ≤ 9000000000000000000) (b0 : -720 ≤ z.b) (b1 : z.b ≤ 840) (h1 : 1 ≤ (t + z.b) / 1440) (h2 : (t + z.b) / 1440 ≤ 3652059) :
    Calls Tryz.prog 107 #[.agg (zc z), .int .i64 t] w fun e w' => e = .returned (.int .i64 (yz z t)) ∧ Later w w' := by
  have S := Lib.hid (fun W => split_any (t + z.b) W (by omega) (by omega))
  have O := Lib.hid (fun W hW => Greg.of_yes ((t + z.b) / 1440) W hW h1 h2)
  have HV : Hid (yr ((t + z.b) / 1440) = yz z t) := (rfl : yr ((t + z.b) / 1440) = yz z t)
  have HL := Lib.hid hL
  clear h1 h2 hL
  unfold zc
  go_enter Tryz.func107, Tryz.ntmps107
  go_wp2_with fail
  refine (S.out _).mono ?_
  rintro e w1 ⟨rfl, hg1⟩
  have HG1 := Lib.hid (gtrans ((Later.refl w).alloc _ _) hg1)
  clear hg1
  go_wp2_with fail
  refine (O.out _ (HL.out.grown HG1.out)).mono ?_
  rintro e w2 ⟨rfl, hg2⟩
  go_wp2_with fail
  go_ret
  exact ⟨reti HV.out, gtrans HG1.out (hg2.alloc _ _)⟩

theorem wn_fits (t : Tn) (y : Int) (h1 : 1 ≤ y) (h2 : y ≤ 9999) (h : okB t = true) : 0 ≤ nthV y t.m t.v (wk t.k) ∧ nthV y t.m t.v (wk t.k) ≤ 3652059 ∧ 0 ≤ t.u ∧ t.u ≤ 1439 := by
  obtain ⟨a, b⟩ := nth_year y t h1 h2 h
  have c := Cal.ya_bd y h1 (by omega)
  have d := Cal.ya_bd (y + 1) (by omega) (by omega)
  rw [okB_iff] at h
  omega

theorem turnat_any (z : Zn) (t : Tn) (y : Int) (w : World) (hL : Laid w) (b0 : -720 ≤ z.b) (b1 : z.b ≤ 840) (h1 : 1 ≤ y) (h2 : y ≤ 9999) (h : okB t = true) :
    Calls Tryz.prog 108 #[.agg (zc z), .agg (tc t), .int .i64 y] w fun e w' => e = .returned (.int .i64 (wn z t y)) ∧ Later w w' := by
  have N := Lib.hid (fun k W hW => Greg.nth_all y t.m t.v k W hW)
  obtain ⟨f0, f1, f2, f3⟩ := wn_fits t y h1 h2 h
  have HV : Hid (nthV y t.m t.v (wk t.k) * 1440 + t.u - z.b = wn z t y) := (rfl : _ = wn z t y)
  have HZ := Lib.hid (Zat.new w z)
  have HL := Lib.hid hL
  have hT : ∀ w1, Later ((w.alloc (.cells (zc z) 28)).alloc (.cells (tc t) 26)) w1 → w1.cell? ⟨w.heap.size + 1, 3, none⟩ = some (.int .i64 t.u) := by
    intro w1 hg
    refine gsome hg ?_
    simp [tc]
  have HT := Lib.hid hT
  clear hT hL h h1 h2
  unfold wk at f0 f1 HV
  unfold zc tc
  by_cases h5 : t.k = 5
  · have e5 : (t.k == 5) = true := by simpa using h5
    rw [if_pos h5] at f0 f1 HV
    clear h5
    go_enter Tryz.func108, Tryz.ntmps108
    go_wp2_with fail
    refine (N.out _ _ (HL.out.grown (((Later.refl w).alloc _ _).alloc _ _))).mono ?_
    rintro e w1 ⟨rfl, hg1⟩
    have c3 := HT.out w1 hg1
    obtain ⟨c0, _⟩ := HZ.out.later (gtrans ((Later.refl _).alloc _ _) hg1)
    go_wp2_with fail
    go_ret
    exact ⟨reti HV.out, gtrans (((Later.refl w).alloc _ _).alloc _ _) hg1⟩
  · have e5 : (t.k == 5) = false := by simpa using h5
    rw [if_neg h5] at f0 f1 HV
    clear h5
    go_enter Tryz.func108, Tryz.ntmps108
    go_wp2_with fail
    refine (N.out _ _ (HL.out.grown (((Later.refl w).alloc _ _).alloc _ _))).mono ?_
    rintro e w1 ⟨rfl, hg1⟩
    have c3 := HT.out w1 hg1
    obtain ⟨c0, _⟩ := HZ.out.later (gtrans ((Later.refl _).alloc _ _) hg1)
    go_wp2_with fail
    go_ret
    exact ⟨reti HV.out, gtrans (((Later.refl w).alloc _ _).alloc _ _) hg1⟩

theorem stB_may (z : Zn) (h : May z) : stB z = decide (z.s = 0) := by
  unfold May at h
  unfold stB
  rcases h with ⟨_, _, _, _, ⟨a, b, c⟩ | ⟨a, _⟩⟩
  · simp [a, b, c]
  · have : ¬ z.s = 0 := by omega
    simp [this]

theorem shifted_no (z : Zn) (t : Int) (w : World) (h : May z) (hs : z.s = 0) : Calls Tryz.prog 75 #[.agg (zc z), .int .i64 t] w fun e w' => e = .returned (.bool (sm z t)) ∧ Later w w' := by
  have S := fun W => steady_any z W
  rw [show stB z = true by rw [stB_may z h]; simpa using hs] at S
  have HS := Lib.hid S
  have HV := Lib.hid (sm_zero z t hs)
  clear S hs h
  unfold zc
  go_enter Tryz.func75, Tryz.ntmps75
  go_wp2_with fail
  refine (HS.out _).mono ?_
  rintro e w1 ⟨rfl, hg1⟩
  go_wp2_with fail
  go_ret
  exact ⟨retb HV.out.symm, gtrans ((Later.refl w).alloc _ _) hg1⟩

theorem inB_lt (a b t : Int) (h : a < b) : inB a b t = (decide (a ≤ t) && decide (t < b)) := by
  unfold inB; rw [if_pos h]; simp

theorem inB_ge (a b t : Int) (h : ¬ a < b) : inB a b t = (decide (t < b) || decide (a ≤ t)) := by
  unfold inB; rw [if_neg h]; simp

set_option maxHeartbeats 2000000 in
theorem shifted_yes (z : Zn) (t : Int) (w : World) (hL : Laid w) (h : May z) (hs : ¬ z.s = 0) (t0 : 576000 ≤ t) (t1 : t ≤ 5258879999) : Calls Tryz.prog 75 #[.agg (zc z), .int .i64 t] w fun e w' => e = .returned (.bool (sm z t)) ∧ Later w w' := by
  have S := fun W => steady_any z W
  rw [show stB z = false by rw [stB_may z h]; simpa using hs] at S
  have HS := Lib.hid S
  obtain ⟨d0, d1⟩ := day_bd z t h t0 t1
  obtain ⟨y0, y1, _, _⟩ := Cal.yr_spec _ d0 d1
  obtain ⟨op, oq, _⟩ := may_on z h hs
  have Y := Lib.hid (fun W hW => year_any z t W hW (by omega) (by omega) h.1 h.2.1 d0 d1)
  have hok : ∀ x : Tn, x = z.p ∨ x = z.q → okB x = true := by rintro x (rfl | rfl) <;> assumption
  have T := Lib.hid (fun (x : Tn) W hW hx => turnat_any z x (yz z t) W hW h.1 h.2.1 y0 y1 (hok x hx))
  have HV : Hid (sm z t = inB (wn z z.p (yz z t)) (wn z z.q (yz z t)) t) := by
    have : sm z t = inB (wn z z.p (yz z t)) (wn z z.q (yz z t)) t := by unfold sm; rw [if_neg hs]
    exact this
  have HN := Lib.hid (Zat.new w z)
  have HL := Lib.hid hL
  have ha := wn_fits z.p _ y0 y1 op
  have hb := wn_fits z.q _ y0 y1 oq
  clear S hs d0 d1 y0 y1 op oq hL ha hb hok
  unfold zc
  go_enter Tryz.func75, Tryz.ntmps75
  go_wp2_with fail
  refine (HS.out _).mono ?_
  rintro e w1 ⟨rfl, hg1⟩
  have HG1 := Lib.hid (gtrans ((Later.refl w).alloc _ _) hg1)
  have z1 := HN.out.later hg1
  have HZ1 := Lib.hid z1
  obtain ⟨c0, c1, c2, c3, c4, c5, c6, c7, c8, c9⟩ := z1
  clear hg1
  go_wp2_with fail
  refine (Y.out _ (HL.out.grown HG1.out)).mono ?_
  rintro e w2 ⟨rfl, hg2⟩
  clear c0 c1 c2 c3 c4 c5 c6 c7 c8 c9
  go_wp2_with fail
  have HG2 := Lib.hid (gtrans HG1.out hg2)
  obtain ⟨k0, k1, k2, k3, k4, k5, k6, k7, k8, k9⟩ := HZ1.out.later hg2
  have c0 := gw_cell k0
  have c1 := gw_cell k1
  have c2 := gw_cell k2
  have c3 := gw_cell k3
  have c4 := gw_cell k4
  have c5 := gw_cell k5
  have c6 := gw_cell k6
  have c7 := gw_cell k7
  have c8 := gw_cell k8
  have c9 := gw_cell k9
  have hL2 : Laid w2 := HL.out.grown HG2.out
  clear k0 k1 k2 k3 k4 k5 k6 k7 k8 k9 hg2
  refine region_grown (by kernel_rfl) (by kernel_rfl) ?_
  repeat (go_big_quiet_step ((go_at_call 108; refine in_grown (T.out _ _ (hL2.gw _) ?_); first | exact .inl rfl | exact .inr rfl)))
  refine wpQuiet_nil (grown_end ?_)
  intro w3 hg3
  clear c0 c1 c2 c3 c4 c5 c6 c7 c8 c9
  have HG3 := Lib.hid (gtrans HG2.out hg3)
  clear hg3
  generalize wn z z.p (yz z t) = a at *
  generalize wn z z.q (yz z t) = b at *
  by_cases hab : a < b
  · by_cases h1 : a ≤ t
    · have R := Lib.hid (show inB a b t = decide (t < b) by rw [inB_lt a b t hab]; simp [h1])
      go_wp2_with fail
      go_ret
      exact ⟨retb (by rw [HV.out, R.out]), HG3.out⟩
    · have R := Lib.hid (show inB a b t = false by rw [inB_lt a b t hab]; simp [h1])
      go_wp2_with fail
      go_ret
      exact ⟨retb (by rw [HV.out, R.out]), HG3.out⟩
  · by_cases h1 : t < b
    · have R := Lib.hid (show inB a b t = true by rw [inB_ge a b t hab]; simp [h1])
      go_wp2_with fail
      go_ret
      exact ⟨retb (by rw [HV.out, R.out]), HG3.out⟩
    · have R := Lib.hid (show inB a b t = decide (a ≤ t) by rw [inB_ge a b t hab]; simp [h1])
      go_wp2_with fail
      go_ret
      exact ⟨retb (by rw [HV.out, R.out]), HG3.out⟩

theorem shifted_any (z : Zn) (t : Int) (w : World) (hL : Laid w) (h : May z) (t0 : 576000 ≤ t) (t1 : t ≤ 5258879999) : Calls Tryz.prog 75 #[.agg (zc z), .int .i64 t] w fun e w' => e = .returned (.bool (sm z t)) ∧ Later w w' := by
  by_cases hs : z.s = 0
  · exact shifted_no z t w h hs
  · exact shifted_yes z t w hL h hs t0 t1

/-- The error of an instant. -/
def sE (z : Zn) (t : Int) : Int := if ck z = 0 then (if 576000 ≤ t ∧ t ≤ 5258879999 then 0 else 63) else ck z

/-- Whether clocks are shifted, or false, and what they tell, or 0. -/
def sV (z : Zn) (t : Int) : Bool := if sE z t = 0 then sm z t else false

def lD (z : Zn) (t : Int) : Int := if sE z t = 0 then td z t / 1440 else 0

def lM (z : Zn) (t : Int) : Int := if sE z t = 0 then td z t % 1440 else 0

theorem sE_ok (z : Zn) (t : Int) : sE z t = 0 ↔ May z ∧ 576000 ≤ t ∧ t ≤ 5258879999 := by
  unfold sE
  rw [← ck_may]
  by_cases h : ck z = 0
  · rw [if_pos h]; split <;> omega
  · rw [if_neg h]; omega

theorem retbi {a b : Bool} {c d : Int} (h1 : a = b) (h2 : c = d) : Ending.returned (.tuple #[.bool a, .int .i64 c]) = .returned (.tuple #[.bool b, .int .i64 d]) := by rw [h1, h2]

theorem ret3 {a b c a' b' c' : Int} (h1 : a = a') (h2 : b = b') (h3 : c = c') : Ending.returned (.tuple #[.int .i64 a, .int .i64 b, .int .i64 c]) = .returned (.tuple #[.int .i64 a', .int .i64 b', .int .i64 c']) := by rw [h1, h2, h3]

theorem summer_any (z : Zn) (t : Int) (w : World) (hL : Laid w) : Calls Tryz.prog 47 #[.agg (zc z), .int .i64 t] w fun e w' => e = .returned (.tuple #[.bool (sV z t), .int .i64 (sE z t)]) ∧ Later w w' := by
  have C := Lib.hid (fun W => check_any z W)
  have K := Lib.hid (fun n a b W => within_any n a b W)
  have HN := Lib.hid (Zat.new w z)
  have HL := Lib.hid hL
  clear hL
  by_cases h0 : ck z = 0
  · have e0 : (ck z != 0) = false := by simpa using h0
    by_cases ht : 576000 ≤ t ∧ t ≤ 5258879999
    · have e1 : wiB t 576000 5258879999 = true := (wiB_iff _ _ _).2 ht
      have hE : sE z t = 0 := by unfold sE; rw [if_pos h0, if_pos ht]
      have HE := Lib.hid hE
      have HV : Hid (sm z t = sV z t) := by
        have : sm z t = sV z t := by unfold sV; rw [if_pos hE]
        exact this
      have S := Lib.hid (fun W hW => shifted_any z t W hW ((ck_may z).1 h0) ht.1 ht.2)
      clear h0 ht hE
      unfold zc
      go_enter Tryz.func47, Tryz.ntmps47
      go_wp2_with fail
      refine (C.out _).mono ?_
      rintro e w1 ⟨rfl, hg1⟩
      have HG1 := Lib.hid (gtrans ((Later.refl w).alloc _ _) hg1)
      obtain ⟨c0, c1, c2, c3, c4, c5, c6, c7, c8, c9⟩ := HN.out.later hg1
      clear hg1
      go_wp2_with (go_at_call 74; refine (K.out _ _ _ _).mono ?_; rintro e w1 ⟨rfl, rfl⟩)
      refine (S.out _ (HL.out.grown HG1.out)).mono ?_
      rintro e w2 ⟨rfl, hg2⟩
      clear c0 c1 c2 c3 c4 c5 c6 c7 c8 c9
      go_wp2_with fail
      go_ret2
      exact ⟨retbi HV.out HE.out.symm, gtrans HG1.out hg2⟩
    · have e1 : wiB t 576000 5258879999 = false := by
        cases hw : wiB t 576000 5258879999 with
        | false => rfl
        | true => exact absurd ((wiB_iff _ _ _).1 hw) ht
      have hE : sE z t = 63 := by unfold sE; rw [if_pos h0, if_neg ht]
      have HE := Lib.hid hE
      have HV : Hid (false = sV z t) := by
        have : false = sV z t := by unfold sV; rw [if_neg (by omega)]
        exact this
      clear h0 ht hE
      unfold zc
      go_enter Tryz.func47, Tryz.ntmps47
      go_wp2_with fail
      refine (C.out _).mono ?_
      rintro e w1 ⟨rfl, hg1⟩
      have HG1 := Lib.hid (gtrans ((Later.refl w).alloc _ _) hg1)
      clear hg1
      go_wp2_with (go_at_call 74; refine (K.out _ _ _ _).mono ?_; rintro e w1 ⟨rfl, rfl⟩)
      go_ret2
      exact ⟨retbi HV.out HE.out.symm, HG1.out⟩
  · have e0 : (ck z != 0) = true := by simpa using h0
    have hE : sE z t = ck z := by unfold sE; rw [if_neg h0]
    have HE := Lib.hid hE
    have HV : Hid (false = sV z t) := by
      have : false = sV z t := by unfold sV; rw [if_neg (by omega)]
      exact this
    clear h0 hE
    unfold zc
    go_enter Tryz.func47, Tryz.ntmps47
    go_wp2_with fail
    refine (C.out _).mono ?_
    rintro e w1 ⟨rfl, hg1⟩
    have HG1 := Lib.hid (gtrans ((Later.refl w).alloc _ _) hg1)
    clear hg1
    go_wp2_with fail
    go_ret2
    exact ⟨retbi HV.out HE.out.symm, HG1.out⟩

theorem local_any (z : Zn) (t : Int) (w : World) (hL : Laid w) : Calls Tryz.prog 22 #[.agg (zc z), .int .i64 t] w fun e w' => e = .returned (.tuple #[.int .i64 (lD z t), .int .i64 (lM z t), .int .i64 (sE z t)]) ∧ Later w w' := by
  have S := Lib.hid (fun W hW => summer_any z t W hW)
  have HN := Lib.hid (Zat.new w z)
  have HL := Lib.hid (hL.grown ((Later.refl w).alloc (zc z) 28))
  clear hL
  by_cases hE : sE z t = 0
  · have e0 : (sE z t != 0) = false := by simpa using hE
    obtain ⟨hm, t0, t1⟩ := (sE_ok z t).1 hE
    have HD : Hid (lD z t = td z t / 1440) := by
      have : lD z t = td z t / 1440 := by unfold lD; rw [if_pos hE]
      exact this
    have HM : Hid (lM z t = td z t % 1440) := by
      have : lM z t = td z t % 1440 := by unfold lM; rw [if_pos hE]
      exact this
    have HV : Hid (sV z t = sm z t) := by
      have : sV z t = sm z t := by unfold sV; rw [if_pos hE]
      exact this
    have HE := Lib.hid hE
    unfold May at hm
    obtain ⟨b0, b1, s0, s1, _⟩ := hm
    clear hE
    have hc : (sm z t = true ∧ td z t = t + (z.b + z.s)) ∨ (sm z t = false ∧ td z t = t + z.b) := by
      rcases td_cases z t with ⟨hs, ht⟩ | ⟨hs, ht⟩
      · exact .inl ⟨hs, by omega⟩
      · exact .inr ⟨hs, ht⟩
    rcases hc with ⟨hs, ht⟩ | ⟨hs, ht⟩
    all_goals
      have HT := Lib.hid ht
      have HS := Lib.hid hs
      have P := Lib.hid (fun W => split_any (td z t) W (by omega) (by omega))
      rw [ht] at P
      clear ht hs
      unfold zc at HL ⊢
      go_enter Tryz.func22, Tryz.ntmps22
      go_wp2_with fail
      refine (S.out _ HL.out).mono ?_
      rintro e w1 ⟨rfl, hg1⟩
      rw [HV.out, HS.out]
      have HG1 := Lib.hid (gtrans ((Later.refl w).alloc _ _) hg1)
      obtain ⟨c0, c1, c2, c3, c4, c5, c6, c7, c8, c9⟩ := HN.out.later hg1
      clear hg1
      go_wp2_with fail
      refine (P.out _).mono ?_
      rintro e w2 ⟨rfl, hg2⟩
      go_wp2_with fail
      go_ret3
      exact ⟨ret3 (by rw [HD.out, HT.out]) (by rw [HM.out, HT.out]) HE.out.symm, gtrans HG1.out hg2⟩
  · have e0 : (sE z t != 0) = true := by simpa using hE
    have HD : Hid (0 = lD z t) := by
      have : 0 = lD z t := by unfold lD; rw [if_neg hE]
      exact this
    have HM : Hid (0 = lM z t) := by
      have : 0 = lM z t := by unfold lM; rw [if_neg hE]
      exact this
    clear hE
    unfold zc at HL ⊢
    go_enter Tryz.func22, Tryz.ntmps22
    go_wp2_with fail
    refine (S.out _ HL.out).mono ?_
    rintro e w1 ⟨rfl, hg1⟩
    have HG1 := Lib.hid (gtrans ((Later.refl w).alloc _ _) hg1)
    clear hg1
    go_wp2_with fail
    go_ret3
    exact ⟨ret3 HD.out HM.out rfl, HG1.out⟩

end Go.Proofs.YtihdijkplmfhfaaGreatDoor.Zone

/- What Instants answers, by the program. Conditions: the numbers are ints, the table of months lies where the program lays it. -/
namespace Go.Proofs.YtihdijkplmfhfaaGreatDoor.Zone
set_option maxRecDepth 100000
open Go.ChangeShapes Go.WideShapes Go.ChangeAt Go.RowKit
open Go.Proofs.YtihdijkplmfhfaaGreatDoor.Divs Go.Proofs.YtihdijkplmfhfaaGreatDoor.Grow
open Go.Proofs.YtihdijkplmfhfaaGreatDoor.Greg (Laid)
open Go.Proofs.YtihdijkplmfhfaaGreatDoor.Zo

theorem info_int : (Tryz.prog.info? 3).map (fun i => (i.zero, i.size, i.bytes)) = some (some (.int .i64 0), 1, 8) := by kernel_rfl

/-- v is a slice of these numbers, its cells laid since the world had b blocks. -/
def SL (W : World) (b : Nat) (v : Value) (xs : List Int) : Prop := W.ownsRow b 3 1 v xs.length (xs.map (Value.int .i64))

theorem SL.later {W W' : World} {b : Nat} {v : Value} {xs : List Int} (h : SL W b v xs) (g : Later W W') : SL W' b v xs :=
  World.ownsRow.kept h g.grownBy (by cases v.ownBlock <;> simp)

theorem later_grown {w a b : World} {v : Value} {xs : List Int} (g : Later w a) (f : SL a w.heap.size v xs) (k : a.grownBy b v.ownBlock) : Later w b :=
  Later.of_below (g.below.grown k g.size (fun j e => (World.ownsRow.lt f j e).1))

/-- v is a slice of these numbers. -/
def Sl (W : World) (v : Value) (xs : List Int) : Prop :=
  (xs = [] ∧ v = .slice none 0 0) ∨ ∃ g cap, v = .slice (some ⟨g, 0, none⟩) xs.length cap ∧ ∀ (i : Nat) (a : Int), xs[i]? = some a → W.cell? ⟨g, i, none⟩ = some (.int .i64 a)

theorem Sl.later {W W' : World} {v : Value} {xs : List Int} (h : Sl W v xs) (g : Later W W') : Sl W' v xs := by
  rcases h with h | ⟨b, cap, e, h⟩
  · exact .inl h
  · exact .inr ⟨b, cap, e, fun i a hi => gsome g (h i a hi)⟩

theorem add_zero (g j : Nat) : (⟨g, 0, none⟩ : Addr).add j = ⟨g, j, none⟩ := by
  unfold Addr.add
  split
  · rename_i h
    rw [h]
  · simp

theorem SL.sl {W : World} {b : Nat} {v : Value} {xs : List Int} (h : SL W b v xs) : Sl W v xs := by
  rcases h.2 with ⟨e, h0⟩ | ⟨g, cap, cur, rfl, _⟩
  · exact .inl ⟨List.length_eq_zero_iff.1 h0, e⟩
  · refine .inr ⟨g, cap, rfl, fun i a hi => ?_⟩
    have c := World.ownsRow.cells h (g := g) rfl i (.int .i64 a) (by rw [List.getElem?_map, hi]; rfl)
    rwa [add_zero] at c

/-- The error of a minute, and the instants that tell it. -/
def iE (z : Zn) (d m : Int) : Int := if ck z = 0 then (if 401 ≤ d ∧ d ≤ 3651998 ∧ 0 ≤ m ∧ m ≤ 1439 then 0 else 64) else ck z

def iL (z : Zn) (d m : Int) : List Int := if iE z d m = 0 then ins z (d * 1440 + m) else []

theorem iE_ok (z : Zn) (d m : Int) : iE z d m = 0 ↔ May z ∧ 401 ≤ d ∧ d ≤ 3651998 ∧ 0 ≤ m ∧ m ≤ 1439 := by
  unfold iE
  rw [← ck_may]
  by_cases h : ck z = 0
  · rw [if_pos h]; split <;> omega
  · rw [if_neg h]; omega

theorem retsi {v : Value} {c d : Int} (h : c = d) : Ending.returned (.tuple #[v, .int .i64 c]) = .returned (.tuple #[v, .int .i64 d]) := by rw [h]

theorem iL_no (z : Zn) (d m : Int) (h : ¬ iE z d m = 0) : iL z d m = [] := by unfold iL; rw [if_neg h]

theorem sl_nil (W : World) : Sl W (.slice none 0 0) [] := .inl ⟨rfl, rfl⟩

theorem wiB_not (n a b : Int) (h : ¬ (a ≤ n ∧ n ≤ b)) : wiB n a b = false := by
  cases hw : wiB n a b with
  | false => rfl
  | true => exact absurd ((wiB_iff _ _ _).1 hw) h

theorem instants_no (z : Zn) (d m : Int) (w : World) (h : ¬ iE z d m = 0) : Calls Tryz.prog 80 #[.agg (zc z), .int .i64 d, .int .i64 m] w fun e w' => ∃ v, e = .returned (.tuple #[v, .int .i64 (iE z d m)]) ∧ Sl w' v (iL z d m) ∧ Later w w' := by
  have C := Lib.hid (fun W => check_any z W)
  have K := Lib.hid (fun n a b W => within_any n a b W)
  rw [iL_no z d m h]
  by_cases h0 : ck z = 0
  · have e0 : (ck z != 0) = false := by simpa using h0
    have HE : Hid (64 = iE z d m) := by
      have : 64 = iE z d m := by
        unfold iE at h ⊢; rw [if_pos h0] at h ⊢
        split at h
        · exact absurd rfl h
        · rename_i g; rw [if_neg g]
      exact this
    by_cases hd : 401 ≤ d ∧ d ≤ 3651998
    · have e1 := (wiB_iff d 401 3651998).2 hd
      have e2 := wiB_not m 0 1439 (by
        intro hm
        unfold iE at h; rw [if_pos h0, if_pos (by omega)] at h
        exact h rfl)
      clear h h0 hd
      unfold zc
      go_enter Tryz.func80, Tryz.ntmps80
      go_wp2_with fail
      refine (C.out _).mono ?_
      rintro e w1 ⟨rfl, hg1⟩
      go_wp2_with (go_at_call 74; refine (K.out _ _ _ _).mono ?_; rintro e w1 ⟨rfl, rfl⟩)
      go_ret2
      exact ⟨_, retsi HE.out, sl_nil _, gtrans ((Later.refl w).alloc _ _) hg1⟩
    · have e1 := wiB_not d 401 3651998 hd
      clear h h0 hd
      unfold zc
      go_enter Tryz.func80, Tryz.ntmps80
      go_wp2_with fail
      refine (C.out _).mono ?_
      rintro e w1 ⟨rfl, hg1⟩
      go_wp2_with (go_at_call 74; refine (K.out _ _ _ _).mono ?_; rintro e w1 ⟨rfl, rfl⟩)
      go_ret2
      exact ⟨_, retsi HE.out, sl_nil _, gtrans ((Later.refl w).alloc _ _) hg1⟩
  · have e0 : (ck z != 0) = true := by simpa using h0
    have HE : Hid (ck z = iE z d m) := by
      have : ck z = iE z d m := by unfold iE; rw [if_neg h0]
      exact this
    clear h h0
    unfold zc
    go_enter Tryz.func80, Tryz.ntmps80
    go_wp2_with fail
    refine (C.out _).mono ?_
    rintro e w1 ⟨rfl, hg1⟩
    go_wp2_with fail
    go_ret2
    exact ⟨_, retsi HE.out, sl_nil _, gtrans ((Later.refl w).alloc _ _) hg1⟩

set_option maxHeartbeats 2000000 in
theorem instants_yes (z : Zn) (d m : Int) (w : World) (hL : Laid w) (h : iE z d m = 0) : Calls Tryz.prog 80 #[.agg (zc z), .int .i64 d, .int .i64 m] w fun e w' => ∃ v, e = .returned (.tuple #[v, .int .i64 (iE z d m)]) ∧ Sl w' v (iL z d m) ∧ Later w w' := by
  obtain ⟨hz, d0, d1, m0, m1⟩ := (iE_ok z d m).1 h
  have hz' := hz
  unfold May at hz'
  obtain ⟨b0, b1, s0, s1, _⟩ := hz'
  have C := Lib.hid (fun W => check_any z W)
  have K := Lib.hid (fun n a b W => within_any n a b W)
  have S1 := Lib.hid (fun W hW => shifted_any z (d * 1440 + m - z.b - z.s) W hW hz (by omega) (by omega))
  have S2 := Lib.hid (fun W hW => shifted_any z (d * 1440 + m - z.b) W hW hz (by omega) (by omega))
  have HN := Lib.hid (Zat.new w z)
  have HL := Lib.hid (hL.grown ((Later.refl w).alloc (zc z) 28))
  have HW := Lib.hid ((Later.refl w).alloc (zc z) 28)
  have HE := Lib.hid h
  have e0 : (ck z != 0) = false := by simpa using (ck_may z).2 hz
  have e1 := (wiB_iff d 401 3651998).2 ⟨d0, d1⟩
  have e2 := (wiB_iff m 0 1439).2 ⟨m0, m1⟩
  have HI' : iL z d m = ins z (d * 1440 + m) := by unfold iL; rw [if_pos h]
  obtain ⟨i0, hi, hz0, hz1, hz2⟩ := info_parts info_int
  have HI := Lib.hid hi
  have HZ0 := Lib.hid hz0
  have HZ1 := Lib.hid hz1
  have HZ2 := Lib.hid hz2
  clear hi hz0 hz1 hz2 hL h hz
  unfold ins at HI'
  rw [HI']
  clear HI'
  cases p : sm z (d * 1440 + m - z.b - z.s) <;> cases q : sm z (d * 1440 + m - z.b)
  · rw [p] at S1; rw [q] at S2
    clear p q
    unfold zc
    go_enter Tryz.func80, Tryz.ntmps80
    go_wp2_with fail
    refine (C.out _).mono ?_
    rintro e w1 ⟨rfl, hg1⟩
    have HL1 : Hid (Later (w.alloc (.cells (zc z) 28)) w1) := Lib.hid hg1
    obtain ⟨c0, c1, c2, c3, c4, c5, c6, c7, c8, c9⟩ := HN.out.later HL1.out
    clear hg1
    go_wp2_with (go_at_call 74; refine (K.out _ _ _ _).mono ?_; rintro e w1 ⟨rfl, rfl⟩)
    refine (S1.out _ (HL.out.grown HL1.out)).mono ?_
    rintro e w2 ⟨rfl, hg2⟩
    have HL2 := Lib.hid (gtrans HL1.out hg2)
    clear c0 c1 c2 c3 c4 c5 c6 c7 c8 c9
    obtain ⟨c0, c1, c2, c3, c4, c5, c6, c7, c8, c9⟩ := HN.out.later HL2.out
    clear hg2
    go_wp2_with fail
    refine (S2.out _ (HL.out.grown HL2.out)).mono ?_
    rintro e w5 ⟨rfl, hg5⟩
    have HL5 := Lib.hid (gtrans HL2.out hg5)
    clear c0 c1 c2 c3 c4 c5 c6 c7 c8 c9
    obtain ⟨c0, c1, c2, c3, c4, c5, c6, c7, c8, c9⟩ := HN.out.later HL5.out
    clear hg5
    have ON : SL w5 (w.alloc (.cells (zc z) 28)).heap.size (.slice none 0 0) [] := World.ownsRow_nil _ _ _ _
    go_wp2_with (at_builtin; go_loud (refine wpList_append_own _ rfl _ _ 22 rfl (w.alloc (.cells (zc z) 28)).heap.size 3 i0 (.int .i64 0) 1 8 Tryz.underlying22 HI.out HZ0.out HZ1.out HZ2.out rfl (by decide) _ _ _ rfl (World.ownsRow.alloc ON _) ⟨w5.heap.size, 0, none⟩ 1 1 [.int .i64 (d * 1440 + m - z.b)] rfl rfl (cell_one_new _ _ _) (by simp [Value.oneCell']) (by simp only [maxLen]; simp) (by simp) (by have := HL5.out.size; simp only [World.size_alloc] at this ⊢; omega) ?_); go_loud (intro v' w4 hown' hgrow _; obtain ⟨g', cap', rfl⟩ := ownsRow_succ hown'; have HL6 := Lib.hid (later_grown (xs := ([] : List Int)) (HL5.out.put _) (ON.later ((Later.refl _).put _)) hgrow); have HO6 : Hid (SL w4 (w.alloc (.cells (zc z) 28)).heap.size _ (([] : List Int) ++ [d * 1440 + m - z.b])) := Lib.hid (by unfold SL; rw [List.length_append, List.map_append]; exact hown'); clear hown' hgrow; obtain ⟨c0, c1, c2, c3, c4, c5, c6, c7, c8, c9⟩ := HN.out.later HL6.out))
    go_ret2
    exact ⟨_, retsi HE.out.symm, HO6.out.sl, gtrans HW.out HL6.out⟩
  · rw [p] at S1; rw [q] at S2
    clear p q
    unfold zc
    go_enter Tryz.func80, Tryz.ntmps80
    go_wp2_with fail
    refine (C.out _).mono ?_
    rintro e w1 ⟨rfl, hg1⟩
    have HL1 : Hid (Later (w.alloc (.cells (zc z) 28)) w1) := Lib.hid hg1
    obtain ⟨c0, c1, c2, c3, c4, c5, c6, c7, c8, c9⟩ := HN.out.later HL1.out
    clear hg1
    go_wp2_with (go_at_call 74; refine (K.out _ _ _ _).mono ?_; rintro e w1 ⟨rfl, rfl⟩)
    refine (S1.out _ (HL.out.grown HL1.out)).mono ?_
    rintro e w2 ⟨rfl, hg2⟩
    have HL2 := Lib.hid (gtrans HL1.out hg2)
    clear c0 c1 c2 c3 c4 c5 c6 c7 c8 c9
    obtain ⟨c0, c1, c2, c3, c4, c5, c6, c7, c8, c9⟩ := HN.out.later HL2.out
    clear hg2
    go_wp2_with fail
    refine (S2.out _ (HL.out.grown HL2.out)).mono ?_
    rintro e w5 ⟨rfl, hg5⟩
    have HL5 := Lib.hid (gtrans HL2.out hg5)
    clear c0 c1 c2 c3 c4 c5 c6 c7 c8 c9
    obtain ⟨c0, c1, c2, c3, c4, c5, c6, c7, c8, c9⟩ := HN.out.later HL5.out
    clear hg5
    go_wp2_with fail
    go_ret2
    exact ⟨_, retsi HE.out.symm, sl_nil _, gtrans HW.out HL5.out⟩
  · rw [p] at S1; rw [q] at S2
    clear p q
    unfold zc
    go_enter Tryz.func80, Tryz.ntmps80
    go_wp2_with fail
    refine (C.out _).mono ?_
    rintro e w1 ⟨rfl, hg1⟩
    have HL1 : Hid (Later (w.alloc (.cells (zc z) 28)) w1) := Lib.hid hg1
    obtain ⟨c0, c1, c2, c3, c4, c5, c6, c7, c8, c9⟩ := HN.out.later HL1.out
    clear hg1
    go_wp2_with (go_at_call 74; refine (K.out _ _ _ _).mono ?_; rintro e w1 ⟨rfl, rfl⟩)
    refine (S1.out _ (HL.out.grown HL1.out)).mono ?_
    rintro e w2 ⟨rfl, hg2⟩
    have HL2 := Lib.hid (gtrans HL1.out hg2)
    clear c0 c1 c2 c3 c4 c5 c6 c7 c8 c9
    obtain ⟨c0, c1, c2, c3, c4, c5, c6, c7, c8, c9⟩ := HN.out.later HL2.out
    clear hg2
    have ON : SL w2 (w.alloc (.cells (zc z) 28)).heap.size (.slice none 0 0) [] := World.ownsRow_nil _ _ _ _
    go_wp2_with (at_builtin; go_loud (refine wpList_append_own _ rfl _ _ 22 rfl (w.alloc (.cells (zc z) 28)).heap.size 3 i0 (.int .i64 0) 1 8 Tryz.underlying22 HI.out HZ0.out HZ1.out HZ2.out rfl (by decide) _ _ _ rfl (World.ownsRow.alloc ON _) ⟨w2.heap.size, 0, none⟩ 1 1 [.int .i64 (d * 1440 + m - z.b - z.s)] rfl rfl (cell_one_new _ _ _) (by simp [Value.oneCell']) (by simp only [maxLen]; simp) (by simp) (by have := HL2.out.size; simp only [World.size_alloc] at this ⊢; omega) ?_); go_loud (intro v' w4 hown' hgrow _; obtain ⟨g', cap', rfl⟩ := ownsRow_succ hown'; have HL3 := Lib.hid (later_grown (xs := ([] : List Int)) (HL2.out.put _) (ON.later ((Later.refl _).put _)) hgrow); have HO3 : Hid (SL w4 (w.alloc (.cells (zc z) 28)).heap.size _ (([] : List Int) ++ [d * 1440 + m - z.b - z.s])) := Lib.hid (by unfold SL; rw [List.length_append, List.map_append]; exact hown'); clear hown' hgrow; obtain ⟨c0, c1, c2, c3, c4, c5, c6, c7, c8, c9⟩ := HN.out.later HL3.out))
    refine (S2.out _ (HL.out.grown HL3.out)).mono ?_
    rintro e w5 ⟨rfl, hg5⟩
    have HL5 := Lib.hid (gtrans HL3.out hg5)
    clear c0 c1 c2 c3 c4 c5 c6 c7 c8 c9
    obtain ⟨c0, c1, c2, c3, c4, c5, c6, c7, c8, c9⟩ := HN.out.later HL5.out
    have HO5 := Lib.hid (HO3.out.later hg5)
    clear hg5
    go_wp2_with (at_builtin; go_loud (refine wpList_append_own _ rfl _ _ 22 rfl (w.alloc (.cells (zc z) 28)).heap.size 3 i0 (.int .i64 0) 1 8 Tryz.underlying22 HI.out HZ0.out HZ1.out HZ2.out rfl (by decide) _ _ _ rfl (World.ownsRow.alloc HO5.out _) ⟨w5.heap.size, 0, none⟩ 1 1 [.int .i64 (d * 1440 + m - z.b)] rfl rfl (cell_one_new _ _ _) (by simp [Value.oneCell']) (by simp only [maxLen]; simp) (by simp) (by have := HL5.out.size; simp only [World.size_alloc] at this ⊢; omega) ?_); go_loud (intro v' w4 hown' hgrow _; obtain ⟨g', cap', rfl⟩ := ownsRow_succ hown'; have HL6 := Lib.hid (later_grown (xs := ([] ++ [d * 1440 + m - z.b - z.s] : List Int)) (HL5.out.put _) (HO5.out.later ((Later.refl _).put _)) hgrow); have HO6 : Hid (SL w4 (w.alloc (.cells (zc z) 28)).heap.size _ (([] ++ [d * 1440 + m - z.b - z.s] : List Int) ++ [d * 1440 + m - z.b])) := Lib.hid (by unfold SL; rw [List.length_append, List.map_append]; exact hown'); clear hown' hgrow; obtain ⟨c0, c1, c2, c3, c4, c5, c6, c7, c8, c9⟩ := HN.out.later HL6.out))
    go_ret2
    exact ⟨_, retsi HE.out.symm, HO6.out.sl, gtrans HW.out HL6.out⟩
  · rw [p] at S1; rw [q] at S2
    clear p q
    unfold zc
    go_enter Tryz.func80, Tryz.ntmps80
    go_wp2_with fail
    refine (C.out _).mono ?_
    rintro e w1 ⟨rfl, hg1⟩
    have HL1 : Hid (Later (w.alloc (.cells (zc z) 28)) w1) := Lib.hid hg1
    obtain ⟨c0, c1, c2, c3, c4, c5, c6, c7, c8, c9⟩ := HN.out.later HL1.out
    clear hg1
    go_wp2_with (go_at_call 74; refine (K.out _ _ _ _).mono ?_; rintro e w1 ⟨rfl, rfl⟩)
    refine (S1.out _ (HL.out.grown HL1.out)).mono ?_
    rintro e w2 ⟨rfl, hg2⟩
    have HL2 := Lib.hid (gtrans HL1.out hg2)
    clear c0 c1 c2 c3 c4 c5 c6 c7 c8 c9
    obtain ⟨c0, c1, c2, c3, c4, c5, c6, c7, c8, c9⟩ := HN.out.later HL2.out
    clear hg2
    have ON : SL w2 (w.alloc (.cells (zc z) 28)).heap.size (.slice none 0 0) [] := World.ownsRow_nil _ _ _ _
    go_wp2_with (at_builtin; go_loud (refine wpList_append_own _ rfl _ _ 22 rfl (w.alloc (.cells (zc z) 28)).heap.size 3 i0 (.int .i64 0) 1 8 Tryz.underlying22 HI.out HZ0.out HZ1.out HZ2.out rfl (by decide) _ _ _ rfl (World.ownsRow.alloc ON _) ⟨w2.heap.size, 0, none⟩ 1 1 [.int .i64 (d * 1440 + m - z.b - z.s)] rfl rfl (cell_one_new _ _ _) (by simp [Value.oneCell']) (by simp only [maxLen]; simp) (by simp) (by have := HL2.out.size; simp only [World.size_alloc] at this ⊢; omega) ?_); go_loud (intro v' w4 hown' hgrow _; obtain ⟨g', cap', rfl⟩ := ownsRow_succ hown'; have HL3 := Lib.hid (later_grown (xs := ([] : List Int)) (HL2.out.put _) (ON.later ((Later.refl _).put _)) hgrow); have HO3 : Hid (SL w4 (w.alloc (.cells (zc z) 28)).heap.size _ (([] : List Int) ++ [d * 1440 + m - z.b - z.s])) := Lib.hid (by unfold SL; rw [List.length_append, List.map_append]; exact hown'); clear hown' hgrow; obtain ⟨c0, c1, c2, c3, c4, c5, c6, c7, c8, c9⟩ := HN.out.later HL3.out))
    refine (S2.out _ (HL.out.grown HL3.out)).mono ?_
    rintro e w5 ⟨rfl, hg5⟩
    have HL5 := Lib.hid (gtrans HL3.out hg5)
    clear c0 c1 c2 c3 c4 c5 c6 c7 c8 c9
    obtain ⟨c0, c1, c2, c3, c4, c5, c6, c7, c8, c9⟩ := HN.out.later HL5.out
    have HO5 := Lib.hid (HO3.out.later hg5)
    clear hg5
    go_wp2_with fail
    go_ret2
    exact ⟨_, retsi HE.out.symm, HO5.out.sl, gtrans HW.out HL5.out⟩

theorem instants_any (z : Zn) (d m : Int) (w : World) (hL : Laid w) : Calls Tryz.prog 80 #[.agg (zc z), .int .i64 d, .int .i64 m] w fun e w' => ∃ v, e = .returned (.tuple #[v, .int .i64 (iE z d m)]) ∧ Sl w' v (iL z d m) ∧ Later w w' := by
  by_cases h : iE z d m = 0
  · exact instants_yes z d m w hL h
  · exact instants_no z d m w h

end Go.Proofs.YtihdijkplmfhfaaGreatDoor.Zone
