/-
  Which windows, times, zones, sunsets and rows are the same, by the program. No condition but those that each theorem states.
-/
import Derived.Test.YthbgllbbliijlaaCq
import Derived.ChangeKeysEq
namespace Go.Proofs.Ythbgllbbliijlaa.Conf
open Go.ChangeShapes Go.WideShapes Go.ChangeAt Go.RowKit
open Go.Proofs.Ythbgllbbliijlaa.Divs Go.Proofs.Ythbgllbbliijlaa.Grow Go.Proofs.Ythbgllbbliijlaa.Zone
open Go.Proofs.Ythbgllbbliijlaa.By (Sk SL take_on take_all bool_no bool_yes)
open Go.Proofs.Ythbgllbbliijlaa.Each
open Go.Proofs.Ythbgllbbliijlaa.Zo Go.Proofs.Ythbgllbbliijlaa.Su Go.Proofs.Ythbgllbbliijlaa.Cf

attribute [local go_sem] equal_int_at

theorem equal_win (x y : Wn) (w : World) : (Op.equalIn 10000 35 (.agg #[.int .i64 x.k, .int .i64 x.m, .int .i64 x.p, .int .i64 x.a, .int .i64 x.h, .int .i64 x.u, .int .i64 x.l]) (.agg #[.int .i64 y.k, .int .i64 y.m, .int .i64 y.p, .int .i64 y.a, .int .i64 y.h, .int .i64 y.u, .int .i64 y.l])).run Try.prog w = .ok (ws x y) w := by
  have u3 := Try.underlying3
  have a3 := Try.isAgg3
  have z3 := Try.sizeOf3
  have hS : Try.prog.underlying 35 = some (.struct (Try.prog.fieldsOf 35)) := by kernel_rfl
  have hp : Try.prog.stoodInHeld 35 = false := by kernel_rfl
  have E : ∀ n, (Op.equalIn (n + 1 + 1) 35 (.agg #[.int .i64 x.k, .int .i64 x.m, .int .i64 x.p, .int .i64 x.a, .int .i64 x.h, .int .i64 x.u, .int .i64 x.l]) (.agg #[.int .i64 y.k, .int .i64 y.m, .int .i64 y.p, .int .i64 y.a, .int .i64 y.h, .int .i64 y.u, .int .i64 y.l])).run Try.prog w = .ok (ws x y) w := by
    intro n
    rw [run_equalIn_agg w (n + 1) 35 _ _ hS hp]
    simp only [Program.fieldsOf, Try.underlying35]
    unfold ws
    go_simp
    repeat' split
    all_goals simp_all
  exact E 9998

/-- Are the times the same? -/
def tq (x y : Cg) : Bool := x.t == y.t && (x.l == y.l && (x.o == y.o && (x.d == y.d && (x.e == y.e && (x.c == y.c && x.h == y.h)))))

theorem equal_times (x y : Cg) (w : World) : (Op.equalIn 10000 24 (.agg #[.int .i64 x.t, .int .i64 x.l, .int .i64 x.o, .int .i64 x.d, .int .i64 x.e, .int .i64 x.c, .int .i64 x.h]) (.agg #[.int .i64 y.t, .int .i64 y.l, .int .i64 y.o, .int .i64 y.d, .int .i64 y.e, .int .i64 y.c, .int .i64 y.h])).run Try.prog w = .ok (tq x y) w := by
  have u3 := Try.underlying3
  have a3 := Try.isAgg3
  have z3 := Try.sizeOf3
  have hS : Try.prog.underlying 24 = some (.struct (Try.prog.fieldsOf 24)) := by kernel_rfl
  have hp : Try.prog.stoodInHeld 24 = false := by kernel_rfl
  have E : ∀ n, (Op.equalIn (n + 1 + 1) 24 (.agg #[.int .i64 x.t, .int .i64 x.l, .int .i64 x.o, .int .i64 x.d, .int .i64 x.e, .int .i64 x.c, .int .i64 x.h]) (.agg #[.int .i64 y.t, .int .i64 y.l, .int .i64 y.o, .int .i64 y.d, .int .i64 y.e, .int .i64 y.c, .int .i64 y.h])).run Try.prog w = .ok (tq x y) w := by
    intro n
    rw [run_equalIn_agg w (n + 1) 24 _ _ hS hp]
    simp only [Program.fieldsOf, Try.underlying24]
    unfold tq
    go_simp
    repeat' split
    all_goals simp_all
  exact E 9998

/-- Are the sunsets the same? -/
def sq (s r : Nat → Int) : Bool := (List.range 12).all fun i => s i == r i

theorem sun_item (n : Nat) (s r : Nat → Int) (xs ys : Array Value) (w : World) : ∀ is : List Nat, (∀ i ∈ is, xs[i]? = some (.int .i64 (s i)) ∧ ys[i]? = some (.int .i64 (r i))) →
    (Op.eqItems (n + 1) 3 1 xs ys is).run Try.prog w = .ok (is.all fun i => s i == r i) w := by
  intro is
  induction is with
  | nil => intro _; simp [Op.eqItems]
  | cons i is ih =>
    intro h
    have u3 := Try.underlying3
    have a3 := Try.isAgg3
    have z3 := Try.sizeOf3
    obtain ⟨h1, h2⟩ := h i (by simp)
    have ih' := ih (fun j hj => h j (by simp [hj]))
    clear ih h
    unfold Op.eqItems
    rw [Nat.mul_one]
    go_simp
    split <;> simp_all

theorem equal_sun (s r : Nat → Int) (w : World) : (Op.equalIn 10000 30 (.agg #[.int .i64 (s 0), .int .i64 (s 1), .int .i64 (s 2), .int .i64 (s 3), .int .i64 (s 4), .int .i64 (s 5), .int .i64 (s 6), .int .i64 (s 7), .int .i64 (s 8), .int .i64 (s 9), .int .i64 (s 10), .int .i64 (s 11)])
      (.agg #[.int .i64 (r 0), .int .i64 (r 1), .int .i64 (r 2), .int .i64 (r 3), .int .i64 (r 4), .int .i64 (r 5), .int .i64 (r 6), .int .i64 (r 7), .int .i64 (r 8), .int .i64 (r 9), .int .i64 (r 10), .int .i64 (r 11)])).run Try.prog w = .ok (sq s r) w := by
  have hu : Try.prog.underlying 30 = some (.array 12 3) := by kernel_rfl
  obtain ⟨i, hi⟩ : ∃ i, Try.prog.info? 3 = some i := ⟨_, rfl⟩
  have hc : Try.prog.cellsOf 3 = 1 := by kernel_rfl
  rw [run_equalIn_array w 9999 _ _ hu hi, hc]
  refine sun_item 9998 s r _ _ w (List.range 12) (fun i hi => ?_)
  rw [List.mem_range] at hi
  match i, hi with
  | 0, _ | 1, _ | 2, _ | 3, _ | 4, _ | 5, _ | 6, _ | 7, _ | 8, _ | 9, _ | 10, _ | 11, _ => exact ⟨rfl, rfl⟩
  | i + 12, h => omega

instance : DecidableEq Wn := fun x y => decidable_of_iff _ (ws_iff x y)

/-- The first i of two rows are the same. -/
def ERel {α : Type} (xs ys : List α) (w : World) (x : Value) (wr : World) : Prop := ∃ i k : Nat, i ≤ xs.length ∧ x = .int .i64 (i : Int) ∧ xs.take i = ys.take i ∧ wr = w.drewN k

theorem same_all {α : Type} (xs ys : List α) (n : Nat) (hx : n = xs.length) (hl : xs.length = ys.length) (h : xs.take n = ys.take n) : xs = ys := by
  rw [List.take_of_length_le (by omega), List.take_of_length_le (by omega)] at h
  exact h

theorem same_on {α : Type} (xs ys : List α) (i : Nat) (a : α) (hx : xs[i]? = some a) (hy : ys[i]? = some a) (h : xs.take i = ys.take i) : xs.take (i + 1) = ys.take (i + 1) := by
  rw [List.take_add_one, List.take_add_one, h, hx, hy]

set_option maxHeartbeats 1000000 in
theorem equal_ints (u v : Value) (xs ys : List Int) (w : World) (hu : Sk .i64 w u xs) (hv : Sk .i64 w v ys) : Calls Try.prog 40 #[u, v] w fun e w' => e = .returned (.bool (decide (xs = ys))) ∧ Later w w' := by
  obtain ⟨R, hR⟩ : ∃ R : Bool, R = decide (xs = ys) := ⟨_, rfl⟩
  rw [← hR]
  have HT : Hid (xs = ys → R = true) := Lib.hid (fun h => by rw [hR]; simpa using h)
  have HF : Hid (¬ xs = ys → ¬ R = true) := Lib.hid (fun h => by rw [hR]; simpa using h)
  clear hR
  by_cases hl : xs.length = ys.length
  · rcases Nat.eq_zero_or_pos xs.length with h0 | h0
    · obtain rfl := List.length_eq_zero_iff.1 h0
      obtain rfl := List.length_eq_zero_iff.1 (hl.symm.trans h0)
      obtain ⟨a, c, rfl, _⟩ := hu.len
      obtain ⟨a', c', rfl, _⟩ := hv.len
      clear hu hv hl h0
      go_enter Try.func40, Try.ntmps40
      go_wp2_with fail
      refine wp_loop_rounds 1 ?_
      rw [rounds_succ]
      go_wp2
      go_ret
      exact ⟨bool_yes (HT.out (by first | rfl | trivial)), Later.refl _⟩
    · obtain ⟨b, off, cap, rfl, _, m1, _, hc⟩ := hu.has h0
      obtain ⟨b', off', cap', rfl, _, m2, _, hc'⟩ := hv.has (by omega)
      have HC := Lib.hid hc
      have HC' := Lib.hid hc'
      have hm : xs.length ≤ 9223372036854775807 := by omega
      have HL := Lib.hid hl
      obtain ⟨n, hn⟩ : ∃ n, ys.length = n := ⟨_, rfl⟩
      rw [hn] at hl ⊢
      rw [hl] at h0 hm ⊢
      have HN := Lib.hid hn
      have HX := Lib.hid hl
      clear hc hc' hu hv hl hn m1 m2
      have t : ((n : Int) != (n : Int)) = false := by simp
      go_enter Try.func40, Try.ntmps40
      go_wp2_with fail
      clear t
      go_loopw [13] (fun x wr => ERel xs ys w x wr) (fun x _ => (n - intOf x).toNat)
      case atStart => exact ⟨0, 0, by omega, rfl, by simp, rfl⟩
      case round =>
        obtain ⟨i, k, hi, rfl, ht, rfl⟩ := hrel
        rw [HX.out] at hi
        have HE := Lib.hid ht
        clear ht
        by_cases hlt : i < n
        · obtain ⟨a, ha⟩ : ∃ a, xs[i]? = some a := ⟨_, List.getElem?_eq_getElem (by rw [HX.out]; exact hlt)⟩
          obtain ⟨c, hc⟩ : ∃ c, ys[i]? = some c := ⟨_, List.getElem?_eq_getElem (by rw [HN.out]; exact hlt)⟩
          have c1 := HC.out i (by rw [HX.out]; exact hlt)
          rw [List.getD_eq_getElem?_getD, ha, Option.getD_some] at c1
          have c2 := HC'.out i (by rw [HN.out]; exact hlt)
          rw [List.getD_eq_getElem?_getD, hc, Option.getD_some] at c2
          have HA := Lib.hid ha
          have HB := Lib.hid hc
          clear ha hc
          by_cases hac : a = c
          · subst hac
            have t : (a != a) = false := by simp
            have HS := Lib.hid (same_on xs ys i a HA.out HB.out HE.out)
            go_wp2_with fail
            go_quiet (fail)
            go_wp2_with fail
            go_roundw
            case rel => exact ⟨i + 1, _, by rw [HX.out]; omega, by go_num, HS.out, rfl⟩
            case measure => simp [intOf]; omega
          · have t : (a != c) = true := by simpa using hac
            have HV : Hid (¬ xs = ys) := Lib.hid (by
              rintro rfl
              have := HA.out.symm.trans HB.out
              simp at this
              exact hac this)
            clear hac
            go_wp2_with fail
            go_quiet (fail)
            go_wp2_with fail
            go_ret
            exact ⟨bool_no (HF.out HV.out), Later.refl w⟩
        · have hn : ¬ i < n := hlt
          go_wp2_with fail
          go_ret
          exact ⟨bool_yes (HT.out (same_all xs ys i (by rw [HX.out]; omega) HL.out HE.out)), later_drewN w _⟩
  · obtain ⟨a, c, rfl, m1⟩ := hu.len
    obtain ⟨a', c', rfl, m2⟩ := hv.len
    have t : ((xs.length : Int) != (ys.length : Int)) = true := by simpa using fun h => hl (by omega)
    have HV : Hid (¬ xs = ys) := Lib.hid (by
      rintro rfl
      exact hl rfl)
    clear hu hv
    go_enter Try.func40, Try.ntmps40
    go_wp2_with fail
    go_ret
    exact ⟨bool_no (HF.out HV.out), Later.refl w⟩

attribute [local go_sem high] equal_win

set_option maxHeartbeats 1000000 in
theorem equal_wins (u v : Value) (xs ys : List Wn) (w : World) (hu : Wk w u xs) (hv : Wk w v ys) : Calls Try.prog 41 #[u, v] w fun e w' => e = .returned (.bool (decide (xs = ys))) ∧ Later w w' := by
  obtain ⟨R, hR⟩ : ∃ R : Bool, R = decide (xs = ys) := ⟨_, rfl⟩
  rw [← hR]
  have HT : Hid (xs = ys → R = true) := Lib.hid (fun h => by rw [hR]; simpa using h)
  have HF : Hid (¬ xs = ys → ¬ R = true) := Lib.hid (fun h => by rw [hR]; simpa using h)
  clear hR
  by_cases hl : xs.length = ys.length
  · rcases Nat.eq_zero_or_pos xs.length with h0 | h0
    · obtain rfl := List.length_eq_zero_iff.1 h0
      obtain rfl := List.length_eq_zero_iff.1 (hl.symm.trans h0)
      obtain ⟨a, c, rfl, _⟩ := hu.len
      obtain ⟨a', c', rfl, _⟩ := hv.len
      clear hu hv hl h0
      go_enter Try.func41, Try.ntmps41
      go_wp2_with fail
      refine wp_loop_rounds 1 ?_
      rw [rounds_succ]
      go_wp2
      go_ret
      exact ⟨bool_yes (HT.out (by first | rfl | trivial)), Later.refl _⟩
    · obtain ⟨b, off, cap, rfl, m1, _, hc⟩ := hu.has h0
      obtain ⟨b', off', cap', rfl, m2, _, hc'⟩ := hv.has (by omega)
      have HC := Lib.hid hc
      have HC' := Lib.hid hc'
      have hm : xs.length ≤ 9223372036854775807 := by omega
      have HL := Lib.hid hl
      obtain ⟨n, hn⟩ : ∃ n, ys.length = n := ⟨_, rfl⟩
      rw [hn] at hl ⊢
      rw [hl] at h0 hm ⊢
      have HN := Lib.hid hn
      have HX := Lib.hid hl
      clear hc hc' hu hv hl hn m1 m2
      have t : ((n : Int) != (n : Int)) = false := by simp
      go_enter Try.func41, Try.ntmps41
      go_wp2_with fail
      clear t
      go_loopw [13] (fun x wr => ERel xs ys w x wr) (fun x _ => (n - intOf x).toNat)
      case atStart => exact ⟨0, 0, by omega, rfl, by simp, rfl⟩
      case round =>
        obtain ⟨i, k, hi, rfl, ht, rfl⟩ := hrel
        rw [HX.out] at hi
        have HE := Lib.hid ht
        clear ht
        by_cases hlt : i < n
        · obtain ⟨a, ha⟩ : ∃ a, xs[i]? = some a := ⟨_, List.getElem?_eq_getElem (by rw [HX.out]; exact hlt)⟩
          obtain ⟨c, hc⟩ : ∃ c, ys[i]? = some c := ⟨_, List.getElem?_eq_getElem (by rw [HN.out]; exact hlt)⟩
          have r1 := HC.out i a ha
          have r2 := HC'.out i c hc
          have p0 := r1 0 _ rfl
          have p1 := r1 1 _ rfl
          have p2 := r1 2 _ rfl
          have p3 := r1 3 _ rfl
          have p4 := r1 4 _ rfl
          have p5 := r1 5 _ rfl
          have p6 := r1 6 _ rfl
          have q0 := r2 0 _ rfl
          have q1 := r2 1 _ rfl
          have q2 := r2 2 _ rfl
          have q3 := r2 3 _ rfl
          have q4 := r2 4 _ rfl
          have q5 := r2 5 _ rfl
          have q6 := r2 6 _ rfl
          clear r1 r2
          simp only [Nat.add_zero] at p0 q0
          have HA := Lib.hid ha
          have HB := Lib.hid hc
          clear ha hc
          by_cases hac : a = c
          · subst hac
            have t : ws a a = true := (ws_iff _ _).2 rfl
            have HS := Lib.hid (same_on xs ys i a HA.out HB.out HE.out)
            go_wp2_with fail
            go_quiet (fail)
            go_wp2_with fail
            go_roundw
            case rel => exact ⟨i + 1, _, by rw [HX.out]; omega, by go_num, HS.out, rfl⟩
            case measure => simp [intOf]; omega
          · have t : ws a c = false := by
              cases e : ws a c with
              | false => rfl
              | true => exact absurd ((ws_iff _ _).1 e) hac
            have HV : Hid (¬ xs = ys) := Lib.hid (by
              rintro rfl
              have := HA.out.symm.trans HB.out
              simp at this
              exact hac this)
            clear hac
            go_wp2_with fail
            go_quiet (fail)
            go_wp2_with fail
            go_ret
            exact ⟨bool_no (HF.out HV.out), Later.refl w⟩
        · have hn : ¬ i < n := hlt
          go_wp2_with fail
          go_ret
          exact ⟨bool_yes (HT.out (same_all xs ys i (by rw [HX.out]; omega) HL.out HE.out)), later_drewN w _⟩
  · obtain ⟨a, c, rfl, m1⟩ := hu.len
    obtain ⟨a', c', rfl, m2⟩ := hv.len
    have t : ((xs.length : Int) != (ys.length : Int)) = true := by simpa using fun h => hl (by omega)
    have HV : Hid (¬ xs = ys) := Lib.hid (by
      rintro rfl
      exact hl rfl)
    clear hu hv
    go_enter Try.func41, Try.ntmps41
    go_wp2_with fail
    go_ret
    exact ⟨bool_no (HF.out HV.out), Later.refl w⟩

end Go.Proofs.Ythbgllbbliijlaa.Conf
