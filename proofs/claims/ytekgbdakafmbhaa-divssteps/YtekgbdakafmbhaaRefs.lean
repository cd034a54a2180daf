/-
  What the document's own answers of layer 1 come to, call by call. Conditions: the numbers are ints, as each theorem says.
-/
import Derived.Test.YtekgbdakafmbhaaAwake
namespace Go.Proofs.Ytekgbdakafmbhaa.Divs
open Go.ChangeShapes Go.WideShapes Go.ChangeAt Go.RowKit

theorem tmod_nonpos (a b : Int) (h : a ≤ 0) : a.tmod b ≤ 0 := by
  have := Int.tmod_nonneg b (show 0 ≤ -a by omega)
  rw [Int.neg_tmod] at this
  omega

theorem rdiv_any (a b : Int) (w : World) (ha0 : -9223372036854775808 ≤ a) (ha1 : a ≤ 9223372036854775807) (hb0 : 1 ≤ b) (hb1 : b ≤ 9223372036854775807) :
    Calls Try.prog 14 #[.int .i64 a, .int .i64 b] w fun e w' => e = .returned (.int .i64 (a / b)) ∧ ∃ n, w' = w.drewN n := by
  have ht := tpair a b hb0
  have hbd := ediv_bd a b hb0
  have hz : (b == 0) = false := by simp; omega
  by_cases hs : a < 0
  · have hneg : a.tmod b ≤ 0 := tmod_nonpos a b (by omega)
    by_cases hr : a.tmod b < 0
    · obtain ⟨h1, h2⟩ := ht.1 hr
      have hq0 : -9223372036854775808 ≤ a.tdiv b - 1 := by omega
      have hq1 : a.tdiv b - 1 ≤ 9223372036854775807 := by omega
      have t1 : (a.tmod b != 0) = true := by simp; omega
      have H1 := Lib.hid h1
      clear h1 h2 ht hbd
      go_enter Try.func14, Try.ntmps14
      go_wp2
      go_ret
      exact ⟨ret1 H1.out, 0, rfl⟩
    · obtain ⟨h1, h2⟩ := ht.2 (by omega)
      have t1 : (a.tmod b != 0) = false := by simp; omega
      have H1 := Lib.hid h1
      clear h1 h2 ht hbd
      go_enter Try.func14, Try.ntmps14
      go_wp2
      go_ret
      exact ⟨ret1 H1.out, 0, rfl⟩
  · have h0 : 0 ≤ a := by omega
    clear ht
    by_cases hr : a % b = 0
    · have t1 : (a % b != 0) = false := by simp; omega
      clear hr
      go_enter Try.func14, Try.ntmps14
      go_wp2
      go_ret
      exact ⟨rfl, 0, rfl⟩
    · have t1 : (a % b != 0) = true := by simp; omega
      clear hr
      go_enter Try.func14, Try.ntmps14
      go_wp2
      go_ret
      exact ⟨rfl, 0, rfl⟩

theorem rmod_any (a b : Int) (w : World) (ha0 : -9223372036854775808 ≤ a) (ha1 : a ≤ 9223372036854775807) (hb0 : 1 ≤ b) (hb1 : b ≤ 9223372036854775807) :
    Calls Try.prog 15 #[.int .i64 a, .int .i64 b] w fun e w' => e = .returned (.int .i64 (a % b)) ∧ ∃ n, w' = w.drewN n := by
  have ht := tpair a b hb0
  have hm0 := Int.emod_nonneg a (show b ≠ 0 by omega)
  have hm1 := Int.emod_lt_of_pos a (show 0 < b by omega)
  have hz : (b == 0) = false := by simp; omega
  by_cases hs : a < 0
  · by_cases hr : a.tmod b < 0
    · obtain ⟨h1, h2⟩ := ht.1 hr
      have hr0 : 0 ≤ a.tmod b + b := by omega
      have hr1 : a.tmod b + b < b := by omega
      have H2 := Lib.hid h2
      clear h1 h2 ht hm0 hm1
      go_enter Try.func15, Try.ntmps15
      go_wp2
      go_ret
      exact ⟨ret1 H2.out, 0, rfl⟩
    · obtain ⟨h1, h2⟩ := ht.2 (by omega)
      have H2 := Lib.hid h2
      clear h1 h2 ht hm0 hm1
      go_enter Try.func15, Try.ntmps15
      go_wp2
      go_ret
      exact ⟨ret1 H2.out, 0, rfl⟩
  · have h0 : 0 ≤ a := by omega
    have h3 : ¬ a % b < 0 := by omega
    clear ht
    go_enter Try.func15, Try.ntmps15
    go_wp2
    go_ret
    exact ⟨rfl, 0, rfl⟩

theorem rceil_any (a b : Int) (w : World) (ha0 : -9223372036854775808 ≤ a) (ha1 : a ≤ 9223372036854775807) (hb0 : 1 ≤ b) (hb1 : b ≤ 9223372036854775807) :
    Calls Try.prog 16 #[.int .i64 a, .int .i64 b] w fun e w' => e = .returned (.int .i64 (if 0 < a % b then a / b + 1 else a / b)) ∧ ∃ n, w' = w.drewN n := by
  have ht := tpair a b hb0
  have hbd := ediv_bd a b hb0
  have hm0 := Int.emod_nonneg a (show b ≠ 0 by omega)
  have hz : (b == 0) = false := by simp; omega
  by_cases hs : 0 < a
  · have h0 : 0 ≤ a := by omega
    clear ht
    by_cases hr : 0 < a % b
    · have hf := ediv_far a b hb0 ha1 hr
      have hq0 : 0 ≤ a / b := by omega
      have t1 : (a % b != 0) = true := by simp; omega
      rw [if_pos hr]
      clear hbd
      go_enter Try.func16, Try.ntmps16
      go_wp2
      go_ret
      exact ⟨rfl, 0, rfl⟩
    · have t1 : (a % b != 0) = false := by simp; omega
      rw [if_neg hr]
      clear hbd
      go_enter Try.func16, Try.ntmps16
      go_wp2
      go_ret
      exact ⟨rfl, 0, rfl⟩
  · have hneg : a.tmod b ≤ 0 := tmod_nonpos a b (by omega)
    by_cases hr : a.tmod b < 0
    · obtain ⟨h1, h2⟩ := ht.1 hr
      have h3 : 0 < a % b := by
        have : -b < a.tmod b := Int.lt_tmod_of_pos a (show 0 < b by omega)
        omega
      have t1 : (a.tmod b != 0) = true := by simp; omega
      have H1 : Hid (a.tdiv b = a / b + 1) := by have : a.tdiv b = a / b + 1 := by omega
                                                 exact this
      rw [if_pos h3]
      have ha : a < 0 := by
        by_cases h : a = 0
        · subst h; simp at hr
        · omega
      clear h1 h2 h3 ht hbd hm0
      go_enter Try.func16, Try.ntmps16
      go_wp2
      go_ret
      exact ⟨ret1 H1.out, 0, rfl⟩
    · obtain ⟨h1, h2⟩ := ht.2 (by omega)
      have h3 : ¬ 0 < a % b := by omega
      have t1 : (a.tmod b != 0) = false := by simp; omega
      rw [if_neg h3]
      by_cases h0 : a = 0
      · subst h0
        clear h1 h2 h3 ht hbd hm0 hr hneg t1
        go_enter Try.func16, Try.ntmps16
        go_wp2
        go_ret
        exact ⟨by simp, 0, rfl⟩
      · have ha : a < 0 := by omega
        have H1 := Lib.hid h1
        clear h1 h2 h3 ht hbd hm0 h0
        go_enter Try.func16, Try.ntmps16
        go_wp2
        go_ret
        exact ⟨ret1 H1.out, 0, rfl⟩

theorem rclamp_any (n lo hi : Int) (w : World) :
    Calls Try.prog 20 #[.int .i64 n, .int .i64 lo, .int .i64 hi] w fun e w' => e = .returned (.int .i64 (clampI n lo hi)) ∧ ∃ n, w' = w.drewN n := by
  by_cases h1 : n < lo
  · have hv : Hid (clampI n lo hi = lo) := by unfold clampI; rw [if_pos (Or.inl h1)]; exact rfl
    go_enter Try.func20, Try.ntmps20
    go_wp2
    go_ret
    exact ⟨ret1 hv.out.symm, 0, rfl⟩
  · by_cases h2 : hi < lo
    · have hv : Hid (clampI n lo hi = lo) := by unfold clampI; rw [if_pos (Or.inr h2)]; exact rfl
      go_enter Try.func20, Try.ntmps20
      go_wp2
      go_ret
      exact ⟨ret1 hv.out.symm, 0, rfl⟩
    · by_cases h3 : hi < n
      · have hv : Hid (clampI n lo hi = hi) := by unfold clampI; rw [if_neg (by omega), if_pos h3]; exact rfl
        go_enter Try.func20, Try.ntmps20
        go_wp2
        go_ret
        exact ⟨ret1 hv.out.symm, 0, rfl⟩
      · have hv : Hid (clampI n lo hi = n) := by unfold clampI; rw [if_neg (by omega), if_neg h3]; exact rfl
        go_enter Try.func20, Try.ntmps20
        go_wp2
        go_ret
        exact ⟨ret1 hv.out.symm, 0, rfl⟩
end Go.Proofs.Ytekgbdakafmbhaa.Divs
