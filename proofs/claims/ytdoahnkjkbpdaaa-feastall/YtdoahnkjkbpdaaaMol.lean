/-
  What the methods of a Hebrew year answer: leap years, months ahead, the moon's day and part. Conditions: the numbers are ints, the years are from 1 to 10000, as each theorem says.
-/
import Derived.Test.YtdoahnkjkbpdaaaGrow
import Derived.Test.YtdoahnkjkbpdaaaYear
import Derived.Shelf.Abstract
namespace Go.Proofs.Ytdoahnkjkbpdaaa.Mol
open Go.ChangeShapes Go.WideShapes Go.ChangeAt Go.RowKit
open Go.Proofs.Ytdoahnkjkbpdaaa.Divs Go.Proofs.Ytdoahnkjkbpdaaa.Grow
open Go.Proofs.Ytdoahnkjkbpdaaa.Year (lh mh pt md mp p1 p2 po dl ny yl)

theorem lh_of (h : Int) : decide ((7 * (h % 19) + 1) % 19 < 7) = lh h := rfl

theorem leap_any (h : Int) (w : World) (h0 : -9223372036854775808 ≤ h) (h1 : h ≤ 9223372036854775807) :
    Calls Try.prog 62 #[.int .i64 h] w fun e w' => e = .returned (.bool (lh h)) ∧ ∃ n, w' = w.drewN n := by
  have hm0 := Int.emod_nonneg h (show (19 : Int) ≠ 0 by omega)
  have hm1 := Int.emod_lt_of_pos h (show (0 : Int) < 19 by omega)
  have k1 := fun W => mod_yes h 19 W h0 h1 (by omega) (by omega)
  have k2 := fun W => mod_yes (7 * (h % 19) + 1) 19 W (by omega) (by omega) (by omega) (by omega)
  have K1 := Lib.hid k1
  have K2 := Lib.hid k2
  clear k1 k2
  go_enter Try.func62, Try.ntmps62
  go_wp2_with fail
  refine (K1.out _).mono ?_
  rintro e w1 ⟨rfl, n1, rfl⟩
  go_wp2_with fail
  refine (K2.out _).mono ?_
  rintro e w2 ⟨rfl, n2, rfl⟩
  go_wp2_with fail
  go_ret
  exact ⟨retb (lh_of h), _, rfl⟩

theorem months_any (h : Int) (w : World) (h1 : 1 ≤ h) (h2 : h ≤ 10000) :
    Calls Try.prog 78 #[.agg #[.int .i64 h]] w fun e w' => e = .returned (.int .i64 (mh h)) ∧ Later w w' := by
  have k1 := fun W => div_yes (7 * (h - 1) + 1) 19 W (by omega) (by omega) (by omega) (by omega)
  have K1 := Lib.hid k1
  have hb : 0 ≤ (7 * (h - 1) + 1) / 19 ∧ (7 * (h - 1) + 1) / 19 ≤ 10000 := by omega
  clear k1
  go_enter Try.func78, Try.ntmps78
  go_wp2_with fail
  refine (K1.out _).mono ?_
  rintro e w1 ⟨rfl, n1, rfl⟩
  go_wp2_with fail
  go_ret
  exact ⟨ret1 rfl, ((Later.refl w).alloc _ _)⟩

theorem parts_any (h : Int) (w : World) (h1 : 1 ≤ h) (h2 : h ≤ 10000) :
    Calls Try.prog 73 #[.agg #[.int .i64 h]] w fun e w' => e = .returned (.int .i64 (pt h)) ∧ Later w w' := by
  have hb := Year.mh_bd h h1 h2
  go_enter Try.func73, Try.ntmps73
  go_wp2_with fail
  refine (months_any _ _ h1 h2).mono ?_
  rintro e w1 ⟨rfl, hg1⟩
  go_wp2_with fail
  go_ret
  exact ⟨ret1 rfl, gtrans ((Later.refl w).alloc _ _) hg1⟩

theorem day_any (h : Int) (w : World) (h1 : 1 ≤ h) (h2 : h ≤ 10000) :
    Calls Try.prog 58 #[.agg #[.int .i64 h]] w fun e w' => e = .returned (.int .i64 (md h)) ∧ Later w w' := by
  have hb := Year.pt_bd h h1 h2
  have k1 := fun W => div_yes (pt h) 25920 W (by omega) (by omega) (by omega) (by omega)
  have hq : 0 ≤ pt h / 25920 ∧ pt h / 25920 ≤ 4000000 := by omega
  have K1 := Lib.hid k1
  clear k1
  go_enter Try.func58, Try.ntmps58
  go_wp2_with fail
  refine (parts_any _ _ h1 h2).mono ?_
  rintro e w1 ⟨rfl, hg1⟩
  go_wp2_with fail
  refine (K1.out _).mono ?_
  rintro e w2 ⟨rfl, n2, rfl⟩
  go_wp2_with fail
  go_ret
  exact ⟨ret1 rfl, gtrans ((Later.refl w).alloc _ _) hg1⟩

theorem part_any (h : Int) (w : World) (h1 : 1 ≤ h) (h2 : h ≤ 10000) :
    Calls Try.prog 75 #[.agg #[.int .i64 h]] w fun e w' => e = .returned (.int .i64 (mp h)) ∧ Later w w' := by
  have hb := Year.pt_bd h h1 h2
  have k1 := fun W => mod_yes (pt h) 25920 W (by omega) (by omega) (by omega) (by omega)
  have K1 := Lib.hid k1
  clear k1
  go_enter Try.func75, Try.ntmps75
  go_wp2_with fail
  refine (parts_any _ _ h1 h2).mono ?_
  rintro e w1 ⟨rfl, hg1⟩
  go_wp2_with fail
  refine (K1.out _).mono ?_
  rintro e w2 ⟨rfl, n2, rfl⟩
  go_wp2_with fail
  go_ret
  exact ⟨ret1 rfl, gtrans ((Later.refl w).alloc _ _) hg1⟩

theorem weekday_any (n : Int) (w : World) (h0 : -9223372036854775808 ≤ n) (h1 : n ≤ 9223372036854775807) :
    Calls Try.prog 22 #[.int .i64 n] w fun e w' => e = .returned (.int .i64 (n % 7)) ∧ ∃ k, w' = w.drewN k := by
  have k1 := fun W => mod_yes n 7 W h0 h1 (by omega) (by omega)
  have K1 := Lib.hid k1
  clear k1
  go_enter Try.func22, Try.ntmps22
  go_wp2_with fail
  refine (K1.out _).mono ?_
  rintro e w1 ⟨rfl, n1, rfl⟩
  go_wp2_with fail
  go_ret
  exact ⟨rfl, _, rfl⟩

/-- A year that is not reckoned: no question is asked. -/
theorem reckon_no (h : Int) (f : Value) (w : World) (hb : h < 3762 ∨ 9999 < h) :
    Calls Try.prog 34 #[.int .i64 h, f] w fun e w' => e = .returned (.tuple #[.int .i64 0, .int .i64 30]) ∧ w = w' := by
  by_cases h1 : h < 3762
  · clear hb
    have h3 : h ≤ 9999 := by omega
    go_enter Try.func34, Try.ntmps34
    go_wp2
    go_ret2
    exact ⟨rfl, rfl⟩
  · have h2 : 9999 < h := by omega
    clear hb
    go_enter Try.func34, Try.ntmps34
    go_wp2
    go_ret2
    exact ⟨rfl, rfl⟩

theorem reckon_yes (h v : Int) (k : FuncId) (w : World) (h1 : 3762 ≤ h) (h2 : h ≤ 9999)
    (ek : ∀ args W, (callFunc k args).run Try.prog W = .ok (.enter k args) W) (hk : ∀ W, Calls Try.prog k #[.agg #[.int .i64 h]] W fun e w' => e = .returned (.int .i64 v) ∧ Later W w') :
    Calls Try.prog 34 #[.int .i64 h, .func (.func k) #[.agg #[.int .i64 h]] #[]] w fun e w' => e = .returned (.tuple #[.int .i64 v, .int .i64 0]) ∧ Later w w' := by
  have HK := Lib.hid hk
  clear hk
  go_enter Try.func34, Try.ntmps34
  go_wp2_with fail
  refine (HK.out _).mono ?_
  rintro e w1 ⟨rfl, hg1⟩
  go_wp2_with fail
  go_ret2
  exact ⟨rfl, hg1⟩

end Go.Proofs.Ytdoahnkjkbpdaaa.Mol
