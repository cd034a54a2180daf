/-
  What the document's own answers of layer 1 come to, call by call. Conditions: the numbers are ints, as each theorem says.
-/
import Derived.Test.YtepaiolhflpmeaaDoorLeaf
namespace Go.Proofs.YtepaiolhflpmeaaDoor.Divs
open Go.ChangeShapes Go.WideShapes Go.ChangeAt Go.RowKit

theorem tmod_nonpos (a b : Int) (h : a ≤ 0) : a.tmod b ≤ 0 := by
  have := Int.tmod_nonneg b (show 0 ≤ -a by omega)
  rw [Int.neg_tmod] at this
  omega

theorem rdiv_any (a b : Int) (w : World) (ha0 : -9223372036854775808 ≤ a) (ha1 : a ≤ 9223372036854775807) (hb0 : 1 ≤ b) (hb1 : b ≤ 9223372036854775807) :
    Calls Tryd.prog 23 #[.int .i64 a, .int .i64 b] w fun e w' => e = .returned (.int .i64 (a / b)) ∧ ∃ n, w' = w.drewN n := by
  have ht := tpair a b hb0
  have hbd := ediv_bd a b hb0
  have hz : (b == 0) = false := by simp; omega
  by_cases hs : a < 0
  · have hneg : a.tmod b ≤ 0 := tmod_nonpos a b (by omega)
    by_cases hr : a.tmod b < 0
    · obtain ⟨h1, h2⟩ := ht.1 hr
      have hq0 : -9223372036854775808 ≤ a.tdiv b - 1 := by omega
      have hq1 : a.tdiv b - 1 ≤ 9223372036854775807 := by omega
      have t1 : (a.tmod b != 0) = true := by simp; omega
      have H1 := Lib.hid h1
      clear h1 h2 ht hbd
      go_enter Tryd.func23, Tryd.ntmps23
      go_wp2
      go_ret
      exact ⟨ret1 H1.out, 0, rfl⟩
    · obtain ⟨h1, h2⟩ := ht.2 (by omega)
      have t1 : (a.tmod b != 0) = false := by simp; omega
      have H1 := Lib.hid h1
      clear h1 h2 ht hbd
      go_enter Tryd.func23, Tryd.ntmps23
      go_wp2
      go_ret
      exact ⟨ret1 H1.out, 0, rfl⟩
  · have h0 : 0 ≤ a := by omega
    clear ht
    by_cases hr : a % b = 0
    · have t1 : (a % b != 0) = false := by simp; omega
      clear hr
      go_enter Tryd.func23, Tryd.ntmps23
      go_wp2
      go_ret
      exact ⟨rfl, 0, rfl⟩
    · have t1 : (a % b != 0) = true := by simp; omega
      clear hr
      go_enter Tryd.func23, Tryd.ntmps23
      go_wp2
      go_ret
      exact ⟨rfl, 0, rfl⟩

end Go.Proofs.YtepaiolhflpmeaaDoor.Divs
