/-
  Which Hebrew year a day lies in, by the program: the library's search by halves, over a function value. Conditions: the day lies in the year that the theorem names.
-/
import Derived.Test.YtdoahnkjkbpdaaaDt
namespace Go.Proofs.Ytdoahnkjkbpdaaa.Hebrew
open Go.ChangeShapes Go.WideShapes Go.ChangeAt Go.RowKit
open Go.Proofs.Ytdoahnkjkbpdaaa.Divs Go.Proofs.Ytdoahnkjkbpdaaa.Grow Go.Proofs.Ytdoahnkjkbpdaaa.Mol
open Go.Proofs.Ytdoahnkjkbpdaaa.Year (lh mh pt md mp p1 p2 po dl ny yl)
open Go.Proofs.Ytdoahnkjkbpdaaa.Heb (hd ha ups)

def SRel (n p : Int) (w : World) (x y : Value) (wr : World) : Prop := ∃ i j : Int, 0 ≤ i ∧ i ≤ p ∧ p ≤ j ∧ j ≤ n ∧ x = .int .i64 i ∧ y = .int .i64 j ∧ Later w wr

set_option maxHeartbeats 1000000 in
theorem search_any (n p : Int) (k : FuncId) (c : Value) (w : World) (p0 : 0 ≤ p) (p1 : p ≤ n) (hn : n ≤ 1000000)
    (ek : ∀ args W, (callFunc k args).run Try.prog W = .ok (.enter k args) W)
    (hk : ∀ (i : Int) W, 0 ≤ i → i < n → Later w W → Calls Try.prog k #[.int .i64 i, c] W fun e w' => e = .returned (.bool (decide (p ≤ i))) ∧ Later W w') :
    Calls Try.prog 63 #[.int .i64 n, .func (.func k) #[] #[c]] w fun e w' => e = .returned (.int .i64 p) ∧ Later w w' := by
  have HK := Lib.hid hk
  clear hk
  go_enter Try.func63, Try.ntmps63
  go_wp2_with fail
  go_loopw [5, 6] (fun x y wr => SRel n p w x y wr) (fun x y _ => (intOf y - intOf x).toNat)
  case atStart => exact ⟨0, n, by omega, by omega, by omega, by omega, rfl, rfl, Later.refl w⟩
  case round =>
    obtain ⟨i, j, i0, i1, j0, j1, rfl, rfl, hg⟩ := hrel
    by_cases hlt : i < j
    · go_wp2_with fail
      refine (HK.out _ _ (by omega) (by omega) hg).mono ?_
      rintro e w1 ⟨rfl, hg1⟩
      have hh : i ≤ (i + j) / 2 ∧ (i + j) / 2 < j := by omega
      by_cases hq : p ≤ (i + j) / 2
      · rw [decide_eq_true hq]
        go_wp2_with fail
        go_roundw
        case rel => exact ⟨i, (i + j) / 2, by omega, by omega, by omega, by omega, rfl, rfl, gtrans hg hg1⟩
        case measure => simp [intOf]; omega
      · rw [decide_eq_false hq]
        go_wp2_with fail
        go_roundw
        case rel => exact ⟨(i + j) / 2 + 1, j, by omega, by omega, by omega, by omega, rfl, rfl, gtrans hg hg1⟩
        case measure => simp [intOf]; omega
    · obtain rfl : i = p := by omega
      go_wp2_with fail
      go_ret
      exact ⟨rfl, hg⟩

theorem behind_any (n i h : Int) (B : Nat) (w : World) (i0 : 0 ≤ i) (i1 : i < 6237) (a1 : ny h ≤ n) (a2 : n < ny (h + 1)) (hc : w.cell? ⟨B, 0, none⟩ = some (.int .i64 n)) :
    Calls Try.prog 64 #[.int .i64 i, .pointer (some ⟨B, 0, none⟩)] w fun e w' => e = .returned (.bool (decide (h - 3762 ≤ i))) ∧ Later w w' := by
  have Y := Lib.hid (fun W => newyear_yes (3762 + i + 1) W (by omega) (by omega))
  have hb := Year.ny_bd (3762 + i + 1) (by omega) (by omega)
  have hx := Heb.ny_one_of n h (3762 + i + 1) a1 a2
  have HX := Lib.hid (show decide (n < ny (3762 + i + 1)) = decide (h - 3762 ≤ i) by
    by_cases c : h - 3762 ≤ i
    · rw [decide_eq_true c]; exact decide_eq_true (by have := mt hx.1 (by omega); omega)
    · rw [decide_eq_false c]; exact decide_eq_false (by have := hx.2 (by omega); omega))
  clear hx a1 a2
  go_enter Try.func64, Try.ntmps64
  go_wp2_with fail
  refine (Y.out _).mono ?_
  rintro e w1 ⟨rfl, hg1⟩
  have hc1 := gsome hg1 hc
  go_wp2_with fail
  go_ret
  exact ⟨retb HX.out, hg1⟩

theorem yearof_any (n h : Int) (w : World) (h1 : 3762 ≤ h) (h2 : h ≤ 9999) (a1 : ny h ≤ n) (a2 : n < ny (h + 1)) :
    Calls Try.prog 40 #[.int .i64 n] w fun e w' => e = .returned (.int .i64 h) ∧ Later w w' := by
  have b1 := Year.ny_bd h (by omega) (by omega)
  have b2 := Year.ny_bd (h + 1) (by omega) (by omega)
  have S := Lib.hid (search_any 6237 (h - 3762) 64 (.pointer (some ⟨w.heap.size, 0, none⟩)) (w.alloc (.cells #[.int .i64 n] 3)) (by omega) (by omega) (by omega) (enters_of Try.func64 (by kernel_rfl) rfl)
    (fun i W i0 i1 hg => behind_any n i h w.heap.size W i0 i1 a1 a2 (cell4 hg 0 rfl)))
  clear a1 a2 b1 b2
  go_enter Try.func40, Try.ntmps40
  go_wp2_with fail
  refine S.out.mono ?_
  rintro e w1 ⟨rfl, hg1⟩
  go_wp2_with fail
  go_ret
  exact ⟨ret1 (by omega), gtrans ((Later.refl w).alloc _ _) hg1⟩

theorem firstday_any (w : World) : Calls Try.prog 37 #[] w fun e w' => e = .returned (.int .i64 (ny 3762)) ∧ Later w w' := by
  have Y := Lib.hid (fun W => newyear_yes 3762 W (by omega) (by omega))
  go_enter Try.func37, Try.ntmps37
  go_wp2_with fail
  refine (Y.out _).mono ?_
  rintro e w1 ⟨rfl, hg1⟩
  go_wp2_with fail
  go_ret
  exact ⟨rfl, hg1⟩

theorem lastday_any (w : World) : Calls Try.prog 38 #[] w fun e w' => e = .returned (.int .i64 (ny 10000 - 1)) ∧ Later w w' := by
  have Y := Lib.hid (fun W => newyear_yes 9999 W (by omega) (by omega))
  have L := Lib.hid (fun W => len_yes 9999 W (by omega) (by omega))
  have E := Lib.hid (Heb.ny_next 9999)
  have b1 := Year.ny_bd 9999 (by omega) (by omega)
  have b2 := Heb.yl_bd 9999
  go_enter Try.func38, Try.ntmps38
  go_wp2_with fail
  refine (Y.out _).mono ?_
  rintro e w1 ⟨rfl, hg1⟩
  go_wp2_with fail
  refine (L.out _).mono ?_
  rintro e w2 ⟨rfl, hg2⟩
  go_wp2_with fail
  go_ret
  exact ⟨ret1 (by have := E.out; simp at this; omega), gtrans hg1 hg2⟩

end Go.Proofs.Ytdoahnkjkbpdaaa.Hebrew
