/-
  A year's delay, its first day and its length, and what the calls of layer 3 answer. Conditions: the numbers are ints; the years are from 2 to 10000, as each theorem says.
-/
import Derived.Test.YtdoahnkjkbpdaaaPut
import Derived.OwnWalk
namespace Go.Proofs.Ytdoahnkjkbpdaaa.Mol
open Go.ChangeShapes Go.WideShapes Go.ChangeAt Go.RowKit
open Go.Proofs.Ytdoahnkjkbpdaaa.Divs Go.Proofs.Ytdoahnkjkbpdaaa.Grow
open Go.Proofs.Ytdoahnkjkbpdaaa.Year (lh mh pt md mp p1 p2 po dl ny yl)

theorem dl_of (h : Int) : po (md h % 7) (mp h) (lh h) (lh (h - 1)) = dl h := rfl

theorem delay_any (h : Int) (w : World) (h1 : 2 ≤ h) (h2 : h ≤ 10000) :
    Calls Try.prog 59 #[.agg #[.int .i64 h]] w fun e w' => e = .returned (.int .i64 (dl h)) ∧ Later w w' := by
  have X0 := Lib.hid (gw_new w #[.int .i64 h] 59 0 (.int .i64 h) rfl)
  have hb := Year.md_bd h (by omega) h2
  have hw : 0 ≤ md h % 7 ∧ md h % 7 ≤ 6 := by omega
  have D := Lib.hid (fun W => day_any h W (by omega) h2)
  have P := Lib.hid (fun W => part_any h W (by omega) h2)
  have V := Lib.hid (fun W => drew_g (weekday_any (md h) W (by omega) (by omega)))
  have L := Lib.hid (fun (k : Int) (k1 : 1 ≤ k) (k2 : k ≤ 10000) W => drew_g (leap_any k W (by omega) (by omega)))
  have Q := Lib.hid (fun W => drew_g (put_any (md h % 7) (mp h) (lh h) (lh (h - 1)) W hw.1 hw.2))
  go_enter Try.func59, Try.ntmps59
  go_wp2_with fail
  have x0 := X0.out
  refine region_grown (by kernel_rfl) (by kernel_rfl) ?_
  repeat (go_big_quiet_step (first
    | (go_at_call 58; exact in_grown (D.out _))
    | (go_at_call 75; exact in_grown (P.out _))
    | (go_at_call 22; exact in_grown (V.out _))
    | (go_at_call 62; exact in_grown (L.out _ (by omega) (by omega) _))
    | (go_at_call 74; exact in_grown (Q.out _))))
  refine wpQuiet_nil (grown_end ?_)
  intro w2 hg2
  clear x0
  go_wp2_with fail
  go_ret
  exact ⟨ret1 (dl_of h), gtrans ((Later.refl w).alloc _ _) hg2⟩

theorem first_any (h : Int) (w : World) (h1 : 2 ≤ h) (h2 : h ≤ 10000) :
    Calls Try.prog 35 #[.agg #[.int .i64 h]] w fun e w' => e = .returned (.int .i64 (ny h)) ∧ Later w w' := by
  have X0 := Lib.hid (gw_new w #[.int .i64 h] 59 0 (.int .i64 h) rfl)
  have hb := Year.md_bd h (by omega) h2
  have hd := Year.dl_bd h
  have D := Lib.hid (fun W => day_any h W (by omega) h2)
  have P := Lib.hid (fun W => delay_any h W (by omega) h2)
  go_enter Try.func35, Try.ntmps35
  go_wp2_with fail
  have x0 := X0.out
  refine region_grown (by kernel_rfl) (by kernel_rfl) ?_
  repeat (go_big_quiet_step (first
    | (go_at_call 58; exact in_grown (D.out _))
    | (go_at_call 59; exact in_grown (P.out _))))
  refine wpQuiet_nil (grown_end ?_)
  intro w2 hg2
  clear x0
  go_wp2_with fail
  go_ret
  exact ⟨ret1 rfl, gtrans ((Later.refl w).alloc _ _) hg2⟩

theorem two_old (w : World) (a b : Value) (t : TypeId) : ∀ x : Gw ((w.alloc (.cells #[a] t)).alloc (.cells #[b] t)), x.w'.cell? ⟨w.heap.size, 0, none⟩ = some a :=
  gw_cell (by simp)
theorem two_new (w : World) (a b : Value) (t : TypeId) : ∀ x : Gw ((w.alloc (.cells #[a] t)).alloc (.cells #[b] t)), x.w'.cell? ⟨w.heap.size + 1, 0, none⟩ = some b :=
  gw_cell (by simp)

theorem days_any (h : Int) (w : World) (h1 : 2 ≤ h) (h2 : h ≤ 9999) :
    Calls Try.prog 76 #[.agg #[.int .i64 h]] w fun e w' => e = .returned (.int .i64 (yl h)) ∧ Later w w' := by
  have hb := Year.ny_bd h (by omega) (by omega)
  have hd := Year.ny_bd (h + 1) (by omega) (by omega)
  have D := Lib.hid (fun (k : Int) (k1 : 2 ≤ k) (k2 : k ≤ 10000) W => first_any k W k1 k2)
  have X0 := Lib.hid (two_old w (.int .i64 h) (.int .i64 (h + 1)) 59)
  have X1 := Lib.hid (two_new w (.int .i64 h) (.int .i64 (h + 1)) 59)
  go_enter Try.func76, Try.ntmps76
  go_wp2_with fail
  have x0 := X0.out
  have x1 := X1.out
  refine region_grown (by kernel_rfl) (by kernel_rfl) ?_
  repeat (go_big_quiet_step ((go_at_call 35; exact in_grown (D.out _ (by omega) (by omega) _))))
  refine wpQuiet_nil (grown_end ?_)
  intro w2 hg2
  clear x0 x1
  go_wp2_with fail
  go_ret
  exact ⟨ret1 rfl, gtrans (((Later.refl w).alloc _ _).alloc _ _) hg2⟩

theorem newyear_yes (h : Int) (w : World) (h1 : 3762 ≤ h) (h2 : h ≤ 9999) :
    Calls Try.prog 21 #[.int .i64 h] w fun e w' => e = .returned (.tuple #[.int .i64 (ny h), .int .i64 0]) ∧ Later w w' := by
  have K := Lib.hid (fun W => reckon_yes h (ny h) 35 W h1 h2 (enters_of Try.func35 (by kernel_rfl) rfl) (fun W => first_any h W (by omega) (by omega)))
  go_enter Try.func21, Try.ntmps21
  go_wp2_with fail
  refine (K.out _).mono ?_
  rintro e w1 ⟨rfl, hg1⟩
  go_wp2_with fail
  go_ret2
  exact ⟨rfl, hg1⟩

theorem newyear_no (h : Int) (w : World) (hb : h < 3762 ∨ 9999 < h) :
    Calls Try.prog 21 #[.int .i64 h] w fun e w' => e = .returned (.tuple #[.int .i64 0, .int .i64 30]) ∧ w = w' := by
  have K := Lib.hid (fun f W => reckon_no h f W hb)
  clear hb
  go_enter Try.func21, Try.ntmps21
  go_wp2_with fail
  refine (K.out _ _).mono ?_
  rintro e w1 ⟨rfl, rfl⟩
  go_wp2_with fail
  go_ret2
  exact ⟨rfl, rfl⟩

theorem len_yes (h : Int) (w : World) (h1 : 3762 ≤ h) (h2 : h ≤ 9999) :
    Calls Try.prog 61 #[.int .i64 h] w fun e w' => e = .returned (.tuple #[.int .i64 (yl h), .int .i64 0]) ∧ Later w w' := by
  have K := Lib.hid (fun W => reckon_yes h (yl h) 76 W h1 h2 (enters_of Try.func76 (by kernel_rfl) rfl) (fun W => days_any h W (by omega) (by omega)))
  go_enter Try.func61, Try.ntmps61
  go_wp2_with fail
  refine (K.out _).mono ?_
  rintro e w1 ⟨rfl, hg1⟩
  go_wp2_with fail
  go_ret2
  exact ⟨rfl, hg1⟩

theorem len_no (h : Int) (w : World) (hb : h < 3762 ∨ 9999 < h) :
    Calls Try.prog 61 #[.int .i64 h] w fun e w' => e = .returned (.tuple #[.int .i64 0, .int .i64 30]) ∧ w = w' := by
  have K := Lib.hid (fun f W => reckon_no h f W hb)
  clear hb
  go_enter Try.func61, Try.ntmps61
  go_wp2_with fail
  refine (K.out _ _).mono ?_
  rintro e w1 ⟨rfl, rfl⟩
  go_wp2_with fail
  go_ret2
  exact ⟨rfl, rfl⟩

end Go.Proofs.Ytdoahnkjkbpdaaa.Mol
