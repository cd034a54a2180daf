/-
  A year's delay, its first day and its length, and what the calls of layer 3 answer. Conditions: the numbers are ints; the years are from 2 to 10000, as each theorem says.
-/
import Derived.Test.YtkdcfjaamahakaaPut
import Derived.OwnWalk
namespace Go.Proofs.Ytkdcfjaamahakaa.Mol
open Go.ChangeShapes Go.WideShapes Go.ChangeAt Go.RowKit
open Go.Proofs.Ytkdcfjaamahakaa.Divs Go.Proofs.Ytkdcfjaamahakaa.Grow
open Go.Proofs.Ytkdcfjaamahakaa.Year (lh mh pt md mp p1 p2 po dl ny yl)

theorem dl_of (h : Int) : po (md h % 7) (mp h) (lh h) (lh (h - 1)) = dl h := rfl

theorem delay_any (h : Int) (w : World) (h1 : 2 ≤ h) (h2 : h ≤ 10000) :
    Calls Try.prog 30 #[.agg #[.int .i64 h]] w fun e w' => e = .returned (.int .i64 (dl h)) ∧ Grown w w' := by
  have X0 := Lib.hid (gw_new w #[.int .i64 h] 36 0 (.int .i64 h) rfl)
  have hb := Year.md_bd h (by omega) h2
  have hw : 0 ≤ md h % 7 ∧ md h % 7 ≤ 6 := by omega
  have D := Lib.hid (fun W => day_any h W (by omega) h2)
  have P := Lib.hid (fun W => part_any h W (by omega) h2)
  have V := Lib.hid (fun W => drew_g (weekday_any (md h) W (by omega) (by omega)))
  have L := Lib.hid (fun (k : Int) (k1 : 1 ≤ k) (k2 : k ≤ 10000) W => drew_g (leap_any k W (by omega) (by omega)))
  have Q := Lib.hid (fun W => drew_g (put_any (md h % 7) (mp h) (lh h) (lh (h - 1)) W hw.1 hw.2))
  go_enter Try.func30, Try.ntmps30
  go_wp2_with fail
  have x0 := X0.out
  refine region_grown (by kernel_rfl) (by kernel_rfl) ?_
  repeat (go_big_quiet_step (first
    | (go_at_call 26; exact in_grown (D.out _))
    | (go_at_call 27; exact in_grown (P.out _))
    | (go_at_call 23; exact in_grown (V.out _))
    | (go_at_call 11; exact in_grown (L.out _ (by omega) (by omega) _))
    | (go_at_call 38; exact in_grown (Q.out _))))
  refine wpQuiet_nil (grown_end ?_)
  intro w2 hg2
  clear x0
  go_wp2_with fail
  go_ret
  exact ⟨ret1 (dl_of h), gtrans ((Grown.refl w).alloc _ _) hg2⟩

theorem first_any (h : Int) (w : World) (h1 : 2 ≤ h) (h2 : h ≤ 10000) :
    Calls Try.prog 31 #[.agg #[.int .i64 h]] w fun e w' => e = .returned (.int .i64 (ny h)) ∧ Grown w w' := by
  have X0 := Lib.hid (gw_new w #[.int .i64 h] 36 0 (.int .i64 h) rfl)
  have hb := Year.md_bd h (by omega) h2
  have hd := Year.dl_bd h
  have D := Lib.hid (fun W => day_any h W (by omega) h2)
  have P := Lib.hid (fun W => delay_any h W (by omega) h2)
  go_enter Try.func31, Try.ntmps31
  go_wp2_with fail
  have x0 := X0.out
  refine region_grown (by kernel_rfl) (by kernel_rfl) ?_
  repeat (go_big_quiet_step (first
    | (go_at_call 26; exact in_grown (D.out _))
    | (go_at_call 30; exact in_grown (P.out _))))
  refine wpQuiet_nil (grown_end ?_)
  intro w2 hg2
  clear x0
  go_wp2_with fail
  go_ret
  exact ⟨ret1 rfl, gtrans ((Grown.refl w).alloc _ _) hg2⟩

theorem two_old (w : World) (a b : Value) (t : TypeId) : ∀ x : Gw ((w.alloc (.cells #[a] t)).alloc (.cells #[b] t)), x.w'.cell? ⟨w.heap.size, 0, none⟩ = some a :=
  gw_cell (by simp)
theorem two_new (w : World) (a b : Value) (t : TypeId) : ∀ x : Gw ((w.alloc (.cells #[a] t)).alloc (.cells #[b] t)), x.w'.cell? ⟨w.heap.size + 1, 0, none⟩ = some b :=
  gw_cell (by simp)

theorem days_any (h : Int) (w : World) (h1 : 2 ≤ h) (h2 : h ≤ 9999) :
    Calls Try.prog 32 #[.agg #[.int .i64 h]] w fun e w' => e = .returned (.int .i64 (yl h)) ∧ Grown w w' := by
  have hb := Year.ny_bd h (by omega) (by omega)
  have hd := Year.ny_bd (h + 1) (by omega) (by omega)
  have D := Lib.hid (fun (k : Int) (k1 : 2 ≤ k) (k2 : k ≤ 10000) W => first_any k W k1 k2)
  have X0 := Lib.hid (two_old w (.int .i64 h) (.int .i64 (h + 1)) 36)
  have X1 := Lib.hid (two_new w (.int .i64 h) (.int .i64 (h + 1)) 36)
  go_enter Try.func32, Try.ntmps32
  go_wp2_with fail
  have x0 := X0.out
  have x1 := X1.out
  refine region_grown (by kernel_rfl) (by kernel_rfl) ?_
  repeat (go_big_quiet_step ((go_at_call 31; exact in_grown (D.out _ (by omega) (by omega) _))))
  refine wpQuiet_nil (grown_end ?_)
  intro w2 hg2
  clear x0 x1
  go_wp2_with fail
  go_ret
  exact ⟨ret1 rfl, gtrans (((Grown.refl w).alloc _ _).alloc _ _) hg2⟩

theorem months_yes (h : Int) (w : World) (h1 : 3762 ≤ h) (h2 : h ≤ 9999) :
    Calls Try.prog 9 #[.int .i64 h] w fun e w' => e = .returned (.tuple #[.int .i64 (mh h), .int .i64 0]) ∧ Grown w w' := by
  have K := Lib.hid (fun W => reckon_yes h (mh h) 25 W h1 h2 (enters_of Try.func25 (by kernel_rfl) rfl) (fun W => months_any h W (by omega) (by omega)))
  go_enter Try.func9, Try.ntmps9
  go_wp2_with fail
  refine (K.out _).mono ?_
  rintro e w1 ⟨rfl, hg1⟩
  go_wp2_with fail
  go_ret2
  exact ⟨rfl, hg1⟩

theorem months_no (h : Int) (w : World) (hb : h < 3762 ∨ 9999 < h) :
    Calls Try.prog 9 #[.int .i64 h] w fun e w' => e = .returned (.tuple #[.int .i64 0, .int .i64 30]) ∧ w = w' := by
  have K := Lib.hid (fun f W => reckon_no h f W hb)
  clear hb
  go_enter Try.func9, Try.ntmps9
  go_wp2_with fail
  refine (K.out _ _).mono ?_
  rintro e w1 ⟨rfl, rfl⟩
  go_wp2_with fail
  go_ret2
  exact ⟨rfl, rfl⟩

theorem delay_yes (h : Int) (w : World) (h1 : 3762 ≤ h) (h2 : h ≤ 9999) :
    Calls Try.prog 17 #[.int .i64 h] w fun e w' => e = .returned (.tuple #[.int .i64 (dl h), .int .i64 0]) ∧ Grown w w' := by
  have K := Lib.hid (fun W => reckon_yes h (dl h) 30 W h1 h2 (enters_of Try.func30 (by kernel_rfl) rfl) (fun W => delay_any h W (by omega) (by omega)))
  go_enter Try.func17, Try.ntmps17
  go_wp2_with fail
  refine (K.out _).mono ?_
  rintro e w1 ⟨rfl, hg1⟩
  go_wp2_with fail
  go_ret2
  exact ⟨rfl, hg1⟩

theorem delay_no (h : Int) (w : World) (hb : h < 3762 ∨ 9999 < h) :
    Calls Try.prog 17 #[.int .i64 h] w fun e w' => e = .returned (.tuple #[.int .i64 0, .int .i64 30]) ∧ w = w' := by
  have K := Lib.hid (fun f W => reckon_no h f W hb)
  clear hb
  go_enter Try.func17, Try.ntmps17
  go_wp2_with fail
  refine (K.out _ _).mono ?_
  rintro e w1 ⟨rfl, rfl⟩
  go_wp2_with fail
  go_ret2
  exact ⟨rfl, rfl⟩

theorem newyear_yes (h : Int) (w : World) (h1 : 3762 ≤ h) (h2 : h ≤ 9999) :
    Calls Try.prog 18 #[.int .i64 h] w fun e w' => e = .returned (.tuple #[.int .i64 (ny h), .int .i64 0]) ∧ Grown w w' := by
  have K := Lib.hid (fun W => reckon_yes h (ny h) 31 W h1 h2 (enters_of Try.func31 (by kernel_rfl) rfl) (fun W => first_any h W (by omega) (by omega)))
  go_enter Try.func18, Try.ntmps18
  go_wp2_with fail
  refine (K.out _).mono ?_
  rintro e w1 ⟨rfl, hg1⟩
  go_wp2_with fail
  go_ret2
  exact ⟨rfl, hg1⟩

theorem newyear_no (h : Int) (w : World) (hb : h < 3762 ∨ 9999 < h) :
    Calls Try.prog 18 #[.int .i64 h] w fun e w' => e = .returned (.tuple #[.int .i64 0, .int .i64 30]) ∧ w = w' := by
  have K := Lib.hid (fun f W => reckon_no h f W hb)
  clear hb
  go_enter Try.func18, Try.ntmps18
  go_wp2_with fail
  refine (K.out _ _).mono ?_
  rintro e w1 ⟨rfl, rfl⟩
  go_wp2_with fail
  go_ret2
  exact ⟨rfl, rfl⟩

theorem len_yes (h : Int) (w : World) (h1 : 3762 ≤ h) (h2 : h ≤ 9999) :
    Calls Try.prog 19 #[.int .i64 h] w fun e w' => e = .returned (.tuple #[.int .i64 (yl h), .int .i64 0]) ∧ Grown w w' := by
  have K := Lib.hid (fun W => reckon_yes h (yl h) 32 W h1 h2 (enters_of Try.func32 (by kernel_rfl) rfl) (fun W => days_any h W (by omega) (by omega)))
  go_enter Try.func19, Try.ntmps19
  go_wp2_with fail
  refine (K.out _).mono ?_
  rintro e w1 ⟨rfl, hg1⟩
  go_wp2_with fail
  go_ret2
  exact ⟨rfl, hg1⟩

theorem len_no (h : Int) (w : World) (hb : h < 3762 ∨ 9999 < h) :
    Calls Try.prog 19 #[.int .i64 h] w fun e w' => e = .returned (.tuple #[.int .i64 0, .int .i64 30]) ∧ w = w' := by
  have K := Lib.hid (fun f W => reckon_no h f W hb)
  clear hb
  go_enter Try.func19, Try.ntmps19
  go_wp2_with fail
  refine (K.out _ _).mono ?_
  rintro e w1 ⟨rfl, rfl⟩
  go_wp2_with fail
  go_ret2
  exact ⟨rfl, rfl⟩

theorem molad_yes (h : Int) (w : World) (h1 : 3762 ≤ h) (h2 : h ≤ 9999) :
    Calls Try.prog 10 #[.int .i64 h] w fun e w' => e = .returned (.tuple #[.int .i64 (md h), .int .i64 (mp h), .int .i64 0]) ∧ Grown w w' := by
  have K := Lib.hid (fun W => reckon_yes h (md h) 26 W h1 h2 (enters_of Try.func26 (by kernel_rfl) rfl) (fun W => day_any h W (by omega) (by omega)))
  have K2 := Lib.hid (fun W => reckon_yes h (mp h) 27 W h1 h2 (enters_of Try.func27 (by kernel_rfl) rfl) (fun W => part_any h W (by omega) (by omega)))
  go_enter Try.func10, Try.ntmps10
  go_wp2_with fail
  refine (K.out _).mono ?_
  rintro e w1 ⟨rfl, hg1⟩
  go_wp2_with fail
  refine (K2.out _).mono ?_
  rintro e w2 ⟨rfl, hg2⟩
  go_wp2_with fail
  go_ret3
  exact ⟨rfl, gtrans hg1 hg2⟩

theorem molad_no (h : Int) (w : World) (hb : h < 3762 ∨ 9999 < h) :
    Calls Try.prog 10 #[.int .i64 h] w fun e w' => e = .returned (.tuple #[.int .i64 0, .int .i64 0, .int .i64 30]) ∧ w = w' := by
  have K := Lib.hid (fun f W => reckon_no h f W hb)
  clear hb
  go_enter Try.func10, Try.ntmps10
  go_wp2_with fail
  refine (K.out _ _).mono ?_
  rintro e w1 ⟨rfl, rfl⟩
  go_wp2_with fail
  refine (K.out _ _).mono ?_
  rintro e w2 ⟨rfl, rfl⟩
  go_wp2_with fail
  go_ret3
  exact ⟨rfl, rfl⟩

/-- The chapter's example answers true. -/
theorem awake_any (w : World) : Calls Try.prog 14 #[] w fun e w' => e = .returned (.bool true) ∧ Grown w w' := by
  have A := fun W => months_yes 5784 W (by omega) (by omega)
  have B := fun W => molad_yes 5784 W (by omega) (by omega)
  have C := fun W => delay_yes 5784 W (by omega) (by omega)
  have D := fun W => newyear_yes 5784 W (by omega) (by omega)
  have E := fun W => len_yes 5784 W (by omega) (by omega)
  have F := fun W => drew_g (leap_any 5784 W (by omega) (by omega))
  rw [Year.mh_example] at A
  rw [Year.md_example, Year.mp_example] at B
  rw [Year.dl_example] at C
  rw [Year.ny_example] at D
  rw [Year.yl_example] at E
  rw [Year.lh_example] at F
  have A := Lib.hid A
  have B := Lib.hid B
  have C := Lib.hid C
  have D := Lib.hid D
  have E := Lib.hid E
  have F := Lib.hid F
  go_enter Try.func14, Try.ntmps14
  go_wp2_with fail
  refine (A.out _).mono ?_
  rintro e w1 ⟨rfl, hg1⟩
  go_wp2_with fail
  refine (B.out _).mono ?_
  rintro e w2 ⟨rfl, hg2⟩
  go_wp2_with fail
  refine (C.out _).mono ?_
  rintro e w3 ⟨rfl, hg3⟩
  go_wp2_with fail
  refine (D.out _).mono ?_
  rintro e w4 ⟨rfl, hg4⟩
  go_wp2_with fail
  refine (E.out _).mono ?_
  rintro e w5 ⟨rfl, hg5⟩
  go_wp2_with fail
  refine (F.out _).mono ?_
  rintro e w6 ⟨rfl, hg6⟩
  go_wp2_with fail
  go_ret
  exact ⟨rfl, gtrans hg1 (gtrans hg2 (gtrans hg3 (gtrans hg4 (gtrans hg5 hg6))))⟩

end Go.Proofs.Ytkdcfjaamahakaa.Mol
