/-
  What the document's own answers of layer 2 come to, call by call: leap years, months, weekdays, and whether a date may be. Conditions: the numbers are ints, as each theorem says.
-/
import Derived.Test.YtepaiolhflpmeaaDoorOfNth
namespace Go.Proofs.YtepaiolhflpmeaaDoor.Greg
open Go.ChangeShapes Go.WideShapes Go.ChangeAt Go.RowKit
open Go.Proofs.YtepaiolhflpmeaaDoor.Divs Go.Proofs.YtepaiolhflpmeaaDoor.Grow
open Go.Proofs.YtepaiolhflpmeaaDoor.Cal (lp ln tab dm ya ma dn yr mo om od)

theorem rleap_any (y : Int) (w : World) : Calls Tryd.prog 38 #[.int .i64 y] w fun e w' => e = .returned (.bool (lp y)) ∧ w = w' := by
  have HL := Lib.hid (lp_of y)
  by_cases hs : 0 ≤ y
  · rcases Bool.eq_false_or_eq_true (y % 4 == 0) with t4 | t4 <;> rcases Bool.eq_false_or_eq_true (y % 100 == 0) with t100 | t100 <;> rcases Bool.eq_false_or_eq_true (y % 400 == 0) with t400 | t400
    all_goals
      have u100 : (y % 100 != 0) = !(y % 100 == 0) := rfl
      rw [t100] at u100
      go_enter Tryd.func38, Tryd.ntmps38
      go_wp2
      go_ret
      exact ⟨retb (by rw [HL.out]; simp [t4, u100, t400]), rfl⟩
  · have e4 := tm0 y 4
    have e100 := tm0 y 100
    have e400 := tm0 y 400
    rcases Bool.eq_false_or_eq_true (y % 4 == 0) with t4 | t4 <;> rcases Bool.eq_false_or_eq_true (y % 100 == 0) with t100 | t100 <;> rcases Bool.eq_false_or_eq_true (y % 400 == 0) with t400 | t400
    all_goals
      rw [t4] at e4
      rw [t400] at e400
      have u100 : (y.tmod 100 != 0) = !(y.tmod 100 == 0) := rfl
      have v100 : (y % 100 != 0) = !(y % 100 == 0) := rfl
      rw [t100] at e100 v100
      rw [e100] at u100
      have T4 := Lib.hid t4
      have T400 := Lib.hid t400
      have V100 := Lib.hid v100
      clear t4 t400 v100 t100
      go_enter Tryd.func38, Tryd.ntmps38
      go_wp2
      go_ret
      exact ⟨retb (by rw [HL.out, T4.out, T400.out, V100.out]; rfl), rfl⟩

theorem long_any (y : Int) (w : World) : Calls Tryd.prog 37 #[.int .i64 y] w fun e w' => e = .returned (.int .i64 (ln y)) ∧ w = w' := by
  have hk := fun W => rleap_any y W
  rcases Cal.ln_cases y with ⟨h, e⟩ | ⟨h, e⟩
  all_goals
    rw [h] at hk
    have HK := Lib.hid hk
    have HE := Lib.hid e
    clear hk h e
    go_enter Tryd.func37, Tryd.ntmps37
    go_wp2_with (go_at_call 38; refine (HK.out _).mono ?_; rintro e w' ⟨rfl, rfl⟩)
    go_ret
    exact ⟨ret1 HE.out.symm, rfl⟩

theorem rdays_no (y m : Int) (w : World) (h : y < 1 ∨ 9999 < y ∨ m < 1 ∨ 12 < m) : Calls Tryd.prog 24 #[.int .i64 y, .int .i64 m] w fun e w' => e = .returned (.int .i64 (dm y m)) ∧ w = w' := by
  have HV := Lib.hid (Cal.dm_no y m h)
  by_cases h1 : y < 1
  · clear h
    go_enter Tryd.func24, Tryd.ntmps24
    go_wp2
    go_ret
    exact ⟨ret1 HV.out.symm, rfl⟩
  by_cases h2 : 9999 < y
  · clear h
    go_enter Tryd.func24, Tryd.ntmps24
    go_wp2
    go_ret
    exact ⟨ret1 HV.out.symm, rfl⟩
  by_cases h3 : m < 1
  · clear h
    go_enter Tryd.func24, Tryd.ntmps24
    go_wp2
    go_ret
    exact ⟨ret1 HV.out.symm, rfl⟩
  have h4 : 12 < m := by omega
  clear h
  go_enter Tryd.func24, Tryd.ntmps24
  go_wp2
  go_ret
  exact ⟨ret1 HV.out.symm, rfl⟩

theorem rdays_yes (y m : Int) (w : World) (h1 : 1 ≤ y) (h2 : y ≤ 9999) (h3 : 1 ≤ m) (h4 : m ≤ 12) : Calls Tryd.prog 24 #[.int .i64 y, .int .i64 m] w fun e w' => e = .returned (.int .i64 (dm y m)) ∧ w = w' := by
  by_cases h5 : m = 2
  · subst h5
    have HF := Lib.hid (dm_feb y h1 h2)
    have hk := fun W => rleap_any y W
    clear h3 h4
    cases hl : lp y with
    | true =>
      have HL := Lib.hid hl
      rw [hl] at hk
      have HK := Lib.hid hk
      clear hl hk
      go_enter Tryd.func24, Tryd.ntmps24
      go_wp2_with (go_at_call 38; refine (HK.out _).mono ?_; rintro e w' ⟨rfl, rfl⟩)
      go_ret
      exact ⟨ret1 (by rw [HF.out, HL.out]; rfl), rfl⟩
    | false =>
      have HL := Lib.hid hl
      rw [hl] at hk
      have HK := Lib.hid hk
      clear hl hk
      go_enter Tryd.func24, Tryd.ntmps24
      go_wp2_with (go_at_call 38; refine (HK.out _).mono ?_; rintro e w' ⟨rfl, rfl⟩)
      go_ret
      exact ⟨ret1 (by rw [HF.out, HL.out]; rfl), rfl⟩
  · have hv := dm_not y m h1 h2 h3 h4 h5
    obtain rfl | rfl | rfl | rfl | rfl | rfl | rfl | rfl | rfl | rfl | rfl : m = 1 ∨ m = 3 ∨ m = 4 ∨ m = 5 ∨ m = 6 ∨ m = 7 ∨ m = 8 ∨ m = 9 ∨ m = 10 ∨ m = 11 ∨ m = 12 := by omega
    all_goals
      have HV := Lib.hid hv
      clear hv h3 h4 h5
      go_enter Tryd.func24, Tryd.ntmps24
      go_wp2
      go_ret
      exact ⟨ret1 (by rw [HV.out]; decide), rfl⟩

theorem rdays_any (y m : Int) (w : World) : Calls Tryd.prog 24 #[.int .i64 y, .int .i64 m] w fun e w' => e = .returned (.int .i64 (dm y m)) ∧ w = w' := by
  by_cases h : y < 1 ∨ 9999 < y ∨ m < 1 ∨ 12 < m
  · exact rdays_no y m w h
  · exact rdays_yes y m w (by omega) (by omega) (by omega) (by omega)

/-- May a date be? -/
def mayB (y m d : Int) : Bool := decide (1 ≤ d ∧ d ≤ dm y m)

end Go.Proofs.YtepaiolhflpmeaaDoor.Greg
