/-
  Texts of mine, merged: each part says what it holds. Conditions: as each theorem states.
-/
import Derived.RowKit
import Derived.Shelf.Abstract
import Derived.OwnWalk
import Derived.Test.YtihdijkplmfhfaaGreatDoorM4

/- What Moment answers, by the program and by the document. Conditions: the table of months lies where the program lays it; the numbers are ints, as each theorem says. -/
namespace Go.Proofs.YtihdijkplmfhfaaGreatDoor.Window
set_option maxRecDepth 100000
set_option maxRecDepth 100000
open Go.ChangeShapes Go.WideShapes Go.ChangeAt Go.RowKit
open Go.Proofs.YtihdijkplmfhfaaGreatDoor.Divs Go.Proofs.YtihdijkplmfhfaaGreatDoor.Grow
open Go.Proofs.YtihdijkplmfhfaaGreatDoor.Greg (Laid)
open Go.Proofs.YtihdijkplmfhfaaGreatDoor.Zo Go.Proofs.YtihdijkplmfhfaaGreatDoor.Zone Go.Proofs.YtihdijkplmfhfaaGreatDoor.Win

theorem ret2 {a b c d : Int} (h1 : a = c) (h2 : b = d) : Ending.returned (.tuple #[.int .i64 a, .int .i64 b]) = .returned (.tuple #[.int .i64 c, .int .i64 d]) := by rw [h1, h2]

theorem asked_any (n : Int) (w : World) : Calls Tryz.prog 50 #[.int .i64 n] w fun e w' => e = .returned (.bool (wiB n 402 3651990)) ∧ w = w' := by
  by_cases h : 402 ≤ n
  · have t : decide (402 ≤ n) = true := by simpa using h
    have t' : decide (n ≥ 402) = true := by simpa using h
    have HV : Hid (wiB n 402 3651990 = decide (n ≤ 3651990)) := by
      have : wiB n 402 3651990 = decide (n ≤ 3651990) := by unfold wiB; rw [t]; rfl
      exact this
    clear h
    go_enter Tryz.func50, Tryz.ntmps50
    go_wp2
    go_ret
    exact ⟨retb HV.out.symm, rfl⟩
  · have t : decide (402 ≤ n) = false := by simpa using h
    have t' : decide (n ≥ 402) = false := by simpa using h
    have HV : Hid (wiB n 402 3651990 = false) := by
      have : wiB n 402 3651990 = false := by unfold wiB; rw [t]; rfl
      exact this
    clear h
    go_enter Tryz.func50, Tryz.ntmps50
    go_wp2
    go_ret
    exact ⟨retb HV.out.symm, rfl⟩

theorem moment_zone (z : Zn) (d m : Int) (w : World) (hL : Laid w) (h : ¬ ck z = 0) : Calls Tryz.prog 24 #[.agg (zc z), .int .i64 d, .int .i64 m] w fun e w' => e = .returned (.tuple #[.int .i64 (wV z d m), .int .i64 (wE z d m)]) ∧ Later w w' := by
  have hE : wE z d m = ck z := by unfold wE; rw [if_neg h]
  have HE := Lib.hid hE
  have HV := Lib.hid (show wV z d m = 0 by unfold wV; rw [if_neg (by rw [hE]; exact h)])
  have e0 : (ck z != 0) = true := by simpa using h
  clear h hE
  have C := Lib.hid (fun W => Zone.check_any z W)
  have K := Lib.hid (fun W => asked_any d W)
  have HN := Lib.hid (Zat.new w z)
  have HW := Lib.hid ((Later.refl w).alloc (zc z) 28)
  have HL := Lib.hid (hL.grown HW.out)
  clear hL
  unfold zc
  go_enter Tryz.func24, Tryz.ntmps24
  go_wp2_with fail
  refine (C.out _).mono ?_
  rintro e w1 ⟨rfl, hg1⟩
  have HG1 := Lib.hid hg1
  clear hg1
  go_wp2_with fail
  go_ret2
  exact ⟨ret2 HV.out.symm HE.out.symm, gtrans HW.out HG1.out⟩

theorem moment_day (z : Zn) (d m : Int) (w : World) (hL : Laid w) (h : ck z = 0) (hd : ¬ (402 ≤ d ∧ d ≤ 3651990)) : Calls Tryz.prog 24 #[.agg (zc z), .int .i64 d, .int .i64 m] w fun e w' => e = .returned (.tuple #[.int .i64 (wV z d m), .int .i64 (wE z d m)]) ∧ Later w w' := by
  have hE : wE z d m = 140 := by unfold wE; rw [if_pos h, if_neg (by omega)]
  have HE := Lib.hid hE
  have HV := Lib.hid (show wV z d m = 0 by unfold wV; rw [if_neg (by rw [hE]; omega)])
  have e0 : (ck z != 0) = false := by simpa using h
  have e1 := wiB_not d 402 3651990 hd
  clear h hE hd
  have C := Lib.hid (fun W => Zone.check_any z W)
  have K := Lib.hid (fun W => asked_any d W)
  have HN := Lib.hid (Zat.new w z)
  have HW := Lib.hid ((Later.refl w).alloc (zc z) 28)
  have HL := Lib.hid (hL.grown HW.out)
  clear hL
  unfold zc
  go_enter Tryz.func24, Tryz.ntmps24
  go_wp2_with fail
  refine (C.out _).mono ?_
  rintro e w1 ⟨rfl, hg1⟩
  have HG1 := Lib.hid hg1
  clear hg1
  go_wp2_with fail
  refine (K.out _).mono ?_
  rintro e w2 ⟨rfl, rfl⟩
  go_wp2_with fail
  go_ret2
  exact ⟨ret2 HV.out.symm HE.out.symm, gtrans HW.out HG1.out⟩

theorem moment_low (z : Zn) (d m : Int) (w : World) (hL : Laid w) (h : ck z = 0) (hd : 402 ≤ d ∧ d ≤ 3651990) (hm : m < 0) : Calls Tryz.prog 24 #[.agg (zc z), .int .i64 d, .int .i64 m] w fun e w' => e = .returned (.tuple #[.int .i64 (wV z d m), .int .i64 (wE z d m)]) ∧ Later w w' := by
  have hE : wE z d m = 140 := by unfold wE; rw [if_pos h, if_neg (by omega)]
  have HE := Lib.hid hE
  have HV := Lib.hid (show wV z d m = 0 by unfold wV; rw [if_neg (by rw [hE]; omega)])
  have e0 : (ck z != 0) = false := by simpa using h
  have e1 := (wiB_iff d 402 3651990).2 hd
  have e2 : decide (m < 0) = true := by simpa using hm
  clear h hE hd hm
  have C := Lib.hid (fun W => Zone.check_any z W)
  have K := Lib.hid (fun W => asked_any d W)
  have HN := Lib.hid (Zat.new w z)
  have HW := Lib.hid ((Later.refl w).alloc (zc z) 28)
  have HL := Lib.hid (hL.grown HW.out)
  clear hL
  unfold zc
  go_enter Tryz.func24, Tryz.ntmps24
  go_wp2_with fail
  refine (C.out _).mono ?_
  rintro e w1 ⟨rfl, hg1⟩
  have HG1 := Lib.hid hg1
  clear hg1
  go_wp2_with fail
  refine (K.out _).mono ?_
  rintro e w2 ⟨rfl, rfl⟩
  go_wp2_with fail
  go_ret2
  exact ⟨ret2 HV.out.symm HE.out.symm, gtrans HW.out HG1.out⟩

theorem moment_high (z : Zn) (d m : Int) (w : World) (hL : Laid w) (h : ck z = 0) (hd : 402 ≤ d ∧ d ≤ 3651990) (hm : 0 ≤ m) (hm2 : 1440 ≤ m) : Calls Tryz.prog 24 #[.agg (zc z), .int .i64 d, .int .i64 m] w fun e w' => e = .returned (.tuple #[.int .i64 (wV z d m), .int .i64 (wE z d m)]) ∧ Later w w' := by
  have hE : wE z d m = 140 := by unfold wE; rw [if_pos h, if_neg (by omega)]
  have HE := Lib.hid hE
  have HV := Lib.hid (show wV z d m = 0 by unfold wV; rw [if_neg (by rw [hE]; omega)])
  have e0 : (ck z != 0) = false := by simpa using h
  have e1 := (wiB_iff d 402 3651990).2 hd
  have e2 : decide (m < 0) = false := by simpa using hm
  have e3 : decide (m ≥ 1440) = true := by simpa using hm2
  clear h hE hd hm hm2
  have C := Lib.hid (fun W => Zone.check_any z W)
  have K := Lib.hid (fun W => asked_any d W)
  have HN := Lib.hid (Zat.new w z)
  have HW := Lib.hid ((Later.refl w).alloc (zc z) 28)
  have HL := Lib.hid (hL.grown HW.out)
  clear hL
  unfold zc
  go_enter Tryz.func24, Tryz.ntmps24
  go_wp2_with fail
  refine (C.out _).mono ?_
  rintro e w1 ⟨rfl, hg1⟩
  have HG1 := Lib.hid hg1
  clear hg1
  go_wp2_with fail
  refine (K.out _).mono ?_
  rintro e w2 ⟨rfl, rfl⟩
  go_wp2_with fail
  go_ret2
  exact ⟨ret2 HV.out.symm HE.out.symm, gtrans HW.out HG1.out⟩

theorem moment_yes (z : Zn) (d m : Int) (w : World) (hL : Laid w) (h : wE z d m = 0) : Calls Tryz.prog 24 #[.agg (zc z), .int .i64 d, .int .i64 m] w fun e w' => e = .returned (.tuple #[.int .i64 (wV z d m), .int .i64 (wE z d m)]) ∧ Later w w' := by
  obtain ⟨hz, d0, d1, m0, m1⟩ := (wE_ok z d m).1 h
  have HE := Lib.hid h
  have HV := Lib.hid (show wV z d m = mv z (d * 1440 + m) by unfold wV; rw [if_pos h])
  have e0 : (ck z != 0) = false := by simpa using (ck_may z).2 hz
  have e1 := (wiB_iff d 402 3651990).2 ⟨d0, d1⟩
  have e2 : decide (m < 0) = false := by simpa using m0
  have e3 : decide (m ≥ 1440) = false := by simp; omega
  have F := Lib.hid (fun W hW => first_any z d m W hW hz d0 d1 m0 m1)
  clear h hz d0 d1 m0 m1
  have C := Lib.hid (fun W => Zone.check_any z W)
  have K := Lib.hid (fun W => asked_any d W)
  have HN := Lib.hid (Zat.new w z)
  have HW := Lib.hid ((Later.refl w).alloc (zc z) 28)
  have HL := Lib.hid (hL.grown HW.out)
  clear hL
  generalize mv z (d * 1440 + m) = v at *
  unfold zc
  go_enter Tryz.func24, Tryz.ntmps24
  go_wp2_with fail
  refine (C.out _).mono ?_
  rintro e w1 ⟨rfl, hg1⟩
  have HG1 := Lib.hid hg1
  have HL1 := Lib.hid (HL.out.grown hg1)
  obtain ⟨k0, k1, k2, k3, k4, k5, k6, k7, k8, k9⟩ := HN.out.later hg1
  clear hg1
  go_wp2_with fail
  refine (K.out _).mono ?_
  rintro e w2 ⟨rfl, rfl⟩
  go_wp2_with fail
  refine (F.out _ HL1.out).mono ?_
  rintro e w3 ⟨rfl, hg3⟩
  have HG3 := Lib.hid hg3
  clear k0 k1 k2 k3 k4 k5 k6 k7 k8 k9 hg3
  go_wp2_with fail
  go_ret2
  exact ⟨ret2 HV.out.symm HE.out.symm, gtrans (gtrans HW.out HG1.out) HG3.out⟩

theorem moment_any (z : Zn) (d m : Int) (w : World) (hL : Laid w) : Calls Tryz.prog 24 #[.agg (zc z), .int .i64 d, .int .i64 m] w fun e w' => e = .returned (.tuple #[.int .i64 (wV z d m), .int .i64 (wE z d m)]) ∧ Later w w' := by
  by_cases h : ck z = 0
  · by_cases hd : 402 ≤ d ∧ d ≤ 3651990
    · by_cases hm : m < 0
      · exact moment_low z d m w hL h hd hm
      · by_cases hm2 : 1440 ≤ m
        · exact moment_high z d m w hL h hd (by omega) hm2
        · exact moment_yes z d m w hL ((wE_ok z d m).2 ⟨(ck_may z).1 h, hd.1, hd.2, by omega, by omega⟩)
    · exact moment_day z d m w hL h hd
  · exact moment_zone z d m w hL h

/-- The document's instants of a minute that is told, or not. -/
theorem rinst_first (z : Zn) (x v : Int) (r : List Int) (w : World) (hz : May z) (x0 : 577440 ≤ x) (x1 : x ≤ 5258878559) (h : ins z x = v :: r) :
    Calls Tryz.prog 68 #[.agg (zc z), .int .i64 (x / 1440), .int .i64 (x % 1440)] w fun e w' => ∃ g len cap, e = .returned (.slice (some ⟨g, 0, none⟩) (len + 1) cap) ∧ w'.cell? ⟨g, 0, none⟩ = some (.int .i64 v) ∧ Later w w' ∧ len ≤ 10 := by
  refine (rinstants_any z (x / 1440) (x % 1440) w hz (by omega) (by omega) (by omega) (by omega)).mono ?_
  rintro e w' ⟨u, rfl, hs, hg⟩
  rw [show x / 1440 * 1440 + x % 1440 = x by omega, h] at hs
  have hr : r.length ≤ 10 := by
    have : (ins z x).length ≤ 2 := by unfold ins; split <;> split <;> simp
    rw [h] at this
    simp at this
    omega
  rcases hs with ⟨hs, _⟩ | ⟨g, cap, rfl, hc⟩
  · cases hs
  · exact ⟨g, r.length, cap, rfl, hc 0 v rfl, hg, hr⟩

theorem rinst_none (z : Zn) (x : Int) (w : World) (hz : May z) (x0 : 577440 ≤ x) (x1 : x ≤ 5258878559) (h : ins z x = []) :
    Calls Tryz.prog 68 #[.agg (zc z), .int .i64 (x / 1440), .int .i64 (x % 1440)] w fun e w' => ∃ a cap, e = .returned (.slice a 0 cap) ∧ Later w w' := by
  refine (rinstants_any z (x / 1440) (x % 1440) w hz (by omega) (by omega) (by omega) (by omega)).mono ?_
  rintro e w' ⟨u, rfl, hs, hg⟩
  rw [show x / 1440 * 1440 + x % 1440 = x by omega, h] at hs
  rcases hs with ⟨_, rfl⟩ | ⟨g, cap, rfl, hc⟩
  · exact ⟨none, 0, rfl, hg⟩
  · exact ⟨_, cap, rfl, hg⟩

/-- Between two rounds: so many minutes on, and what was last told of them. -/
def RRel (v n : Int) (j : Nat) (w : World) (x y : Value) (wr : World) : Prop := ∃ i : Nat, i ≤ j ∧ x = .int .i64 (n + i) ∧ Later w wr ∧
  ((i < j ∧ ∃ a cap, y = .slice a 0 cap) ∨ (i = j ∧ ∃ g len cap, y = .slice (some ⟨g, 0, none⟩) (len + 1) cap ∧ wr.cell? ⟨g, 0, none⟩ = some (.int .i64 v) ∧ len ≤ 10))

set_option maxHeartbeats 1000000 in
theorem rmoment_at (z : Zn) (d m : Int) (w : World) (hz : May z) (d0 : 402 ≤ d) (d1 : d ≤ 3651990) (m0 : 0 ≤ m) (m1 : m ≤ 1439) :
    Calls Tryz.prog 40 #[.agg (zc z), .int .i64 d, .int .i64 m] w fun e w' => e = .returned (.int .i64 (mv z (d * 1440 + m))) ∧ Later w w' := by
  obtain ⟨j, hj, hn, r, hr⟩ := told_soon z hz (d * 1440 + m) (by omega) (by omega)
  have hz' := hz
  unfold May at hz'
  obtain ⟨_, _, s0, s1, _⟩ := hz'
  have HF := Lib.hid (fun W => rinst_first z (d * 1440 + m + j) (mv z (d * 1440 + m)) r W hz (by omega) (by omega) hr)
  have HX := Lib.hid (fun (i : Nat) (hi : i < j) W => rinst_none z (d * 1440 + m + i) W hz (by omega) (by omega) (hn i hi))
  have HN := Lib.hid (Zat.new w z)
  have HW := Lib.hid ((Later.refl w).alloc (zc z) 28)
  clear hz hn hr s0
  have hj' : (j : Int) ≤ 120 := by omega
  clear hj s1
  generalize mv z (d * 1440 + m) = v at *
  -- what is asked at the i-th minute
  have Q : Hid (∀ i : Nat, i ≤ j → ∀ W, Calls Tryz.prog 68 #[.agg (zc z), .int .i64 ((d * 1440 + m + i) / 1440), .int .i64 ((d * 1440 + m + i) % 1440)] W fun e w' => ∃ y, e = .returned y ∧ Later W w' ∧
      ((i < j ∧ ∃ a cap, y = .slice a 0 cap) ∨ (i = j ∧ ∃ g len cap, y = .slice (some ⟨g, 0, none⟩) (len + 1) cap ∧ w'.cell? ⟨g, 0, none⟩ = some (.int .i64 v) ∧ len ≤ 10))) := Lib.hid (fun i hi W => by
    by_cases c : i = j
    · subst c
      refine (HF.out W).mono ?_
      rintro e w' ⟨g, len, cap, rfl, hc, hg, hl⟩
      exact ⟨_, rfl, hg, .inr ⟨rfl, g, len, cap, rfl, hc, hl⟩⟩
    · refine (HX.out i (by omega) W).mono ?_
      rintro e w' ⟨a, cap, rfl, hg⟩
      exact ⟨_, rfl, hg, .inl ⟨by omega, a, cap, rfl⟩⟩)
  have Q0 := Q.out 0 (by omega)
  rw [show d * 1440 + m + ((0 : Nat) : Int) = d * 1440 + m by omega, show (d * 1440 + m) % 1440 = m % 1440 by omega] at Q0
  have HQ0 := Lib.hid Q0
  clear HF HX Q0
  unfold zc
  go_enter Tryz.func40, Tryz.ntmps40
  go_wp2_with fail
  refine (HQ0.out _).mono ?_
  rintro e w1 ⟨y, rfl, hg1, hy⟩
  have HY := Lib.hid hy
  clear hy
  go_wp2_with fail
  go_loopw [7, 8] (fun x y wr => RRel v (d * 1440 + m) j (w.alloc (.cells (zc z) 28)) x y wr) (fun x _ _ => (d * 1440 + m + j - intOf x).toNat)
  case atStart => exact ⟨0, by omega, by simp, hg1, HY.out⟩
  case round =>
    obtain ⟨i, hi, rfl, hg, hy⟩ := hrel
    obtain ⟨k0, k1, k2, k3, k4, k5, k6, k7, k8, k9⟩ := HN.out.later hg
    have HG := Lib.hid hg
    clear hg
    rcases hy with ⟨c, a, cap, rfl⟩ | ⟨rfl, g, len, cap, rfl, hc, hl⟩
    · have F := Q.out (i + 1) (by omega)
      rw [show d * 1440 + m + ((i + 1 : Nat) : Int) = d * 1440 + m + i + 1 by omega] at F
      have HFx := Lib.hid F
      clear F
      go_wp2_with fail
      refine (HFx.out _).mono ?_
      rintro e w2 ⟨y, rfl, hg2, hy⟩
      have HG2 := Lib.hid (gtrans HG.out hg2)
      have HY2 := Lib.hid hy
      clear k0 k1 k2 k3 k4 k5 k6 k7 k8 k9 hg2 hy
      go_wp2_with fail
      go_roundw
      case rel => exact ⟨i + 1, by omega, by simp; omega, HG2.out, HY2.out⟩
      case measure => simp [intOf]; omega
    · clear k0 k1 k2 k3 k4 k5 k6 k7 k8 k9
      go_wp2_with fail
      go_ret
      exact ⟨rfl, gtrans HW.out HG.out⟩

end Go.Proofs.YtihdijkplmfhfaaGreatDoor.Window

/- Plain facts on Hebrew years, in whole numbers: leap years, months ahead, moons, by how many days a year is put off, and how long it is. No condition but those that each theorem states. -/
namespace Go.Proofs.YtihdijkplmfhfaaGreatDoor.Year
set_option maxRecDepth 100000

/-- Is a year leap? -/
def lh (h : Int) : Bool := decide ((7 * (h % 19) + 1) % 19 < 7)
/-- Months ahead of a year. -/
def mh (h : Int) : Int := (h - 1) * 12 + (7 * (h - 1) + 1) / 19
/-- Parts of a year's moon. -/
def pt (h : Int) : Int := 5604 + mh h * 765433
def md (h : Int) : Int := -1373427 + pt h / 25920
def mp (h : Int) : Int := pt h % 25920
/-- The first three rules. -/
def p1 (w p : Int) (l b : Bool) : Int := if 19440 ≤ p ∨ (w = 2 ∧ l = false ∧ 9924 ≤ p) ∨ (w = 1 ∧ b = true ∧ 16789 ≤ p) then 1 else 0
/-- The fourth rule. -/
def p2 (w : Int) : Int := if w % 7 = 0 ∨ w % 7 = 3 ∨ w % 7 = 5 then 1 else 0
def po (w p : Int) (l b : Bool) : Int := p1 w p l b + p2 (w + p1 w p l b)
def dl (h : Int) : Int := po (md h % 7) (mp h) (lh h) (lh (h - 1))
def ny (h : Int) : Int := md h + dl h
def yl (h : Int) : Int := ny (h + 1) - ny h

theorem lh_rest (h : Int) : (7 * (h % 19) + 1) % 19 = (7 * h + 1) % 19 := by omega
theorem lh_iff (h : Int) : lh h = true ↔ (7 * h + 1) % 19 < 7 := by simp [lh, lh_rest]
theorem lh_not (h : Int) : lh h = false ↔ ¬ (7 * h + 1) % 19 < 7 := by simp [lh, lh_rest]

theorem seven_up (h : Int) : 7 * (h + 1) + 1 = (7 * h + 1) + 7 := by omega
theorem seven_down (h : Int) : 7 * (h - 1) + 1 = (7 * h + 1) - 7 := by omega
theorem mh_leap (h : Int) (hl : lh h = true) : mh (h + 1) = mh h + 13 := by
  rw [lh_iff] at hl
  unfold mh
  rw [show h + 1 - 1 = h by omega, seven_down, Int.sub_mul]
  generalize 7 * h + 1 = x at *
  omega
theorem mh_common (h : Int) (hl : lh h = false) : mh (h + 1) = mh h + 12 := by
  rw [lh_not] at hl
  unfold mh
  rw [show h + 1 - 1 = h by omega, seven_down, Int.sub_mul]
  generalize 7 * h + 1 = x at *
  omega
theorem lh_apart (h : Int) (hl : lh h = true) : lh (h + 1) = false := by
  rw [lh_iff] at hl
  rw [lh_not, seven_up]
  generalize 7 * h + 1 = x at *
  omega
theorem lh_before (h : Int) (hl : lh h = true) : lh (h - 1) = false := by
  rw [lh_iff] at hl
  rw [lh_not, seven_down]
  generalize 7 * h + 1 = x at *
  omega
theorem mh_round (h : Int) : mh (h + 19) = mh h + 235 := by unfold mh; omega
theorem mh_row (r : Int) : mh (19 * r + 1) = 235 * r := by unfold mh; omega
theorem mh_bd (h : Int) (h1 : 1 ≤ h) (h2 : h ≤ 10000) : 0 ≤ mh h ∧ mh h ≤ 130000 := by unfold mh; omega
theorem pt_bd (h : Int) (h1 : 1 ≤ h) (h2 : h ≤ 10000) : 5604 ≤ pt h ∧ pt h ≤ 99506295604 := by
  have := mh_bd h h1 h2
  unfold pt
  omega
theorem mp_bd (h : Int) : 0 ≤ mp h ∧ mp h < 25920 := by unfold mp; omega
theorem md_bd (h : Int) (h1 : 1 ≤ h) (h2 : h ≤ 10000) : -1373427 ≤ md h ∧ md h ≤ 4000000 := by
  have := pt_bd h h1 h2
  unfold md
  omega
theorem p1_bd (w p : Int) (l b : Bool) : 0 ≤ p1 w p l b ∧ p1 w p l b ≤ 1 := by unfold p1; split <;> omega
theorem p2_bd (w : Int) : 0 ≤ p2 w ∧ p2 w ≤ 1 := by unfold p2; split <;> omega
theorem po_bd (w p : Int) (l b : Bool) : 0 ≤ po w p l b ∧ po w p l b ≤ 2 := by
  have := p1_bd w p l b
  have := p2_bd (w + p1 w p l b)
  unfold po
  omega
theorem dl_bd (h : Int) : 0 ≤ dl h ∧ dl h ≤ 2 := po_bd _ _ _ _
theorem ny_bd (h : Int) (h1 : 1 ≤ h) (h2 : h ≤ 10000) : -1373427 ≤ ny h ∧ ny h ≤ 4000002 := by
  have := md_bd h h1 h2
  have := dl_bd h
  unfold ny
  omega

/-- The next year's moon, by this one's. -/
theorem next_common (h : Int) (hl : lh h = false) :
    (mp h + 9516 < 25920 ∧ mp (h + 1) = mp h + 9516 ∧ md (h + 1) = md h + 354) ∨ (25920 ≤ mp h + 9516 ∧ mp (h + 1) = mp h - 16404 ∧ md (h + 1) = md h + 355) := by
  have := mh_common h hl
  unfold mp md pt
  rw [this]
  omega
theorem next_leap (h : Int) (hl : lh h = true) :
    (mp h + 23269 < 25920 ∧ mp (h + 1) = mp h + 23269 ∧ md (h + 1) = md h + 383) ∨ (25920 ≤ mp h + 23269 ∧ mp (h + 1) = mp h - 2651 ∧ md (h + 1) = md h + 384) := by
  have := mh_leap h hl
  unfold mp md pt
  rw [this]
  omega
theorem round_parts (h : Int) : (md (h + 19) - md h) * 25920 + mp (h + 19) - mp h = 179876755 := by
  have := mh_round h
  unfold mp md pt
  rw [this]
  omega

/-- The day that is reached is none of the three. -/
theorem po_free (w p : Int) (l b : Bool) : (w + po w p l b) % 7 ≠ 0 ∧ (w + po w p l b) % 7 ≠ 3 ∧ (w + po w p l b) % 7 ≠ 5 := by
  unfold po
  generalize p1 w p l b = x
  unfold p2
  split <;> omega
theorem ny_free (h : Int) : ny h % 7 ≠ 0 ∧ ny h % 7 ≠ 3 ∧ ny h % 7 ≠ 5 := by
  have := po_free (md h % 7) (mp h) (lh h) (lh (h - 1))
  unfold ny dl
  omega
theorem dl_late (h : Int) (hp : 19440 ≤ mp h) : 0 < dl h := by
  have h2 := p2_bd (md h % 7 + p1 (md h % 7) (mp h) (lh h) (lh (h - 1)))
  unfold dl po
  have : p1 (md h % 7) (mp h) (lh h) (lh (h - 1)) = 1 := by unfold p1; rw [if_pos (Or.inl hp)]
  omega

theorem p1_cases (w p : Int) (l b : Bool) :
    (p1 w p l b = 1 ∧ (19440 ≤ p ∨ (w = 2 ∧ l = false ∧ 9924 ≤ p) ∨ (w = 1 ∧ b = true ∧ 16789 ≤ p))) ∨
    (p1 w p l b = 0 ∧ ¬ (19440 ≤ p ∨ (w = 2 ∧ l = false ∧ 9924 ≤ p) ∨ (w = 1 ∧ b = true ∧ 16789 ≤ p))) := by
  unfold p1
  split
  · exact Or.inl ⟨rfl, by assumption⟩
  · exact Or.inr ⟨rfl, by assumption⟩
theorem p2_cases (w : Int) : (p2 w = 1 ∧ (w % 7 = 0 ∨ w % 7 = 3 ∨ w % 7 = 5)) ∨ (p2 w = 0 ∧ ¬ (w % 7 = 0 ∨ w % 7 = 3 ∨ w % 7 = 5)) := by
  unfold p2
  split
  · exact Or.inl ⟨rfl, by assumption⟩
  · exact Or.inr ⟨rfl, by assumption⟩

theorem len_common (h : Int) (hl : lh h = false) : 353 ≤ yl h ∧ yl h ≤ 355 := by
  have hn := next_common h hl
  have hb := mp_bd h
  have e1 : h + 1 - 1 = h := by omega
  unfold yl ny dl po
  rw [e1, hl]
  have a1 := p1_cases (md h % 7) (mp h) false (lh (h - 1))
  have a2 := p2_cases (md h % 7 + p1 (md h % 7) (mp h) false (lh (h - 1)))
  have b1 := p1_cases (md (h + 1) % 7) (mp (h + 1)) (lh (h + 1)) false
  have b2 := p2_cases (md (h + 1) % 7 + p1 (md (h + 1) % 7) (mp (h + 1)) (lh (h + 1)) false)
  generalize p2 (md h % 7 + p1 (md h % 7) (mp h) false (lh (h - 1))) = z1 at *
  generalize p2 (md (h + 1) % 7 + p1 (md (h + 1) % 7) (mp (h + 1)) (lh (h + 1)) false) = z2 at *
  generalize p1 (md h % 7) (mp h) false (lh (h - 1)) = y1 at *
  generalize p1 (md (h + 1) % 7) (mp (h + 1)) (lh (h + 1)) false = y2 at *
  generalize md (h + 1) = m2 at *
  generalize mp (h + 1) = q2 at *
  generalize md h = m1 at *
  generalize mp h = q1 at *
  simp only [true_and, reduceCtorEq, false_and, and_false, or_false] at a1 b1
  rcases hn with ⟨n1, rfl, rfl⟩ | ⟨n1, rfl, rfl⟩ <;> rcases a1 with ⟨rfl, a1⟩ | ⟨rfl, a1⟩ <;> rcases b1 with ⟨rfl, b1⟩ | ⟨rfl, b1⟩ <;> cases lh (h - 1) <;> cases lh (h + 1) <;>
    omega

theorem len_leap (h : Int) (hl : lh h = true) : 383 ≤ yl h ∧ yl h ≤ 385 := by
  have hn := next_leap h hl
  have hb := mp_bd h
  have e1 : h + 1 - 1 = h := by omega
  unfold yl ny dl po
  rw [e1, hl, lh_apart h hl, lh_before h hl]
  have a1 := p1_cases (md h % 7) (mp h) true false
  have a2 := p2_cases (md h % 7 + p1 (md h % 7) (mp h) true false)
  have b1 := p1_cases (md (h + 1) % 7) (mp (h + 1)) false true
  have b2 := p2_cases (md (h + 1) % 7 + p1 (md (h + 1) % 7) (mp (h + 1)) false true)
  generalize p2 (md h % 7 + p1 (md h % 7) (mp h) true false) = z1 at *
  generalize p2 (md (h + 1) % 7 + p1 (md (h + 1) % 7) (mp (h + 1)) false true) = z2 at *
  generalize p1 (md h % 7) (mp h) true false = y1 at *
  generalize p1 (md (h + 1) % 7) (mp (h + 1)) false true = y2 at *
  generalize md (h + 1) = m2 at *
  generalize mp (h + 1) = q2 at *
  generalize md h = m1 at *
  generalize mp h = q1 at *
  simp only [true_and, reduceCtorEq, false_and, and_false, or_false] at a1 b1
  rcases hn with ⟨n1, rfl, rfl⟩ | ⟨n1, rfl, rfl⟩ <;> rcases a1 with ⟨rfl, a1⟩ | ⟨rfl, a1⟩ <;> rcases b1 with ⟨rfl, b1⟩ | ⟨rfl, b1⟩ <;> omega

theorem lh_example : lh 5784 = true := by decide
theorem mh_example : mh 5784 = 71526 := by decide
theorem md_example : md 5784 = 738778 := by decide
theorem mp_example : mp 5784 = 12762 := by decide
theorem dl_example : dl 5784 = 1 := by decide
theorem ny_example : ny 5784 = 738779 := by decide
theorem yl_example : yl 5784 = 383 := by decide

end Go.Proofs.YtihdijkplmfhfaaGreatDoor.Year

/- What the methods of a Hebrew year answer: leap years, months ahead, the moon's day and part. Conditions: the numbers are ints, the years are from 1 to 10000, as each theorem says. -/
namespace Go.Proofs.YtihdijkplmfhfaaGreatDoor.Mol
set_option maxRecDepth 100000
open Go.ChangeShapes Go.WideShapes Go.ChangeAt Go.RowKit
open Go.Proofs.YtihdijkplmfhfaaGreatDoor.Divs Go.Proofs.YtihdijkplmfhfaaGreatDoor.Grow
open Go.Proofs.YtihdijkplmfhfaaGreatDoor.Year (lh mh pt md mp p1 p2 po dl ny yl)

theorem lh_of (h : Int) : decide ((7 * (h % 19) + 1) % 19 < 7) = lh h := rfl

theorem leap_any (h : Int) (w : World) (h0 : -9223372036854775808 ≤ h) (h1 : h ≤ 9223372036854775807) :
    Calls Tryz.prog 213 #[.int .i64 h] w fun e w' => e = .returned (.bool (lh h)) ∧ ∃ n, w' = w.drewN n := by
  have hm0 := Int.emod_nonneg h (show (19 : Int) ≠ 0 by omega)
  have hm1 := Int.emod_lt_of_pos h (show (0 : Int) < 19 by omega)
  have k1 := fun W => mod_yes h 19 W h0 h1 (by omega) (by omega)
  have k2 := fun W => mod_yes (7 * (h % 19) + 1) 19 W (by omega) (by omega) (by omega) (by omega)
  have K1 := Lib.hid k1
  have K2 := Lib.hid k2
  clear k1 k2
  go_enter Tryz.func213, Tryz.ntmps213
  go_wp2_with fail
  refine (K1.out _).mono ?_
  rintro e w1 ⟨rfl, n1, rfl⟩
  go_wp2_with fail
  refine (K2.out _).mono ?_
  rintro e w2 ⟨rfl, n2, rfl⟩
  go_wp2_with fail
  go_ret
  exact ⟨retb (lh_of h), _, rfl⟩

theorem months_any (h : Int) (w : World) (h1 : 1 ≤ h) (h2 : h ≤ 10000) :
    Calls Tryz.prog 228 #[.agg #[.int .i64 h]] w fun e w' => e = .returned (.int .i64 (mh h)) ∧ Later w w' := by
  have k1 := fun W => div_yes (7 * (h - 1) + 1) 19 W (by omega) (by omega) (by omega) (by omega)
  have K1 := Lib.hid k1
  have hb : 0 ≤ (7 * (h - 1) + 1) / 19 ∧ (7 * (h - 1) + 1) / 19 ≤ 10000 := by omega
  clear k1
  go_enter Tryz.func228, Tryz.ntmps228
  go_wp2_with fail
  refine (K1.out _).mono ?_
  rintro e w1 ⟨rfl, n1, rfl⟩
  go_wp2_with fail
  go_ret
  exact ⟨ret1 rfl, ((Later.refl w).alloc _ _)⟩

theorem parts_any (h : Int) (w : World) (h1 : 1 ≤ h) (h2 : h ≤ 10000) :
    Calls Tryz.prog 225 #[.agg #[.int .i64 h]] w fun e w' => e = .returned (.int .i64 (pt h)) ∧ Later w w' := by
  have hb := Year.mh_bd h h1 h2
  go_enter Tryz.func225, Tryz.ntmps225
  go_wp2_with fail
  refine (months_any _ _ h1 h2).mono ?_
  rintro e w1 ⟨rfl, hg1⟩
  go_wp2_with fail
  go_ret
  exact ⟨ret1 rfl, gtrans ((Later.refl w).alloc _ _) hg1⟩

theorem day_any (h : Int) (w : World) (h1 : 1 ≤ h) (h2 : h ≤ 10000) :
    Calls Tryz.prog 222 #[.agg #[.int .i64 h]] w fun e w' => e = .returned (.int .i64 (md h)) ∧ Later w w' := by
  have hb := Year.pt_bd h h1 h2
  have k1 := fun W => div_yes (pt h) 25920 W (by omega) (by omega) (by omega) (by omega)
  have hq : 0 ≤ pt h / 25920 ∧ pt h / 25920 ≤ 4000000 := by omega
  have K1 := Lib.hid k1
  clear k1
  go_enter Tryz.func222, Tryz.ntmps222
  go_wp2_with fail
  refine (parts_any _ _ h1 h2).mono ?_
  rintro e w1 ⟨rfl, hg1⟩
  go_wp2_with fail
  refine (K1.out _).mono ?_
  rintro e w2 ⟨rfl, n2, rfl⟩
  go_wp2_with fail
  go_ret
  exact ⟨ret1 rfl, gtrans ((Later.refl w).alloc _ _) hg1⟩

theorem part_any (h : Int) (w : World) (h1 : 1 ≤ h) (h2 : h ≤ 10000) :
    Calls Tryz.prog 227 #[.agg #[.int .i64 h]] w fun e w' => e = .returned (.int .i64 (mp h)) ∧ Later w w' := by
  have hb := Year.pt_bd h h1 h2
  have k1 := fun W => mod_yes (pt h) 25920 W (by omega) (by omega) (by omega) (by omega)
  have K1 := Lib.hid k1
  clear k1
  go_enter Tryz.func227, Tryz.ntmps227
  go_wp2_with fail
  refine (parts_any _ _ h1 h2).mono ?_
  rintro e w1 ⟨rfl, hg1⟩
  go_wp2_with fail
  refine (K1.out _).mono ?_
  rintro e w2 ⟨rfl, n2, rfl⟩
  go_wp2_with fail
  go_ret
  exact ⟨ret1 rfl, gtrans ((Later.refl w).alloc _ _) hg1⟩

theorem weekday_any (n : Int) (w : World) (h0 : -9223372036854775808 ≤ n) (h1 : n ≤ 9223372036854775807) :
    Calls Tryz.prog 198 #[.int .i64 n] w fun e w' => e = .returned (.int .i64 (n % 7)) ∧ ∃ k, w' = w.drewN k := by
  have k1 := fun W => mod_yes n 7 W h0 h1 (by omega) (by omega)
  have K1 := Lib.hid k1
  clear k1
  go_enter Tryz.func198, Tryz.ntmps198
  go_wp2_with fail
  refine (K1.out _).mono ?_
  rintro e w1 ⟨rfl, n1, rfl⟩
  go_wp2_with fail
  go_ret
  exact ⟨rfl, _, rfl⟩

/-- A year that is not reckoned: no question is asked. -/
theorem reckon_no (h : Int) (f : Value) (w : World) (hb : h < 3762 ∨ 9999 < h) :
    Calls Tryz.prog 217 #[.int .i64 h, f] w fun e w' => e = .returned (.tuple #[.int .i64 0, .int .i64 30]) ∧ w = w' := by
  by_cases h1 : h < 3762
  · clear hb
    have h3 : h ≤ 9999 := by omega
    go_enter Tryz.func217, Tryz.ntmps217
    go_wp2
    go_ret2
    exact ⟨rfl, rfl⟩
  · have h2 : 9999 < h := by omega
    clear hb
    go_enter Tryz.func217, Tryz.ntmps217
    go_wp2
    go_ret2
    exact ⟨rfl, rfl⟩

theorem reckon_yes (h v : Int) (k : FuncId) (w : World) (h1 : 3762 ≤ h) (h2 : h ≤ 9999)
    (ek : ∀ args W, (callFunc k args).run Tryz.prog W = .ok (.enter k args) W) (hk : ∀ W, Calls Tryz.prog k #[.agg #[.int .i64 h]] W fun e w' => e = .returned (.int .i64 v) ∧ Later W w') :
    Calls Tryz.prog 217 #[.int .i64 h, .func (.func k) #[.agg #[.int .i64 h]] #[]] w fun e w' => e = .returned (.tuple #[.int .i64 v, .int .i64 0]) ∧ Later w w' := by
  have HK := Lib.hid hk
  clear hk
  go_enter Tryz.func217, Tryz.ntmps217
  go_wp2_with fail
  refine (HK.out _).mono ?_
  rintro e w1 ⟨rfl, hg1⟩
  go_wp2_with fail
  go_ret2
  exact ⟨rfl, hg1⟩

end Go.Proofs.YtihdijkplmfhfaaGreatDoor.Mol

/- By how many days a year is put off, by its moon's weekday and part; a year's delay, first day and length. Conditions: the weekday is from 0 to 6; the years are from 2 to 10000, as each theorem says. -/
namespace Go.Proofs.YtihdijkplmfhfaaGreatDoor.Mol
set_option maxRecDepth 100000
open Go.ChangeShapes Go.WideShapes Go.ChangeAt Go.RowKit
open Go.Proofs.YtihdijkplmfhfaaGreatDoor.Divs Go.Proofs.YtihdijkplmfhfaaGreatDoor.Grow
open Go.Proofs.YtihdijkplmfhfaaGreatDoor.Year (lh mh pt md mp p1 p2 po dl ny yl)

theorem four (x : Int) : ((x == 0) = true) ∨ ((x == 0) = false ∧ (x == 3) = true) ∨ ((x == 0) = false ∧ (x == 3) = false ∧ (x == 5) = true) ∨ ((x == 0) = false ∧ (x == 3) = false ∧ (x == 5) = false) := by
  cases x == 0 <;> cases x == 3 <;> cases x == 5 <;> simp

theorem p2_yes (v : Int) (h : (v % 7 == 0) = true ∨ (v % 7 == 3) = true ∨ (v % 7 == 5) = true) : p2 v = 1 := by
  simp only [beq_iff_eq] at h
  unfold p2
  rw [if_pos h]
theorem p2_no (v : Int) (h : (v % 7 == 0) = false ∧ (v % 7 == 3) = false ∧ (v % 7 == 5) = false) : p2 v = 0 := by
  simp only [beq_eq_false_iff_ne] at h
  unfold p2
  rw [if_neg (by omega)]

theorem put_late (v p : Int) (l b : Bool) (w : World) (v0 : 0 ≤ v) (v1 : v ≤ 6) (hp : 19440 ≤ p) :
    Calls Tryz.prog 226 #[.int .i64 v, .int .i64 p, .bool l, .bool b] w fun e w' => e = .returned (.int .i64 (po v p l b)) ∧ ∃ n, w' = w.drewN n := by
  have h1 : p1 v p l b = 1 := by unfold p1; rw [if_pos (Or.inl hp)]
  have hv : po v p l b = 1 + p2 (v + 1) := by unfold po; rw [h1]
  clear h1
  have K1 := Lib.hid (fun W => weekday_any (v + 1) W (by omega) (by omega))
  rcases four ((v + 1) % 7) with t1 | ⟨t1, t2⟩ | ⟨t1, t2, t3⟩ | ⟨t1, t2, t3⟩
  · rw [p2_yes (v + 1) (Or.inl t1)] at hv
    have HV := Lib.hid hv
    clear hv
    go_enter Tryz.func226, Tryz.ntmps226
    go_wp2_with (go_at_call 198; refine (K1.out _).mono ?_; rintro e w' ⟨rfl, n, rfl⟩)
    go_ret
    exact ⟨ret1 HV.out.symm, _, rfl⟩
  · rw [p2_yes (v + 1) (Or.inr (Or.inl t2))] at hv
    have HV := Lib.hid hv
    clear hv
    go_enter Tryz.func226, Tryz.ntmps226
    go_wp2_with (go_at_call 198; refine (K1.out _).mono ?_; rintro e w' ⟨rfl, n, rfl⟩)
    go_ret
    exact ⟨ret1 HV.out.symm, _, rfl⟩
  · rw [p2_yes (v + 1) (Or.inr (Or.inr t3))] at hv
    have HV := Lib.hid hv
    clear hv
    go_enter Tryz.func226, Tryz.ntmps226
    go_wp2_with (go_at_call 198; refine (K1.out _).mono ?_; rintro e w' ⟨rfl, n, rfl⟩)
    go_ret
    exact ⟨ret1 HV.out.symm, _, rfl⟩
  · rw [p2_no (v + 1) ⟨t1, t2, t3⟩] at hv
    have HV := Lib.hid hv
    clear hv
    go_enter Tryz.func226, Tryz.ntmps226
    go_wp2_with (go_at_call 198; refine (K1.out _).mono ?_; rintro e w' ⟨rfl, n, rfl⟩)
    go_ret
    exact ⟨ret1 HV.out.symm, _, rfl⟩

theorem put_other (v p : Int) (l b : Bool) (w : World) (v0 : 0 ≤ v) (v1 : v ≤ 6) (hp : p < 19440) (n1 : ¬ v = 1) (n2 : ¬ v = 2) :
    Calls Tryz.prog 226 #[.int .i64 v, .int .i64 p, .bool l, .bool b] w fun e w' => e = .returned (.int .i64 (po v p l b)) ∧ ∃ n, w' = w.drewN n := by
  have h1 : p1 v p l b = 0 := by unfold p1; rw [if_neg (by omega)]
  have hv : po v p l b = 0 + p2 (v + 0) := by unfold po; rw [h1]
  have e1 : (v == 1) = false := beq_eq_false_iff_ne.2 n1
  have e2 : (v == 2) = false := beq_eq_false_iff_ne.2 n2
  clear h1 n1 n2
  have K1 := Lib.hid (fun W => weekday_any (v + 0) W (by omega) (by omega))
  rw [Int.add_zero] at *
  rcases four (v % 7) with t1 | ⟨t1, t2⟩ | ⟨t1, t2, t3⟩ | ⟨t1, t2, t3⟩
  · rw [p2_yes v (Or.inl t1)] at hv
    have HV := Lib.hid hv
    clear hv
    go_enter Tryz.func226, Tryz.ntmps226
    go_wp2_with (go_at_call 198; refine (K1.out _).mono ?_; rintro e w' ⟨rfl, n, rfl⟩)
    go_ret
    exact ⟨ret1 HV.out.symm, _, rfl⟩
  · rw [p2_yes v (Or.inr (Or.inl t2))] at hv
    have HV := Lib.hid hv
    clear hv
    go_enter Tryz.func226, Tryz.ntmps226
    go_wp2_with (go_at_call 198; refine (K1.out _).mono ?_; rintro e w' ⟨rfl, n, rfl⟩)
    go_ret
    exact ⟨ret1 HV.out.symm, _, rfl⟩
  · rw [p2_yes v (Or.inr (Or.inr t3))] at hv
    have HV := Lib.hid hv
    clear hv
    go_enter Tryz.func226, Tryz.ntmps226
    go_wp2_with (go_at_call 198; refine (K1.out _).mono ?_; rintro e w' ⟨rfl, n, rfl⟩)
    go_ret
    exact ⟨ret1 HV.out.symm, _, rfl⟩
  · rw [p2_no v ⟨t1, t2, t3⟩] at hv
    have HV := Lib.hid hv
    clear hv
    go_enter Tryz.func226, Tryz.ntmps226
    go_wp2_with (go_at_call 198; refine (K1.out _).mono ?_; rintro e w' ⟨rfl, n, rfl⟩)
    go_ret
    exact ⟨ret1 HV.out.symm, _, rfl⟩

theorem put_2_leap (p : Int) (b : Bool) (w : World) (hp : p < 19440) :
    Calls Tryz.prog 226 #[.int .i64 2, .int .i64 p, .bool true, .bool b] w fun e w' => e = .returned (.int .i64 (po 2 p true b)) ∧ ∃ n, w' = w.drewN n := by
  have h1 : p1 2 p true b = 0 := by unfold p1; rw [if_neg (by simp; omega)]
  have hv : po 2 p true b = 0 := by unfold po; rw [h1]; decide
  have HV := Lib.hid hv
  clear h1 hv
  have K1 := Lib.hid (fun W => weekday_any 2 W (by omega) (by omega))
  go_enter Tryz.func226, Tryz.ntmps226
  go_wp2_with (go_at_call 198; refine (K1.out _).mono ?_; rintro e w' ⟨rfl, n, rfl⟩)
  go_ret
  exact ⟨ret1 HV.out.symm, _, rfl⟩

theorem put_2_low (p : Int) (b : Bool) (w : World) (hp : p < 9924) :
    Calls Tryz.prog 226 #[.int .i64 2, .int .i64 p, .bool false, .bool b] w fun e w' => e = .returned (.int .i64 (po 2 p false b)) ∧ ∃ n, w' = w.drewN n := by
  have h1 : p1 2 p false b = 0 := by unfold p1; rw [if_neg (by simp; omega)]
  have hv : po 2 p false b = 0 := by unfold po; rw [h1]; decide
  have HV := Lib.hid hv
  clear h1 hv
  have K1 := Lib.hid (fun W => weekday_any 2 W (by omega) (by omega))
  go_enter Tryz.func226, Tryz.ntmps226
  go_wp2_with (go_at_call 198; refine (K1.out _).mono ?_; rintro e w' ⟨rfl, n, rfl⟩)
  go_ret
  exact ⟨ret1 HV.out.symm, _, rfl⟩

theorem put_2_high (p : Int) (b : Bool) (w : World) (hp : p < 19440) (hq : 9924 ≤ p) :
    Calls Tryz.prog 226 #[.int .i64 2, .int .i64 p, .bool false, .bool b] w fun e w' => e = .returned (.int .i64 (po 2 p false b)) ∧ ∃ n, w' = w.drewN n := by
  have h1 : p1 2 p false b = 1 := by unfold p1; rw [if_pos (by simp; omega)]
  have hv : po 2 p false b = 2 := by unfold po; rw [h1]; decide
  have HV := Lib.hid hv
  clear h1 hv
  have K1 := Lib.hid (fun W => weekday_any 3 W (by omega) (by omega))
  go_enter Tryz.func226, Tryz.ntmps226
  go_wp2_with (go_at_call 198; refine (K1.out _).mono ?_; rintro e w' ⟨rfl, n, rfl⟩)
  go_ret
  exact ⟨ret1 HV.out.symm, _, rfl⟩

theorem put_1_calm (p : Int) (l : Bool) (w : World) (hp : p < 19440) :
    Calls Tryz.prog 226 #[.int .i64 1, .int .i64 p, .bool l, .bool false] w fun e w' => e = .returned (.int .i64 (po 1 p l false)) ∧ ∃ n, w' = w.drewN n := by
  have h1 : p1 1 p l false = 0 := by unfold p1; rw [if_neg (by simp; omega)]
  have hv : po 1 p l false = 0 := by unfold po; rw [h1]; decide
  have HV := Lib.hid hv
  clear h1 hv
  have K1 := Lib.hid (fun W => weekday_any 1 W (by omega) (by omega))
  go_enter Tryz.func226, Tryz.ntmps226
  go_wp2_with (go_at_call 198; refine (K1.out _).mono ?_; rintro e w' ⟨rfl, n, rfl⟩)
  go_ret
  exact ⟨ret1 HV.out.symm, _, rfl⟩

theorem put_1_low (p : Int) (l : Bool) (w : World) (hp : p < 16789) :
    Calls Tryz.prog 226 #[.int .i64 1, .int .i64 p, .bool l, .bool true] w fun e w' => e = .returned (.int .i64 (po 1 p l true)) ∧ ∃ n, w' = w.drewN n := by
  have h1 : p1 1 p l true = 0 := by unfold p1; rw [if_neg (by simp; omega)]
  have hv : po 1 p l true = 0 := by unfold po; rw [h1]; decide
  have HV := Lib.hid hv
  clear h1 hv
  have K1 := Lib.hid (fun W => weekday_any 1 W (by omega) (by omega))
  go_enter Tryz.func226, Tryz.ntmps226
  go_wp2_with (go_at_call 198; refine (K1.out _).mono ?_; rintro e w' ⟨rfl, n, rfl⟩)
  go_ret
  exact ⟨ret1 HV.out.symm, _, rfl⟩

theorem put_1_high (p : Int) (l : Bool) (w : World) (hp : p < 19440) (hq : 16789 ≤ p) :
    Calls Tryz.prog 226 #[.int .i64 1, .int .i64 p, .bool l, .bool true] w fun e w' => e = .returned (.int .i64 (po 1 p l true)) ∧ ∃ n, w' = w.drewN n := by
  have h1 : p1 1 p l true = 1 := by unfold p1; rw [if_pos (by simp; omega)]
  have hv : po 1 p l true = 1 := by unfold po; rw [h1]; decide
  have HV := Lib.hid hv
  clear h1 hv
  have K1 := Lib.hid (fun W => weekday_any 2 W (by omega) (by omega))
  go_enter Tryz.func226, Tryz.ntmps226
  go_wp2_with (go_at_call 198; refine (K1.out _).mono ?_; rintro e w' ⟨rfl, n, rfl⟩)
  go_ret
  exact ⟨ret1 HV.out.symm, _, rfl⟩

theorem put_any (v p : Int) (l b : Bool) (w : World) (v0 : 0 ≤ v) (v1 : v ≤ 6) :
    Calls Tryz.prog 226 #[.int .i64 v, .int .i64 p, .bool l, .bool b] w fun e w' => e = .returned (.int .i64 (po v p l b)) ∧ ∃ n, w' = w.drewN n := by
  by_cases hp : 19440 ≤ p
  · exact put_late v p l b w v0 v1 hp
  by_cases n2 : v = 2
  · subst n2
    cases l with
    | true => exact put_2_leap p b w (by omega)
    | false =>
      by_cases hq : 9924 ≤ p
      · exact put_2_high p b w (by omega) hq
      · exact put_2_low p b w (by omega)
  by_cases n1 : v = 1
  · subst n1
    cases b with
    | false => exact put_1_calm p l w (by omega)
    | true =>
      by_cases hq : 16789 ≤ p
      · exact put_1_high p l w (by omega) hq
      · exact put_1_low p l w (by omega)
  exact put_other v p l b w v0 v1 (by omega) n1 n2

end Go.Proofs.YtihdijkplmfhfaaGreatDoor.Mol

/- A year's delay, its first day and its length, and what the calls of layer 3 answer. Conditions: the numbers are ints; the years are from 2 to 10000, as each theorem says. -/
namespace Go.Proofs.YtihdijkplmfhfaaGreatDoor.Mol
set_option maxRecDepth 100000
open Go.ChangeShapes Go.WideShapes Go.ChangeAt Go.RowKit
open Go.Proofs.YtihdijkplmfhfaaGreatDoor.Divs Go.Proofs.YtihdijkplmfhfaaGreatDoor.Grow
open Go.Proofs.YtihdijkplmfhfaaGreatDoor.Year (lh mh pt md mp p1 p2 po dl ny yl)

theorem dl_of (h : Int) : po (md h % 7) (mp h) (lh h) (lh (h - 1)) = dl h := rfl

theorem delay_any (h : Int) (w : World) (h1 : 2 ≤ h) (h2 : h ≤ 10000) :
    Calls Tryz.prog 223 #[.agg #[.int .i64 h]] w fun e w' => e = .returned (.int .i64 (dl h)) ∧ Later w w' := by
  have X0 := Lib.hid (gw_new w #[.int .i64 h] 231 0 (.int .i64 h) rfl)
  have hb := Year.md_bd h (by omega) h2
  have hw : 0 ≤ md h % 7 ∧ md h % 7 ≤ 6 := by omega
  have D := Lib.hid (fun W => day_any h W (by omega) h2)
  have P := Lib.hid (fun W => part_any h W (by omega) h2)
  have V := Lib.hid (fun W => drew_g (weekday_any (md h) W (by omega) (by omega)))
  have L := Lib.hid (fun (k : Int) (k1 : 1 ≤ k) (k2 : k ≤ 10000) W => drew_g (leap_any k W (by omega) (by omega)))
  have Q := Lib.hid (fun W => drew_g (put_any (md h % 7) (mp h) (lh h) (lh (h - 1)) W hw.1 hw.2))
  go_enter Tryz.func223, Tryz.ntmps223
  go_wp2_with fail
  have x0 := X0.out
  refine region_grown (by kernel_rfl) (by kernel_rfl) ?_
  repeat (go_big_quiet_step (first
    | (go_at_call 222; exact in_grown (D.out _))
    | (go_at_call 227; exact in_grown (P.out _))
    | (go_at_call 198; exact in_grown (V.out _))
    | (go_at_call 213; exact in_grown (L.out _ (by omega) (by omega) _))
    | (go_at_call 226; exact in_grown (Q.out _))))
  refine wpQuiet_nil (grown_end ?_)
  intro w2 hg2
  clear x0
  go_wp2_with fail
  go_ret
  exact ⟨ret1 (dl_of h), gtrans ((Later.refl w).alloc _ _) hg2⟩

theorem first_any (h : Int) (w : World) (h1 : 2 ≤ h) (h2 : h ≤ 10000) :
    Calls Tryz.prog 218 #[.agg #[.int .i64 h]] w fun e w' => e = .returned (.int .i64 (ny h)) ∧ Later w w' := by
  have X0 := Lib.hid (gw_new w #[.int .i64 h] 231 0 (.int .i64 h) rfl)
  have hb := Year.md_bd h (by omega) h2
  have hd := Year.dl_bd h
  have D := Lib.hid (fun W => day_any h W (by omega) h2)
  have P := Lib.hid (fun W => delay_any h W (by omega) h2)
  go_enter Tryz.func218, Tryz.ntmps218
  go_wp2_with fail
  have x0 := X0.out
  refine region_grown (by kernel_rfl) (by kernel_rfl) ?_
  repeat (go_big_quiet_step (first
    | (go_at_call 222; exact in_grown (D.out _))
    | (go_at_call 223; exact in_grown (P.out _))))
  refine wpQuiet_nil (grown_end ?_)
  intro w2 hg2
  clear x0
  go_wp2_with fail
  go_ret
  exact ⟨ret1 rfl, gtrans ((Later.refl w).alloc _ _) hg2⟩

theorem two_old (w : World) (a b : Value) (t : TypeId) : ∀ x : Gw ((w.alloc (.cells #[a] t)).alloc (.cells #[b] t)), x.w'.cell? ⟨w.heap.size, 0, none⟩ = some a :=
  gw_cell (by simp)
theorem two_new (w : World) (a b : Value) (t : TypeId) : ∀ x : Gw ((w.alloc (.cells #[a] t)).alloc (.cells #[b] t)), x.w'.cell? ⟨w.heap.size + 1, 0, none⟩ = some b :=
  gw_cell (by simp)

theorem days_any (h : Int) (w : World) (h1 : 2 ≤ h) (h2 : h ≤ 9999) :
    Calls Tryz.prog 219 #[.agg #[.int .i64 h]] w fun e w' => e = .returned (.int .i64 (yl h)) ∧ Later w w' := by
  have hb := Year.ny_bd h (by omega) (by omega)
  have hd := Year.ny_bd (h + 1) (by omega) (by omega)
  have D := Lib.hid (fun (k : Int) (k1 : 2 ≤ k) (k2 : k ≤ 10000) W => first_any k W k1 k2)
  have X0 := Lib.hid (two_old w (.int .i64 h) (.int .i64 (h + 1)) 231)
  have X1 := Lib.hid (two_new w (.int .i64 h) (.int .i64 (h + 1)) 231)
  go_enter Tryz.func219, Tryz.ntmps219
  go_wp2_with fail
  have x0 := X0.out
  have x1 := X1.out
  refine region_grown (by kernel_rfl) (by kernel_rfl) ?_
  repeat (go_big_quiet_step ((go_at_call 218; exact in_grown (D.out _ (by omega) (by omega) _))))
  refine wpQuiet_nil (grown_end ?_)
  intro w2 hg2
  clear x0 x1
  go_wp2_with fail
  go_ret
  exact ⟨ret1 rfl, gtrans (((Later.refl w).alloc _ _).alloc _ _) hg2⟩

theorem newyear_yes (h : Int) (w : World) (h1 : 3762 ≤ h) (h2 : h ≤ 9999) :
    Calls Tryz.prog 211 #[.int .i64 h] w fun e w' => e = .returned (.tuple #[.int .i64 (ny h), .int .i64 0]) ∧ Later w w' := by
  have K := Lib.hid (fun W => reckon_yes h (ny h) 218 W h1 h2 (enters_of Tryz.func218 (by kernel_rfl) rfl) (fun W => first_any h W (by omega) (by omega)))
  go_enter Tryz.func211, Tryz.ntmps211
  go_wp2_with fail
  refine (K.out _).mono ?_
  rintro e w1 ⟨rfl, hg1⟩
  go_wp2_with fail
  go_ret2
  exact ⟨rfl, hg1⟩

theorem newyear_no (h : Int) (w : World) (hb : h < 3762 ∨ 9999 < h) :
    Calls Tryz.prog 211 #[.int .i64 h] w fun e w' => e = .returned (.tuple #[.int .i64 0, .int .i64 30]) ∧ w = w' := by
  have K := Lib.hid (fun f W => reckon_no h f W hb)
  clear hb
  go_enter Tryz.func211, Tryz.ntmps211
  go_wp2_with fail
  refine (K.out _ _).mono ?_
  rintro e w1 ⟨rfl, rfl⟩
  go_wp2_with fail
  go_ret2
  exact ⟨rfl, rfl⟩

theorem len_yes (h : Int) (w : World) (h1 : 3762 ≤ h) (h2 : h ≤ 9999) :
    Calls Tryz.prog 212 #[.int .i64 h] w fun e w' => e = .returned (.tuple #[.int .i64 (yl h), .int .i64 0]) ∧ Later w w' := by
  have K := Lib.hid (fun W => reckon_yes h (yl h) 219 W h1 h2 (enters_of Tryz.func219 (by kernel_rfl) rfl) (fun W => days_any h W (by omega) (by omega)))
  go_enter Tryz.func212, Tryz.ntmps212
  go_wp2_with fail
  refine (K.out _).mono ?_
  rintro e w1 ⟨rfl, hg1⟩
  go_wp2_with fail
  go_ret2
  exact ⟨rfl, hg1⟩

theorem len_no (h : Int) (w : World) (hb : h < 3762 ∨ 9999 < h) :
    Calls Tryz.prog 212 #[.int .i64 h] w fun e w' => e = .returned (.tuple #[.int .i64 0, .int .i64 30]) ∧ w = w' := by
  have K := Lib.hid (fun f W => reckon_no h f W hb)
  clear hb
  go_enter Tryz.func212, Tryz.ntmps212
  go_wp2_with fail
  refine (K.out _ _).mono ?_
  rintro e w1 ⟨rfl, rfl⟩
  go_wp2_with fail
  go_ret2
  exact ⟨rfl, rfl⟩

end Go.Proofs.YtihdijkplmfhfaaGreatDoor.Mol

/- Plain facts on the days of Hebrew months, in whole numbers: a month's days by the year's length and whether it is leap, the days ahead of a month, which year and month a day lies in, and the row of the months that have days. No condition but those that each theorem states. -/
namespace Go.Proofs.YtihdijkplmfhfaaGreatDoor.Heb
set_option maxRecDepth 100000
open Go.Proofs.YtihdijkplmfhfaaGreatDoor.Year

/-- The days of month m, of a year of l days, leap or not. -/
def hd (l : Int) (b : Bool) (m : Int) : Int :=
  if m = 2 then (if l % 10 = 5 then 30 else 29) else if m = 3 then (if l % 10 = 3 then 29 else 30) else if m = 6 then (if b = true then 30 else 0)
  else if m = 1 ∨ m = 5 ∨ m = 8 ∨ m = 10 ∨ m = 12 then 30 else if m = 4 ∨ m = 7 ∨ m = 9 ∨ m = 11 ∨ m = 13 then 29 else 0

/-- The days ahead of month m. -/
def ha (l : Int) (b : Bool) (m : Int) : Int :=
  if m ≤ 1 then 0 else if m = 2 then 30 else if m = 3 then 30 + hd l b 2 else if m = 4 then 30 + hd l b 2 + hd l b 3 else if m = 5 then 59 + hd l b 2 + hd l b 3
  else if m = 6 then 89 + hd l b 2 + hd l b 3 else if m = 7 then 89 + hd l b 2 + hd l b 3 + hd l b 6 else if m = 8 then 118 + hd l b 2 + hd l b 3 + hd l b 6
  else if m = 9 then 148 + hd l b 2 + hd l b 3 + hd l b 6 else if m = 10 then 177 + hd l b 2 + hd l b 3 + hd l b 6 else if m = 11 then 207 + hd l b 2 + hd l b 3 + hd l b 6
  else if m = 12 then 236 + hd l b 2 + hd l b 3 + hd l b 6 else if m = 13 then 266 + hd l b 2 + hd l b 3 + hd l b 6 else 295 + hd l b 2 + hd l b 3 + hd l b 6

theorem months_all (m : Int) (h1 : 1 ≤ m) (h2 : m ≤ 13) : m = 1 ∨ m = 2 ∨ m = 3 ∨ m = 4 ∨ m = 5 ∨ m = 6 ∨ m = 7 ∨ m = 8 ∨ m = 9 ∨ m = 10 ∨ m = 11 ∨ m = 12 ∨ m = 13 := by omega

theorem hd_range (l : Int) (b : Bool) (m : Int) : hd l b m = 0 ∨ hd l b m = 29 ∨ hd l b m = 30 := by
  unfold hd
  repeat' split
  all_goals simp

theorem hd_bd (l : Int) (b : Bool) (m : Int) : 0 ≤ hd l b m ∧ hd l b m ≤ 30 := by
  have := hd_range l b m
  omega

theorem hd_out (l : Int) (b : Bool) (m : Int) (h : m < 1 ∨ 13 < m) : hd l b m = 0 := by
  unfold hd
  repeat' split
  all_goals omega

theorem hd_six (l : Int) : hd l false 6 = 0 ∧ hd l true 6 = 30 := by simp [hd]

theorem hd_in (l : Int) (b : Bool) (m : Int) (h1 : 1 ≤ m) (h2 : m ≤ 13) (h6 : m ≠ 6 ∨ b = true) : 29 ≤ hd l b m := by
  rcases h6 with h6 | h6
  · unfold hd
    repeat' split
    all_goals omega
  · subst h6
    unfold hd
    repeat' split
    all_goals first | omega | simp_all

theorem hd_zero (l : Int) (b : Bool) (m : Int) (h1 : 1 ≤ m) (h2 : m ≤ 13) (h0 : hd l b m = 0) : m = 6 ∧ b = false := by
  have k := hd_in l b m h1 h2
  by_cases h6 : m ≠ 6 ∨ b = true
  · have := k h6; omega
  · refine ⟨by omega, ?_⟩
    cases b <;> simp_all

theorem hd_month (l : Int) (b : Bool) (m : Int) (h : 0 < hd l b m) : 1 ≤ m ∧ m ≤ 13 := by
  by_cases k : m < 1 ∨ 13 < m
  · have := hd_out l b m k; omega
  · omega

theorem ha_one (l : Int) (b : Bool) : ha l b 1 = 0 := by simp [ha]

theorem ha_step (l : Int) (b : Bool) (m : Int) (h1 : 1 ≤ m) (h2 : m ≤ 13) : ha l b (m + 1) = ha l b m + hd l b m := by
  rcases months_all m h1 h2 with rfl | rfl | rfl | rfl | rfl | rfl | rfl | rfl | rfl | rfl | rfl | rfl | rfl <;>
    simp [ha, hd] <;> omega

theorem ha_bd (l : Int) (b : Bool) (m : Int) : 0 ≤ ha l b m ∧ ha l b m ≤ 385 := by
  have := hd_bd l b 2
  have := hd_bd l b 3
  have := hd_bd l b 6
  unfold ha
  repeat' split
  all_goals omega

theorem ha_le (l : Int) (b : Bool) (m : Int) (h1 : 1 ≤ m) (n : Nat) (h2 : m + n ≤ 14) : ha l b m ≤ ha l b (m + n) := by
  induction n with
  | zero => simp
  | succ n ih =>
    have k := ih (by omega)
    have s := ha_step l b (m + n) (by omega) (by omega)
    have := hd_bd l b (m + n)
    rw [show m + ((n + 1 : Nat) : Int) = m + n + 1 by omega, s]
    omega

theorem ha_mono (l : Int) (b : Bool) (m m' : Int) (h1 : 1 ≤ m) (h : m ≤ m') (h2 : m' ≤ 14) : ha l b m ≤ ha l b m' := by
  have k := ha_le l b m h1 (m' - m).toNat (by omega)
  rwa [show m + ((m' - m).toNat : Int) = m' by omega] at k

/-- A month is told by a day. -/
theorem ha_one_of (l : Int) (b : Bool) (g m m' : Int) (a1 : 1 ≤ m) (a2 : m ≤ 13) (a3 : ha l b m ≤ g) (a4 : g < ha l b (m + 1)) (c1 : 1 ≤ m') (c2 : m' ≤ 13) (c3 : ha l b m' ≤ g) (c4 : g < ha l b (m' + 1)) : m' = m := by
  by_cases x : m' < m
  · have := ha_mono l b (m' + 1) m (by omega) (by omega) (by omega); omega
  · by_cases y : m < m'
    · have := ha_mono l b (m + 1) m' (by omega) (by omega) (by omega); omega
    · omega

theorem yl_digit (h : Int) : (lh h = false ∧ (yl h = 353 ∨ yl h = 354 ∨ yl h = 355)) ∨ (lh h = true ∧ (yl h = 383 ∨ yl h = 384 ∨ yl h = 385)) := by
  cases hl : lh h with
  | false => have := len_common h hl; left; exact ⟨rfl, by omega⟩
  | true => have := len_leap h hl; right; exact ⟨rfl, by omega⟩

theorem yl_bd (h : Int) : 353 ≤ yl h ∧ yl h ≤ 385 := by have := yl_digit h; omega

/-- A year's months have as many days as the year. -/
theorem ha_all (h : Int) : ha (yl h) (lh h) 14 = yl h := by
  rcases yl_digit h with ⟨hl, e | e | e⟩ | ⟨hl, e | e | e⟩ <;> rw [hl, e] <;> decide

/-- From 15 Nisan to the next new year there are 163 days. -/
theorem ha_spring (h : Int) : yl h - ha (yl h) (lh h) 8 - 14 = 163 := by
  rcases yl_digit h with ⟨hl, e | e | e⟩ | ⟨hl, e | e | e⟩ <;> rw [hl, e] <;> decide

/-- Of two places where a row of numbers stands at and beyond n there is one where it steps over n. -/
theorem step_over (f : Int → Int) (a n : Int) (k : Nat) (h1 : f a ≤ n) (h2 : n < f (a + k)) : ∃ h, a ≤ h ∧ h < a + k ∧ f h ≤ n ∧ n < f (h + 1) := by
  induction k with
  | zero => simp at h2; omega
  | succ k ih =>
    by_cases c : n < f (a + k)
    · obtain ⟨h, x1, x2, x3, x4⟩ := ih c
      exact ⟨h, x1, by omega, x3, x4⟩
    · refine ⟨a + k, by omega, by omega, by omega, ?_⟩
      rwa [show a + (k : Int) + 1 = a + ((k + 1 : Nat) : Int) by omega]

theorem year_of (n : Int) (h1 : ny 3762 ≤ n) (h2 : n < ny 10000) : ∃ h, 3762 ≤ h ∧ h ≤ 9999 ∧ ny h ≤ n ∧ n < ny (h + 1) := by
  obtain ⟨h, x1, x2, x3, x4⟩ := step_over ny 3762 n 6238 h1 (by simpa using h2)
  exact ⟨h, x1, by omega, x3, x4⟩

theorem month_of (l : Int) (b : Bool) (g : Int) (h1 : 0 ≤ g) (h2 : g < ha l b 14) : ∃ m, 1 ≤ m ∧ m ≤ 13 ∧ ha l b m ≤ g ∧ g < ha l b (m + 1) := by
  obtain ⟨h, x1, x2, x3, x4⟩ := step_over (ha l b) 1 g 13 (by rw [ha_one]; exact h1) (by simpa using h2)
  exact ⟨h, x1, by omega, x3, x4⟩

theorem ny_next (h : Int) : ny (h + 1) = ny h + yl h := by unfold yl; omega

theorem ny_le (a : Int) (n : Nat) : ny a ≤ ny (a + n) := by
  induction n with
  | zero => simp
  | succ n ih =>
    have s := ny_next (a + n)
    have := yl_bd (a + n)
    rw [show a + ((n + 1 : Nat) : Int) = a + n + 1 by omega, s]
    omega

theorem ny_mono (a c : Int) (h : a ≤ c) : ny a ≤ ny c := by
  have k := ny_le a (c - a).toNat
  rwa [show a + ((c - a).toNat : Int) = c by omega] at k

/-- A year is told by a day. -/
theorem ny_one_of (n h y : Int) (a1 : ny h ≤ n) (a2 : n < ny (h + 1)) : (ny y ≤ n ↔ y ≤ h) := by
  constructor
  · intro k
    by_cases x : y ≤ h
    · exact x
    · have := ny_mono (h + 1) y (by omega); omega
  · intro k
    have := ny_mono y h k
    omega

/-- The first k months' pairs of month and days, without those that have no days. -/
def ups (l : Int) (b : Bool) : Nat → List (Int × Int)
  | 0 => []
  | k + 1 => if hd l b ((k : Int) + 1) = 0 then ups l b k else ups l b k ++ [((k : Int) + 1, hd l b ((k : Int) + 1))]

theorem ups_length (l : Int) (b : Bool) (k : Nat) : (ups l b k).length ≤ k := by
  induction k with
  | zero => simp [ups]
  | succ k ih =>
    unfold ups
    split
    · omega
    · simp; omega

theorem ups_none (l : Int) (b : Bool) (k : Nat) (h : hd l b ((k : Int) + 1) = 0) : ups l b (k + 1) = ups l b k := by simp [ups, h]
theorem ups_one (l : Int) (b : Bool) (k : Nat) (h : ¬ hd l b ((k : Int) + 1) = 0) : ups l b (k + 1) = ups l b k ++ [((k : Int) + 1, hd l b ((k : Int) + 1))] := by simp [ups, h]

/-- What has come, by its last pair. -/
theorem ups_snoc (l : Int) (b : Bool) (k : Nat) (hk : k ≤ 13) (pre : List (Int × Int)) (x : Int × Int) (h : pre ++ [x] = ups l b k) :
    ∃ j : Nat, j < k ∧ pre = ups l b j ∧ x = ((j : Int) + 1, hd l b ((j : Int) + 1)) ∧ hd l b ((j : Int) + 1) ≠ 0 ∧ ha l b ((k : Int) + 1) = ha l b ((j : Int) + 1) + hd l b ((j : Int) + 1) ∧
      ∀ i : Int, (j : Int) + 1 < i → i ≤ k → hd l b i = 0 := by
  induction k with
  | zero => simp [ups] at h
  | succ k ih =>
    have s := ha_step l b ((k : Int) + 1) (by omega) (by omega)
    by_cases c : hd l b ((k : Int) + 1) = 0
    · rw [ups_none l b k c] at h
      obtain ⟨j, x1, x2, x3, x4, x5, x6⟩ := ih (by omega) h
      refine ⟨j, by omega, x2, x3, x4, ?_, fun i i1 i2 => ?_⟩
      · rw [show ((k + 1 : Nat) : Int) + 1 = (k : Int) + 1 + 1 by omega, s, c, x5]
        omega
      · by_cases e : i ≤ k
        · exact x6 i i1 e
        · rw [show i = (k : Int) + 1 by omega]; exact c
    · rw [ups_one l b k c] at h
      obtain ⟨e1, e2⟩ := List.append_inj' h rfl
      refine ⟨k, by omega, e1, by simpa using e2, c, ?_, fun i i1 i2 => by omega⟩
      rw [show ((k + 1 : Nat) : Int) + 1 = (k : Int) + 1 + 1 by omega, s]

theorem hd_example : hd 383 true 6 = 30 := by decide
theorem ha_example : ha 383 true 8 = 206 := by decide

end Go.Proofs.YtihdijkplmfhfaaGreatDoor.Heb
