/-
  What the document's own Day and Of come to: year by year, month by month, they are the reckoned ones. Conditions: the date may be (its day from 0 on), the number is a day's.
-/
import Derived.Test.YtepaiolhflpmeaaDoorRef
namespace Go.Proofs.YtepaiolhflpmeaaDoor.Greg
open Go.ChangeShapes Go.WideShapes Go.ChangeAt Go.RowKit
open Go.Proofs.YtepaiolhflpmeaaDoor.Divs Go.Proofs.YtepaiolhflpmeaaDoor.Grow
open Go.Proofs.YtepaiolhflpmeaaDoor.Cal (lp ln tab dm ya ma dn yr mo om od)

def YRel (y d : Int) (n i : Value) : Prop := ∃ k : Int, 1 ≤ k ∧ k ≤ y ∧ i = .int .i64 k ∧ n = .int .i64 (d + ya k)
def NRel (y m d : Int) (n i : Value) : Prop := ∃ k : Int, 1 ≤ k ∧ k ≤ m ∧ i = .int .i64 k ∧ n = .int .i64 (d + ya y + ma y k)

def OYRel (n : Int) (r i : Value) : Prop := ∃ k : Int, 1 ≤ k ∧ k ≤ 9999 ∧ ya k < n ∧ i = .int .i64 k ∧ r = .int .i64 (n - ya k)
def OMRel (n y : Int) (r i : Value) : Prop := ∃ k : Int, 1 ≤ k ∧ k ≤ 12 ∧ ma y k < n - ya y ∧ i = .int .i64 k ∧ r = .int .i64 (n - ya y - ma y k)

set_option maxHeartbeats 1000000 in
theorem rof_any (n : Int) (w : World) (h1 : 1 ≤ n) (h2 : n ≤ 3652059) :
    Calls Tryd.prog 22 #[.int .i64 n] w fun e w' => e = .returned (.agg #[.int .i64 (yr n), .int .i64 (om n), .int .i64 (od n)]) ∧ Later w w' := by
  go_enter Tryd.func22, Tryd.ntmps22
  go_wp2
  go_loop [0, 3] (fun r i => OYRel n r i) (fun _ i => (9999 - intOf i).toNat)
  case atStart => exact ⟨1, by omega, by omega, by rw [Cal.ya_one]; omega, rfl, by rw [Cal.ya_one]; simp⟩
  case round =>
    obtain ⟨y, y1, y2, y3, rfl, rfl⟩ := hrel
    have hy := Cal.ya_bd y y1 (by omega)
    have hl := ln_le y
    have hs := Cal.ya_succ y
    by_cases hgt : ln y < n - ya y
    · have hmax : y + 1 ≤ 9999 := by
        by_cases e : y = 9999
        · subst e
          have := Cal.ya_end
          have e2 : ya (9999 + 1) = ya 10000 := rfl
          omega
        · omega
      have hgt2 : ya (y + 1) < n := by omega
      have HS := Lib.hid hs
      clear hs
      go_wp2_with (go_at_call 37; refine (long_any _ _).mono ?_; rintro e w' ⟨rfl, rfl⟩)
      go_round
      case rel => exact ⟨y + 1, by omega, by omega, hgt2, rfl, by rw [HS.out, Int.sub_sub]⟩
      case measure => simp [intOf]; omega
    · have hyr := Cal.yr_only y n y1 y2 y3 (by omega)
      have HY := Lib.hid hyr
      have hle : n - ya y ≤ ln y := by omega
      clear hyr hs
      go_wp2_with (go_at_call 37; refine (long_any _ _).mono ?_; rintro e w' ⟨rfl, rfl⟩)
      go_loop [0, 4] (fun r i => OMRel n y r i) (fun _ i => (12 - intOf i).toNat)
      case atStart => exact ⟨1, by omega, by omega, by rw [Cal.ma_one]; omega, rfl, by rw [Cal.ma_one]; simp⟩
      case round =>
        obtain ⟨m, m1, m2, m3, rfl, rfl⟩ := hrel
        have hm := Cal.ma_bd y m (by omega)
        have hd := Cal.dm_le y m
        have hs := Cal.ma_succ y m y1 y2 m1 m2
        by_cases hgt : dm y m < n - ya y - ma y m
        · have hmax : m + 1 ≤ 12 := by
            by_cases e : m = 12
            · subst e
              have := Cal.ma_end y
              have e2 : ma y (12 + 1) = ma y 13 := rfl
              omega
            · omega
          have hgt2 : ma y (m + 1) < n - ya y := by omega
          have HS := Lib.hid hs
          clear hs
          go_wp2_with (go_at_call 24; refine (rdays_any _ _ _).mono ?_; rintro e w' ⟨rfl, rfl⟩)
          go_round
          case rel => exact ⟨m + 1, by omega, by omega, hgt2, rfl, by rw [HS.out, Int.sub_sub (n - ya y)]⟩
          case measure => simp [intOf]; omega
        · have HM := Lib.hid (Cal.mo_only y (n - ya y) m m1 m2 m3 (by omega))
          clear hs
          go_wp2_with (go_at_call 24; refine (rdays_any _ _ _).mono ?_; rintro e w' ⟨rfl, rfl⟩)
          refine bodyPost_ret (v := .agg #[.int .i64 y, .int .i64 m, .int .i64 (n - ya y - ma y m)]) (by simp [results, Tryd.results22, go_sem]) rfl ⟨?_, (Later.refl w).alloc _ _⟩
          unfold od om
          rw [HY.out, HM.out]

end Go.Proofs.YtepaiolhflpmeaaDoor.Greg
