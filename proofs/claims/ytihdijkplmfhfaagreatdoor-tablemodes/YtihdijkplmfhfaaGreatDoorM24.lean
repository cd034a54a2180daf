/-
  Texts of mine, merged: each part says what it holds. Conditions: as each theorem states.
-/
import Derived.Test.YtihdijkplmfhfaaGreatDoorM23

/- The document's answer for layer 4: how many days a month has, which date may be, a date's number and a number's date. Conditions: as each theorem says. -/
namespace Go.Proofs.YtihdijkplmfhfaaGreatDoor.Hebrew
set_option maxRecDepth 100000
open Go.ChangeShapes Go.WideShapes Go.ChangeAt Go.RowKit
open Go.Proofs.YtihdijkplmfhfaaGreatDoor.Divs Go.Proofs.YtihdijkplmfhfaaGreatDoor.Grow Go.Proofs.YtihdijkplmfhfaaGreatDoor.Mol
open Go.Proofs.YtihdijkplmfhfaaGreatDoor.Year (lh mh pt md mp p1 p2 po dl ny yl)
open Go.Proofs.YtihdijkplmfhfaaGreatDoor.Heb (hd ha ups)

/-- The days of month m of year h, whatever h. -/
def rd (h m : Int) : Int := if h < 3762 ∨ 9999 < h then 0 else hd (yl h) (lh h) m

theorem rd_no (h m : Int) (hb : h < 3762 ∨ 9999 < h) : rd h m = 0 := by unfold rd; rw [if_pos hb]
theorem rd_yes (h m : Int) (h1 : 3762 ≤ h) (h2 : h ≤ 9999) : rd h m = hd (yl h) (lh h) m := by unfold rd; rw [if_neg (by omega)]
theorem rd_bd (h m : Int) : 0 ≤ rd h m ∧ rd h m ≤ 30 := by
  have := Heb.hd_bd (yl h) (lh h) m
  unfold rd
  split <;> omega
theorem rd_in (h m : Int) (hp : 0 < rd h m) : 3762 ≤ h ∧ h ≤ 9999 ∧ 1 ≤ m ∧ m ≤ 13 := by
  by_cases hb : h < 3762 ∨ 9999 < h
  · rw [rd_no h m hb] at hp; omega
  · rw [rd_yes h m (by omega) (by omega)] at hp
    have := Heb.hd_month _ _ _ hp
    omega

theorem rdays_no (h m : Int) (w : World) (hb : h < 3762 ∨ 9999 < h) : Calls Tryz.prog 146 #[.int .i64 h, .int .i64 m] w fun e w' => e = .returned (.int .i64 0) ∧ Later w w' := by
  have N := Lib.hid (fun W => same_g (may_no h W hb))
  clear hb
  go_enter Tryz.func146, Tryz.ntmps146
  go_wp2_with fail
  refine (N.out _).mono ?_
  rintro e w1 ⟨rfl, hg1⟩
  go_wp2_with fail
  go_ret
  exact ⟨rfl, hg1⟩

theorem rdays_out (h m : Int) (w : World) (h1 : 3762 ≤ h) (h2 : h ≤ 9999) (hb : m < 1 ∨ 13 < m) : Calls Tryz.prog 146 #[.int .i64 h, .int .i64 m] w fun e w' => e = .returned (.int .i64 0) ∧ Later w w' := by
  have Y := Lib.hid (fun W => same_g (may_yes h W h1 h2))
  by_cases hm : m < 1
  · clear hb
    go_enter Tryz.func146, Tryz.ntmps146
    go_wp2_with fail
    refine (Y.out _).mono ?_
    rintro e w1 ⟨rfl, hg1⟩
    go_wp2_with fail
    go_ret
    exact ⟨rfl, hg1⟩
  · have hm2 : 13 < m := by omega
    clear hb
    go_enter Tryz.func146, Tryz.ntmps146
    go_wp2_with fail
    refine (Y.out _).mono ?_
    rintro e w1 ⟨rfl, hg1⟩
    go_wp2_with fail
    go_ret
    exact ⟨rfl, hg1⟩

set_option maxHeartbeats 2000000 in
theorem rdays_in (h m : Int) (w : World) (h1 : 3762 ≤ h) (h2 : h ≤ 9999) (m1 : 1 ≤ m) (m2 : m ≤ 13) : Calls Tryz.prog 146 #[.int .i64 h, .int .i64 m] w fun e w' => e = .returned (.int .i64 (hd (yl h) (lh h) m)) ∧ Later w w' := by
  have Y := Lib.hid (fun W => same_g (may_yes h W h1 h2))
  have L := Lib.hid (fun W => rlen_any h W (by omega) h2)
  have B := Lib.hid (fun W => drew_g (rleap_any h W (by omega) (by omega)))
  have hl := Heb.yl_bd h
  have hm : (yl h).tmod 10 = yl h % 10 := Int.tmod_eq_emod_of_nonneg (by omega)
  clear h1 h2
  rcases Heb.months_all m m1 m2 with rfl | rfl | rfl | rfl | rfl | rfl | rfl | rfl | rfl | rfl | rfl | rfl | rfl <;> clear m1 m2
  · go_enter Tryz.func146, Tryz.ntmps146
    go_wp2_with fail
    refine (Y.out _).mono ?_
    rintro e w1 ⟨rfl, hg1⟩
    go_wp2_with fail
    refine (L.out _).mono ?_
    rintro e w2 ⟨rfl, hg2⟩
    go_wp2_with fail
    refine (B.out _).mono ?_
    rintro e w3 ⟨rfl, hg3⟩
    go_wp2_with fail
    go_ret
    exact ⟨ret1 (by simp [hd]), gtrans hg1 (gtrans hg2 hg3)⟩
  · by_cases hx : yl h % 10 = 5
    · have t : (yl h % 10 == 5) = true := beq_iff_eq.2 hx
      have HS := Lib.hid hx
      clear hx
      go_enter Tryz.func146, Tryz.ntmps146
      go_wp2_with fail
      refine (Y.out _).mono ?_
      rintro e w1 ⟨rfl, hg1⟩
      go_wp2_with fail
      refine (L.out _).mono ?_
      rintro e w2 ⟨rfl, hg2⟩
      go_wp2_with fail
      go_ret
      exact ⟨ret1 (by simp [hd, HS.out]), gtrans hg1 hg2⟩
    · have t : (yl h % 10 == 5) = false := by simpa using hx
      have HS := Lib.hid hx
      clear hx
      go_enter Tryz.func146, Tryz.ntmps146
      go_wp2_with fail
      refine (Y.out _).mono ?_
      rintro e w1 ⟨rfl, hg1⟩
      go_wp2_with fail
      refine (L.out _).mono ?_
      rintro e w2 ⟨rfl, hg2⟩
      go_wp2_with fail
      refine (B.out _).mono ?_
      rintro e w3 ⟨rfl, hg3⟩
      go_wp2_with fail
      go_ret
      exact ⟨ret1 (by simp [hd, HS.out]), gtrans hg1 (gtrans hg2 hg3)⟩
  · by_cases hx : yl h % 10 = 3
    · have t : (yl h % 10 == 3) = true := beq_iff_eq.2 hx
      have HS := Lib.hid hx
      clear hx
      go_enter Tryz.func146, Tryz.ntmps146
      go_wp2_with fail
      refine (Y.out _).mono ?_
      rintro e w1 ⟨rfl, hg1⟩
      go_wp2_with fail
      refine (L.out _).mono ?_
      rintro e w2 ⟨rfl, hg2⟩
      go_wp2_with fail
      go_ret
      exact ⟨ret1 (by simp [hd, HS.out]), gtrans hg1 hg2⟩
    · have t : (yl h % 10 == 3) = false := by simpa using hx
      have HS := Lib.hid hx
      clear hx
      go_enter Tryz.func146, Tryz.ntmps146
      go_wp2_with fail
      refine (Y.out _).mono ?_
      rintro e w1 ⟨rfl, hg1⟩
      go_wp2_with fail
      refine (L.out _).mono ?_
      rintro e w2 ⟨rfl, hg2⟩
      go_wp2_with fail
      refine (B.out _).mono ?_
      rintro e w3 ⟨rfl, hg3⟩
      go_wp2_with fail
      go_ret
      exact ⟨ret1 (by simp [hd, HS.out]), gtrans hg1 (gtrans hg2 hg3)⟩
  · go_enter Tryz.func146, Tryz.ntmps146
    go_wp2_with fail
    refine (Y.out _).mono ?_
    rintro e w1 ⟨rfl, hg1⟩
    go_wp2_with fail
    refine (L.out _).mono ?_
    rintro e w2 ⟨rfl, hg2⟩
    go_wp2_with fail
    refine (B.out _).mono ?_
    rintro e w3 ⟨rfl, hg3⟩
    go_wp2_with fail
    go_ret
    exact ⟨ret1 (by simp [hd]), gtrans hg1 (gtrans hg2 hg3)⟩
  · go_enter Tryz.func146, Tryz.ntmps146
    go_wp2_with fail
    refine (Y.out _).mono ?_
    rintro e w1 ⟨rfl, hg1⟩
    go_wp2_with fail
    refine (L.out _).mono ?_
    rintro e w2 ⟨rfl, hg2⟩
    go_wp2_with fail
    refine (B.out _).mono ?_
    rintro e w3 ⟨rfl, hg3⟩
    go_wp2_with fail
    go_ret
    exact ⟨ret1 (by simp [hd]), gtrans hg1 (gtrans hg2 hg3)⟩
  · cases hb : lh h with
    | true =>
      rw [hb] at B
      clear hb
      go_enter Tryz.func146, Tryz.ntmps146
      go_wp2_with fail
      refine (Y.out _).mono ?_
      rintro e w1 ⟨rfl, hg1⟩
      go_wp2_with fail
      refine (L.out _).mono ?_
      rintro e w2 ⟨rfl, hg2⟩
      go_wp2_with fail
      refine (B.out _).mono ?_
      rintro e w3 ⟨rfl, hg3⟩
      go_wp2_with fail
      go_ret
      exact ⟨ret1 (by simp [hd]), gtrans hg1 (gtrans hg2 hg3)⟩
    | false =>
      rw [hb] at B
      clear hb
      go_enter Tryz.func146, Tryz.ntmps146
      go_wp2_with fail
      refine (Y.out _).mono ?_
      rintro e w1 ⟨rfl, hg1⟩
      go_wp2_with fail
      refine (L.out _).mono ?_
      rintro e w2 ⟨rfl, hg2⟩
      go_wp2_with fail
      refine (B.out _).mono ?_
      rintro e w3 ⟨rfl, hg3⟩
      go_wp2_with fail
      go_ret
      exact ⟨ret1 (by simp [hd]), gtrans hg1 (gtrans hg2 hg3)⟩
  · go_enter Tryz.func146, Tryz.ntmps146
    go_wp2_with fail
    refine (Y.out _).mono ?_
    rintro e w1 ⟨rfl, hg1⟩
    go_wp2_with fail
    refine (L.out _).mono ?_
    rintro e w2 ⟨rfl, hg2⟩
    go_wp2_with fail
    refine (B.out _).mono ?_
    rintro e w3 ⟨rfl, hg3⟩
    go_wp2_with fail
    go_ret
    exact ⟨ret1 (by simp [hd]), gtrans hg1 (gtrans hg2 hg3)⟩
  · go_enter Tryz.func146, Tryz.ntmps146
    go_wp2_with fail
    refine (Y.out _).mono ?_
    rintro e w1 ⟨rfl, hg1⟩
    go_wp2_with fail
    refine (L.out _).mono ?_
    rintro e w2 ⟨rfl, hg2⟩
    go_wp2_with fail
    refine (B.out _).mono ?_
    rintro e w3 ⟨rfl, hg3⟩
    go_wp2_with fail
    go_ret
    exact ⟨ret1 (by simp [hd]), gtrans hg1 (gtrans hg2 hg3)⟩
  · go_enter Tryz.func146, Tryz.ntmps146
    go_wp2_with fail
    refine (Y.out _).mono ?_
    rintro e w1 ⟨rfl, hg1⟩
    go_wp2_with fail
    refine (L.out _).mono ?_
    rintro e w2 ⟨rfl, hg2⟩
    go_wp2_with fail
    refine (B.out _).mono ?_
    rintro e w3 ⟨rfl, hg3⟩
    go_wp2_with fail
    go_ret
    exact ⟨ret1 (by simp [hd]), gtrans hg1 (gtrans hg2 hg3)⟩
  · go_enter Tryz.func146, Tryz.ntmps146
    go_wp2_with fail
    refine (Y.out _).mono ?_
    rintro e w1 ⟨rfl, hg1⟩
    go_wp2_with fail
    refine (L.out _).mono ?_
    rintro e w2 ⟨rfl, hg2⟩
    go_wp2_with fail
    refine (B.out _).mono ?_
    rintro e w3 ⟨rfl, hg3⟩
    go_wp2_with fail
    go_ret
    exact ⟨ret1 (by simp [hd]), gtrans hg1 (gtrans hg2 hg3)⟩
  · go_enter Tryz.func146, Tryz.ntmps146
    go_wp2_with fail
    refine (Y.out _).mono ?_
    rintro e w1 ⟨rfl, hg1⟩
    go_wp2_with fail
    refine (L.out _).mono ?_
    rintro e w2 ⟨rfl, hg2⟩
    go_wp2_with fail
    refine (B.out _).mono ?_
    rintro e w3 ⟨rfl, hg3⟩
    go_wp2_with fail
    go_ret
    exact ⟨ret1 (by simp [hd]), gtrans hg1 (gtrans hg2 hg3)⟩
  · go_enter Tryz.func146, Tryz.ntmps146
    go_wp2_with fail
    refine (Y.out _).mono ?_
    rintro e w1 ⟨rfl, hg1⟩
    go_wp2_with fail
    refine (L.out _).mono ?_
    rintro e w2 ⟨rfl, hg2⟩
    go_wp2_with fail
    refine (B.out _).mono ?_
    rintro e w3 ⟨rfl, hg3⟩
    go_wp2_with fail
    go_ret
    exact ⟨ret1 (by simp [hd]), gtrans hg1 (gtrans hg2 hg3)⟩
  · go_enter Tryz.func146, Tryz.ntmps146
    go_wp2_with fail
    refine (Y.out _).mono ?_
    rintro e w1 ⟨rfl, hg1⟩
    go_wp2_with fail
    refine (L.out _).mono ?_
    rintro e w2 ⟨rfl, hg2⟩
    go_wp2_with fail
    refine (B.out _).mono ?_
    rintro e w3 ⟨rfl, hg3⟩
    go_wp2_with fail
    go_ret
    exact ⟨ret1 (by simp [hd]), gtrans hg1 (gtrans hg2 hg3)⟩

theorem rdays_any (h m : Int) (w : World) : Calls Tryz.prog 146 #[.int .i64 h, .int .i64 m] w fun e w' => e = .returned (.int .i64 (rd h m)) ∧ Later w w' := by
  by_cases hb : h < 3762 ∨ 9999 < h
  · rw [rd_no h m hb]; exact rdays_no h m w hb
  · rw [rd_yes h m (by omega) (by omega)]
    by_cases hm : m < 1 ∨ 13 < m
    · rw [Heb.hd_out _ _ m hm]; exact rdays_out h m w (by omega) (by omega) hm
    · exact rdays_in h m w (by omega) (by omega) (by omega) (by omega)

end Go.Proofs.YtihdijkplmfhfaaGreatDoor.Hebrew

/- The document's answer for layer 4, on: which date may be, a date's number, the first and the last day, a day's year, a number's date; and what the chapter's example fixes. Conditions: as each theorem says. -/
namespace Go.Proofs.YtihdijkplmfhfaaGreatDoor.Hebrew
set_option maxRecDepth 100000
open Go.ChangeShapes Go.WideShapes Go.ChangeAt Go.RowKit
open Go.Proofs.YtihdijkplmfhfaaGreatDoor.Divs Go.Proofs.YtihdijkplmfhfaaGreatDoor.Grow Go.Proofs.YtihdijkplmfhfaaGreatDoor.Mol
open Go.Proofs.YtihdijkplmfhfaaGreatDoor.Year (lh mh pt md mp p1 p2 po dl ny yl)
open Go.Proofs.YtihdijkplmfhfaaGreatDoor.Heb (hd ha ups)

def DRel (y m d : Int) (w : World) (s i : Value) (wr : World) : Prop :=
  ∃ k : Int, 1 ≤ k ∧ k ≤ m ∧ s = .int .i64 (ny y + d - 1 + ha (yl y) (lh y) k) ∧ i = .int .i64 k ∧ Later (w.alloc (.cells #[.int .i64 y, .int .i64 m, .int .i64 d] 148)) wr

theorem rfirst_any (w : World) : Calls Tryz.prog 129 #[] w fun e w' => e = .returned (.int .i64 (ny 3762)) ∧ Later w w' := by
  have Y := Lib.hid (fun W => rnewyear_any 3762 W (by omega) (by omega))
  go_enter Tryz.func129, Tryz.ntmps129
  go_wp2_with fail
  refine (Y.out _).mono ?_
  rintro e w1 ⟨rfl, hg1⟩
  go_wp2_with fail
  go_ret
  exact ⟨rfl, hg1⟩

theorem rlast_any (w : World) : Calls Tryz.prog 130 #[] w fun e w' => e = .returned (.int .i64 (ny 10000 - 1)) ∧ Later w w' := by
  have Y := Lib.hid (fun W => rnewyear_any 9999 W (by omega) (by omega))
  have L := Lib.hid (fun W => rlen_any 9999 W (by omega) (by omega))
  have E := Lib.hid (Heb.ny_next 9999)
  have b1 := Year.ny_bd 9999 (by omega) (by omega)
  have b2 := Heb.yl_bd 9999
  go_enter Tryz.func130, Tryz.ntmps130
  go_wp2_with fail
  refine (Y.out _).mono ?_
  rintro e w1 ⟨rfl, hg1⟩
  go_wp2_with fail
  refine (L.out _).mono ?_
  rintro e w2 ⟨rfl, hg2⟩
  go_wp2_with fail
  go_ret
  exact ⟨ret1 (by have := E.out; simp at this; omega), gtrans hg1 hg2⟩

def YRel (h : Int) (w : World) (x y : Value) (wr : World) : Prop := ∃ i j : Int, 3762 ≤ i ∧ i ≤ h ∧ h < j ∧ j ≤ 10000 ∧ x = .int .i64 i ∧ y = .int .i64 j ∧ Later w wr

set_option maxHeartbeats 1000000 in
theorem ryear_any (n h : Int) (w : World) (h1 : 3762 ≤ h) (h2 : h ≤ 9999) (a1 : ny h ≤ n) (a2 : n < ny (h + 1)) :
    Calls Tryz.prog 144 #[.int .i64 n] w fun e w' => e = .returned (.int .i64 h) ∧ Later w w' := by
  have Y := Lib.hid (fun (k : Int) (k1 : 3762 ≤ k) (k2 : k ≤ 10000) W => rnewyear_any k W (by omega) (by omega))
  have O := Lib.hid (fun k => Heb.ny_one_of n h k a1 a2)
  clear a1 a2
  go_enter Tryz.func144, Tryz.ntmps144
  go_wp2_with fail
  go_loopw [3, 4] (fun x y wr => YRel h w x y wr) (fun x y _ => (intOf y - intOf x).toNat)
  case atStart => exact ⟨3762, 10000, by omega, by omega, by omega, by omega, rfl, rfl, Later.refl w⟩
  case round =>
    obtain ⟨i, j, i0, i1, j0, j1, rfl, rfl, hg⟩ := hrel
    have hq : (i + j).tdiv 2 = (i + j) / 2 := Int.tdiv_eq_ediv_of_nonneg (by omega)
    by_cases hlt : 1 < j - i
    · have hh : i < (i + j) / 2 ∧ (i + j) / 2 < j := by omega
      have o := O.out ((i + j) / 2)
      by_cases hm : (i + j) / 2 ≤ h
      · have t : ny ((i + j) / 2) ≤ n := o.2 hm
        clear o
        go_wp2_with fail
        refine (Y.out _ (by omega) (by omega) _).mono ?_
        rintro e w1 ⟨rfl, hg1⟩
        go_wp2_with fail
        go_roundw
        case rel => exact ⟨(i + j) / 2, j, by omega, by omega, by omega, by omega, rfl, rfl, gtrans hg hg1⟩
        case measure => simp [intOf]; omega
      · have t : ¬ ny ((i + j) / 2) ≤ n := fun x => hm (o.1 x)
        clear o
        go_wp2_with fail
        refine (Y.out _ (by omega) (by omega) _).mono ?_
        rintro e w1 ⟨rfl, hg1⟩
        go_wp2_with fail
        go_roundw
        case rel => exact ⟨i, (i + j) / 2, by omega, by omega, by omega, by omega, rfl, rfl, gtrans hg hg1⟩
        case measure => simp [intOf]; omega
    · obtain rfl : i = h := by omega
      go_wp2_with fail
      go_ret
      exact ⟨rfl, hg⟩

def ORel (n h m : Int) (w : World) (x y : Value) (wr : World) : Prop :=
  ∃ k : Int, 1 ≤ k ∧ k ≤ m ∧ x = .int .i64 (n - ny h - ha (yl h) (lh h) k) ∧ y = .int .i64 k ∧ Later w wr

set_option maxHeartbeats 1000000 in
theorem rof_any (n h m : Int) (w : World) (h1 : 3762 ≤ h) (h2 : h ≤ 9999) (a1 : ny h ≤ n) (a2 : n < ny (h + 1)) (m1 : 1 ≤ m) (m2 : m ≤ 13) (g1 : ha (yl h) (lh h) m ≤ n - ny h) (g2 : n - ny h < ha (yl h) (lh h) (m + 1)) :
    Calls Tryz.prog 128 #[.int .i64 n] w fun e w' => e = .returned (.agg #[.int .i64 h, .int .i64 m, .int .i64 (n - ny h - ha (yl h) (lh h) m + 1)]) ∧ Later w w' := by
  have Y := Lib.hid (fun W => ryear_any n h W h1 h2 a1 a2)
  have N := Lib.hid (fun W => rnewyear_any h W (by omega) (by omega))
  have D := Lib.hid (fun k W => rdays_any h k W)
  have hb := Year.ny_bd h (by omega) (by omega)
  have hb2 := Year.ny_bd (h + 1) (by omega) (by omega)
  have hn : -10000000 ≤ n ∧ n ≤ 10000000 := by omega
  clear a1 a2 hb2
  go_enter Tryz.func128, Tryz.ntmps128
  go_wp2_with fail
  refine (Y.out _).mono ?_
  rintro e w1 ⟨rfl, hg1⟩
  go_wp2_with fail
  refine (N.out _).mono ?_
  rintro e w2 ⟨rfl, hg2⟩
  go_wp2_with fail
  go_loopw [4, 5] (fun x y wr => ORel n h m (w.alloc (.cells #[.int .i64 0, .int .i64 0, .int .i64 0] 148)) x y wr) (fun _ y _ => (20 - intOf y).toNat)
  case atStart => exact ⟨1, by omega, by omega, by rw [Heb.ha_one]; simp, rfl, gtrans hg1 hg2⟩
  case round =>
    obtain ⟨k, k1, k2, rfl, rfl, hg⟩ := hrel
    have ba := Heb.ha_bd (yl h) (lh h) k
    have st := Heb.ha_step (yl h) (lh h) k k1 (by omega)
    have hr := rd_yes h k h1 h2
    have bd := rd_bd h k
    by_cases hlt : k < m
    · have mo := Heb.ha_mono (yl h) (lh h) (k + 1) m (by omega) (by omega) (by omega)
      have t : rd h k ≤ n - ny h - ha (yl h) (lh h) k := by omega
      have HS := Lib.hid st
      have HR := Lib.hid hr
      clear st hr mo g1 g2
      go_wp2_with fail
      refine (D.out _ _).mono ?_
      rintro e w3 ⟨rfl, hg3⟩
      go_wp2_with fail
      refine (D.out _ _).mono ?_
      rintro e w4 ⟨rfl, hg4⟩
      go_wp2_with fail
      go_roundw
      case rel => exact ⟨k + 1, by omega, by omega, by rw [HS.out, HR.out, Int.sub_sub (n - ny h)], rfl, gtrans hg (gtrans hg3 hg4)⟩
      case measure => simp [intOf]; omega
    · obtain rfl : k = m := by omega
      have t : ¬ rd h k ≤ n - ny h - ha (yl h) (lh h) k := by omega
      clear st hr g1 g2
      go_wp2_with fail
      refine (D.out _ _).mono ?_
      rintro e w3 ⟨rfl, hg3⟩
      have hG := gtrans hg hg3
      have c0 := cell4 hG 0 rfl
      have c1 := cell4 hG 1 rfl
      have c2 := cell4 hG 2 rfl
      have f0 := froz4 hG 0
      have f1 := froz4 hG 1
      have f2 := froz4 hG 2
      go_wp2_with fail
      refine bodyPost_ret (v := .agg #[.int .i64 h, .int .i64 k, .int .i64 (n - ny h - ha (yl h) (lh h) k + 1)]) ?_ rfl ⟨rfl, ?_⟩
      · exact results_cell_row (P := Tryz.prog) (fn := Tryz.f128) Tryz.results128 _ _ w.heap.size 148 _ (0, 0) _ rfl (row3 (heap_late hG)) Tryz.underlying148 rfl (by kernel_rfl)
      exact (((gtrans ((Later.refl w).alloc _ _) hG).setCell (Nat.le_refl _) _).setCell (Nat.le_refl _) _).setCell (Nat.le_refl _) _

theorem of_example (W : World) : Calls Tryz.prog 202 #[.int .i64 738779] W fun e w' => e = .returned (.tuple #[.agg #[.int .i64 5784, .int .i64 1, .int .i64 1], .int .i64 0]) ∧ Later W w' := by
  have hn := Heb.ny_next 5784
  have hy := Year.ny_example
  have hl := Year.yl_example
  have e1 : ha (yl 5784) (lh 5784) 1 = 0 := Heb.ha_one _ _
  have e2 : ha (yl 5784) (lh 5784) (1 + 1) = 30 := by rw [Year.yl_example, Year.lh_example]; decide
  have k := of_yes 738779 5784 1 W (by omega) (by omega) (by omega) (by omega) (by omega) (by omega) (by omega) (by omega)
  rw [show 738779 - ny 5784 - ha (yl 5784) (lh 5784) 1 + 1 = 1 by rw [e1, hy]; rfl] at k
  exact k

end Go.Proofs.YtihdijkplmfhfaaGreatDoor.Hebrew

/- The document's answer for layer 5: a date's feast, a day's feast, days of rest, the days of rest that touch. Conditions: the numbers are ints, as each theorem says. -/
namespace Go.Proofs.YtihdijkplmfhfaaGreatDoor.Feast
set_option maxRecDepth 100000
open Go.ChangeShapes Go.WideShapes Go.ChangeAt Go.RowKit
open Go.Proofs.YtihdijkplmfhfaaGreatDoor.Divs Go.Proofs.YtihdijkplmfhfaaGreatDoor.Grow Go.Proofs.YtihdijkplmfhfaaGreatDoor.Mol Go.Proofs.YtihdijkplmfhfaaGreatDoor.Hebrew
open Go.Proofs.YtihdijkplmfhfaaGreatDoor.Year (lh mh pt md mp p1 p2 po dl ny yl)
open Go.Proofs.YtihdijkplmfhfaaGreatDoor.Heb (hd ha ups)
open Go.Proofs.YtihdijkplmfhfaaGreatDoor.Fe

set_option maxHeartbeats 1000000 in
theorem rtishri_any (d : Int) (ab : Bool) (w : World) : Calls Tryz.prog 143 #[.int .i64 d, .bool ab] w fun e w' => e = .returned (.int .i64 (fk ab 1 d)) ∧ w = w' := by
  by_cases c : d = 1 ∨ d = 2 ∨ d = 10 ∨ d = 15 ∨ d = 16 ∨ d = 22 ∨ d = 23
  · rcases c with rfl | rfl | rfl | rfl | rfl | rfl | rfl <;> cases ab <;>
      (go_enter Tryz.func143, Tryz.ntmps143
       go_wp2
       go_ret
       exact ⟨ret1 (by simp [fk]), rfl⟩)
  · have t1 : (d == 1) = false := by simp; omega
    have t2 : (d == 2) = false := by simp; omega
    have t3 : (d == 10) = false := by simp; omega
    have t4 : (d == 15) = false := by simp; omega
    have t5 : (d == 16) = false := by simp; omega
    have t6 : (d == 22) = false := by simp; omega
    have t7 : (d == 23) = false := by simp; omega
    have Z := Lib.hid (show 0 = fk ab 1 d by unfold fk; rw [if_pos rfl, if_neg (by omega), if_neg (by omega), if_neg (by omega), if_neg (by omega)])
    clear c
    cases ab <;>
      (go_enter Tryz.func143, Tryz.ntmps143
       go_wp2
       go_ret
       exact ⟨ret1 Z.out, rfl⟩)

set_option maxHeartbeats 1000000 in
theorem rof8_15 (y : Int) (ab : Bool) (w : World) : Calls Tryz.prog 127 #[.agg #[.int .i64 y, .int .i64 8, .int .i64 15], .bool ab] w fun e w' => e = .returned (.int .i64 (fk ab 8 15)) ∧ Later w w' := by
  have L1 := Lib.hid ((Later.refl w).alloc #[.int .i64 y, .int .i64 8, .int .i64 15] 148)
  cases ab <;>
    (go_enter Tryz.func127, Tryz.ntmps127
     go_wp2
     go_ret
     exact ⟨ret1 (by simp [fk]), L1.out⟩)

set_option maxHeartbeats 1000000 in
theorem rof8_16 (y : Int) (ab : Bool) (w : World) : Calls Tryz.prog 127 #[.agg #[.int .i64 y, .int .i64 8, .int .i64 16], .bool ab] w fun e w' => e = .returned (.int .i64 (fk ab 8 16)) ∧ Later w w' := by
  have L1 := Lib.hid ((Later.refl w).alloc #[.int .i64 y, .int .i64 8, .int .i64 16] 148)
  cases ab <;>
    (go_enter Tryz.func127, Tryz.ntmps127
     go_wp2
     go_ret
     exact ⟨ret1 (by simp [fk]), L1.out⟩)

set_option maxHeartbeats 1000000 in
theorem rof8_21 (y : Int) (ab : Bool) (w : World) : Calls Tryz.prog 127 #[.agg #[.int .i64 y, .int .i64 8, .int .i64 21], .bool ab] w fun e w' => e = .returned (.int .i64 (fk ab 8 21)) ∧ Later w w' := by
  have L1 := Lib.hid ((Later.refl w).alloc #[.int .i64 y, .int .i64 8, .int .i64 21] 148)
  cases ab <;>
    (go_enter Tryz.func127, Tryz.ntmps127
     go_wp2
     go_ret
     exact ⟨ret1 (by simp [fk]), L1.out⟩)

set_option maxHeartbeats 1000000 in
theorem rof8_22 (y : Int) (ab : Bool) (w : World) : Calls Tryz.prog 127 #[.agg #[.int .i64 y, .int .i64 8, .int .i64 22], .bool ab] w fun e w' => e = .returned (.int .i64 (fk ab 8 22)) ∧ Later w w' := by
  have L1 := Lib.hid ((Later.refl w).alloc #[.int .i64 y, .int .i64 8, .int .i64 22] 148)
  cases ab <;>
    (go_enter Tryz.func127, Tryz.ntmps127
     go_wp2
     go_ret
     exact ⟨ret1 (by simp [fk]), L1.out⟩)

set_option maxHeartbeats 1000000 in
theorem rof10_6 (y : Int) (ab : Bool) (w : World) : Calls Tryz.prog 127 #[.agg #[.int .i64 y, .int .i64 10, .int .i64 6], .bool ab] w fun e w' => e = .returned (.int .i64 (fk ab 10 6)) ∧ Later w w' := by
  have L1 := Lib.hid ((Later.refl w).alloc #[.int .i64 y, .int .i64 10, .int .i64 6] 148)
  cases ab <;>
    (go_enter Tryz.func127, Tryz.ntmps127
     go_wp2
     go_ret
     exact ⟨ret1 (by simp [fk]), L1.out⟩)

set_option maxHeartbeats 1000000 in
theorem rof10_7 (y : Int) (ab : Bool) (w : World) : Calls Tryz.prog 127 #[.agg #[.int .i64 y, .int .i64 10, .int .i64 7], .bool ab] w fun e w' => e = .returned (.int .i64 (fk ab 10 7)) ∧ Later w w' := by
  have L1 := Lib.hid ((Later.refl w).alloc #[.int .i64 y, .int .i64 10, .int .i64 7] 148)
  cases ab <;>
    (go_enter Tryz.func127, Tryz.ntmps127
     go_wp2
     go_ret
     exact ⟨ret1 (by simp [fk]), L1.out⟩)

set_option maxHeartbeats 1000000 in
theorem rof8_else (y d : Int) (ab : Bool) (h : d ≠ 15 ∧ d ≠ 16 ∧ d ≠ 21 ∧ d ≠ 22) (w : World) : Calls Tryz.prog 127 #[.agg #[.int .i64 y, .int .i64 8, .int .i64 d], .bool ab] w fun e w' => e = .returned (.int .i64 (fk ab 8 d)) ∧ Later w w' := by
  have t15 : (d == 15) = false := by simp; omega
  have t16 : (d == 16) = false := by simp; omega
  have t21 : (d == 21) = false := by simp; omega
  have t22 : (d == 22) = false := by simp; omega
  have Z := Lib.hid (show 0 = fk ab 8 d by unfold fk; rw [if_neg (by omega), if_pos rfl, if_neg (by omega), if_neg (by omega)])
  clear h
  have L1 := Lib.hid ((Later.refl w).alloc #[.int .i64 y, .int .i64 8, .int .i64 d] 148)
  cases ab <;>
    (go_enter Tryz.func127, Tryz.ntmps127
     go_wp2
     go_ret
     exact ⟨ret1 Z.out, L1.out⟩)

set_option maxHeartbeats 1000000 in
theorem rof10_else (y d : Int) (ab : Bool) (h : d ≠ 6 ∧ d ≠ 7) (w : World) : Calls Tryz.prog 127 #[.agg #[.int .i64 y, .int .i64 10, .int .i64 d], .bool ab] w fun e w' => e = .returned (.int .i64 (fk ab 10 d)) ∧ Later w w' := by
  have t6 : (d == 6) = false := by simp; omega
  have t7 : (d == 7) = false := by simp; omega
  have Z := Lib.hid (show 0 = fk ab 10 d by unfold fk; rw [if_neg (by omega), if_neg (by omega), if_pos rfl, if_neg (by omega)])
  clear h
  have L1 := Lib.hid ((Later.refl w).alloc #[.int .i64 y, .int .i64 10, .int .i64 d] 148)
  cases ab <;>
    (go_enter Tryz.func127, Tryz.ntmps127
     go_wp2
     go_ret
     exact ⟨ret1 Z.out, L1.out⟩)

set_option maxHeartbeats 1000000 in
theorem rof_else (y m d : Int) (ab : Bool) (h : m ≠ 1 ∧ m ≠ 8 ∧ m ≠ 10) (w : World) : Calls Tryz.prog 127 #[.agg #[.int .i64 y, .int .i64 m, .int .i64 d], .bool ab] w fun e w' => e = .returned (.int .i64 (fk ab m d)) ∧ Later w w' := by
  have t1 : (m == 1) = false := by simp; omega
  have t8 : (m == 8) = false := by simp; omega
  have t10 : (m == 10) = false := by simp; omega
  have Z := Lib.hid (fk_else ab m d h.1 h.2.1 h.2.2).symm
  clear h
  have L1 := Lib.hid ((Later.refl w).alloc #[.int .i64 y, .int .i64 m, .int .i64 d] 148)
  cases ab <;>
    (go_enter Tryz.func127, Tryz.ntmps127
     go_wp2
     go_ret
     exact ⟨ret1 Z.out, L1.out⟩)

theorem rof1 (y d : Int) (ab : Bool) (w : World) : Calls Tryz.prog 127 #[.agg #[.int .i64 y, .int .i64 1, .int .i64 d], .bool ab] w fun e w' => e = .returned (.int .i64 (fk ab 1 d)) ∧ Later w w' := by
  have L1 := Lib.hid ((Later.refl w).alloc #[.int .i64 y, .int .i64 1, .int .i64 d] 148)
  have T := Lib.hid (fun W => rtishri_any d ab W)
  go_enter Tryz.func127, Tryz.ntmps127
  go_wp2_with fail
  refine (T.out _).mono ?_
  rintro e w1 ⟨rfl, rfl⟩
  go_wp2_with fail
  go_ret
  exact ⟨rfl, L1.out⟩

theorem rfeast_any (y m d : Int) (ab : Bool) (w : World) : Calls Tryz.prog 127 #[.agg #[.int .i64 y, .int .i64 m, .int .i64 d], .bool ab] w fun e w' => e = .returned (.int .i64 (fk ab m d)) ∧ Later w w' := by
  by_cases c1 : m = 1
  · subst c1; exact rof1 y d ab w
  · by_cases c8 : m = 8
    · subst c8
      by_cases d1 : d = 15
      · subst d1; exact rof8_15 y ab w
      · by_cases d2 : d = 16
        · subst d2; exact rof8_16 y ab w
        · by_cases d3 : d = 21
          · subst d3; exact rof8_21 y ab w
          · by_cases d4 : d = 22
            · subst d4; exact rof8_22 y ab w
            · exact rof8_else y d ab ⟨d1, d2, d3, d4⟩ w
    · by_cases c10 : m = 10
      · subst c10
        by_cases d1 : d = 6
        · subst d1; exact rof10_6 y ab w
        · by_cases d2 : d = 7
          · subst d2; exact rof10_7 y ab w
          · exact rof10_else y d ab ⟨d1, d2⟩ w
      · exact rof_else y m d ab ⟨c1, c8, c10⟩ w

theorem rhas_any (n : Int) (w : World) : Calls Tryz.prog 99 #[.int .i64 n] w fun e w' => e = .returned (.bool (decide (ny 3762 ≤ n ∧ n < ny 10000))) ∧ Later w w' := by
  have F := Lib.hid rfirst_any
  have L := Lib.hid rlast_any
  have b1 := Year.ny_bd 10000 (by omega) (by omega)
  by_cases c1 : ny 3762 ≤ n
  · have t1 : decide (ny 3762 ≤ n) = true := by simp [c1]
    have E := Lib.hid (show decide (n ≤ ny 10000 - 1) = decide (ny 3762 ≤ n ∧ n < ny 10000) by
      by_cases c2 : n < ny 10000
      · rw [decide_eq_true (by omega), decide_eq_true (by omega)]
      · rw [decide_eq_false (by omega), decide_eq_false (by omega)])
    go_enter Tryz.func99, Tryz.ntmps99
    go_wp2_with fail
    refine (F.out _).mono ?_
    rintro e w1 ⟨rfl, hg1⟩
    go_wp2_with fail
    refine (L.out _).mono ?_
    rintro e w2 ⟨rfl, hg2⟩
    go_wp2_with fail
    go_ret
    exact ⟨retbool E.out, gtrans hg1 hg2⟩
  · have t1 : decide (ny 3762 ≤ n) = false := by simpa using c1
    have E := Lib.hid (show false = decide (ny 3762 ≤ n ∧ n < ny 10000) from (decide_eq_false (by omega)).symm)
    go_enter Tryz.func99, Tryz.ntmps99
    go_wp2_with fail
    refine (F.out _).mono ?_
    rintro e w1 ⟨rfl, hg1⟩
    go_wp2_with fail
    go_ret
    exact ⟨retbool E.out, hg1⟩

theorem rkind_any (n : Int) (ab : Bool) (w : World) : Calls Tryz.prog 98 #[.int .i64 n, .bool ab] w fun e w' => e = .returned (.int .i64 (kd ab n)) ∧ Later w w' := by
  have H := Lib.hid (fun W => rhas_any n W)
  by_cases ho : n < ny 3762 ∨ ny 10000 ≤ n
  · rw [decide_eq_false (by omega)] at H
    have E := Lib.hid (kd_out ab n ho).symm
    clear ho
    go_enter Tryz.func98, Tryz.ntmps98
    go_wp2_with fail
    refine (H.out _).mono ?_
    rintro e w1 ⟨rfl, hg1⟩
    go_wp2_with fail
    go_ret
    exact ⟨ret1 E.out, hg1⟩
  · rw [decide_eq_true (by omega)] at H
    obtain ⟨h, m, y1, y2, a1, a2, m1, m2, g1, g2⟩ := dt_ex n (by omega) (by omega)
    have O := Lib.hid (fun W => rof_any n h m W y1 y2 a1 a2 m1 m2 g1 g2)
    have E := Lib.hid (kd_dt ab n _ _ _ (dt_of n h m y1 y2 m1 m2 g1 g2)).symm
    have F := Lib.hid (fun W => rfeast_any h m (n - ny h - ha (yl h) (lh h) m + 1) ab W)
    clear ho a1 a2 g1 g2 m1 m2 y1 y2
    go_enter Tryz.func98, Tryz.ntmps98
    go_wp2_with fail
    refine (H.out _).mono ?_
    rintro e w1 ⟨rfl, hg1⟩
    go_wp2_with fail
    refine (O.out _).mono ?_
    rintro e w2 ⟨rfl, hg2⟩
    go_wp2_with fail
    refine (F.out _).mono ?_
    rintro e w3 ⟨rfl, hg3⟩
    go_wp2_with fail
    go_ret
    exact ⟨ret1 E.out, gtrans (gtrans hg1 hg2) hg3⟩

theorem rweekday_any (n : Int) (w : World) (h0 : -9223372036854775808 ≤ n) (h1 : n ≤ 9223372036854775807) : Calls Tryz.prog 97 #[.int .i64 n] w fun e w' => e = .returned (.int .i64 (n % 7)) ∧ ∃ k, w' = w.drewN k := by
  have M := Lib.hid (fun W => rmod_any n 7 W h0 h1 (by omega) (by omega))
  go_enter Tryz.func97, Tryz.ntmps97
  go_wp2_with fail
  refine (M.out _).mono ?_
  rintro e w1 ⟨rfl, k, rfl⟩
  go_wp2_with fail
  go_ret
  exact ⟨rfl, _, rfl⟩

set_option maxHeartbeats 1000000 in
theorem rrest_any (n : Int) (ab : Bool) (w : World) (h0 : -9223372036854775808 ≤ n) (h1 : n ≤ 9223372036854775807) : Calls Tryz.prog 62 #[.int .i64 n, .bool ab] w fun e w' => e = .returned (.bool (rst ab n)) ∧ Later w w' := by
  have H := Lib.hid (fun W => rhas_any n W)
  have W7 := Lib.hid (fun W => rweekday_any n W h0 h1)
  have K := Lib.hid (fun W => rkind_any n ab W)
  have E := Lib.hid (show rst ab n = (decide (ny 3762 ≤ n ∧ n < ny 10000) && (decide (n % 7 = 6) || decide (kd ab n ≠ 0))) from rfl)
  by_cases ho : ny 3762 ≤ n ∧ n < ny 10000
  · rw [decide_eq_true ho] at H E
    clear ho
    by_cases hs : n % 7 = 6
    · rw [decide_eq_true hs] at E
      have t : (n % 7 == 6) = true := by simp [hs]
      clear hs
      go_enter Tryz.func62, Tryz.ntmps62
      go_wp2_with fail
      refine (H.out _).mono ?_
      rintro e w1 ⟨rfl, hg1⟩
      go_wp2_with fail
      refine (W7.out _).mono ?_
      rintro e w2 ⟨rfl, k, rfl⟩
      go_wp2_with fail
      go_ret
      exact ⟨retbool (by rw [E.out]; rfl), hg1⟩
    · rw [decide_eq_false hs] at E
      have t : (n % 7 == 6) = false := by simp [hs]
      clear hs
      go_enter Tryz.func62, Tryz.ntmps62
      go_wp2_with fail
      refine (H.out _).mono ?_
      rintro e w1 ⟨rfl, hg1⟩
      go_wp2_with fail
      refine (W7.out _).mono ?_
      rintro e w2 ⟨rfl, k, rfl⟩
      go_wp2_with fail
      refine (K.out _).mono ?_
      rintro e w3 ⟨rfl, hg3⟩
      go_wp2_with fail
      go_ret
      refine ⟨retbool ?_, gtrans (gtrans hg1 (later_drewN _ k)) hg3⟩
      rw [E.out]
      by_cases z : kd ab n = 0 <;> simp [z]
  · rw [decide_eq_false ho] at H E
    clear ho
    go_enter Tryz.func62, Tryz.ntmps62
    go_wp2_with fail
    refine (H.out _).mono ?_
    rintro e w1 ⟨rfl, hg1⟩
    go_wp2_with fail
    go_ret
    exact ⟨retbool (by rw [E.out]; rfl), hg1⟩

theorem row2 {X : World} {b : Nat} {t : TypeId} {fr : Nat × Nat} {u0 u1 v0 v1 : Value} (h : X.heap[b]? = some (.cells #[u0, u1] t fr)) :
    ((X.setCell ⟨b, 0, none⟩ v0).setCell ⟨b, 1, none⟩ v1).heap[b]? = some (.cells #[v0, v1] t fr) :=
  row_set (row_set h)

def Lo (ab : Bool) (a n : Int) (w : World) (x y : Value) (wr : World) : Prop := ∃ i : Int, a ≤ i ∧ i ≤ n ∧ x = .int .i64 i ∧ y = .bool (rst ab (i - 1)) ∧ Later w wr
def Up (ab : Bool) (b n : Int) (w : World) (x y : Value) (wr : World) : Prop := ∃ i : Int, n ≤ i ∧ i ≤ b ∧ x = .int .i64 i ∧ y = .bool (rst ab (i + 1)) ∧ Later w wr

set_option maxHeartbeats 2000000 in
theorem rrun_any (n a b : Int) (ab : Bool) (w : World) (h : Row ab n a b) : Calls Tryz.prog 63 #[.int .i64 n, .bool ab] w fun e w' => e = .returned (.agg #[.int .i64 a, .int .i64 b]) ∧ Later w w' := by
  have rl := row_len ab n a b h
  obtain ⟨x1, x2, x3, x4, x5⟩ := h
  have hn := x3 n x1 x2
  obtain ⟨n0, n1, _⟩ := (rst_iff ab n).1 hn
  have b1 := Year.ny_bd 3762 (by omega) (by omega)
  have b2 := Year.ny_bd 10000 (by omega) (by omega)
  have nb : -10000000 ≤ n ∧ n ≤ 10000000 := by omega
  have R := Lib.hid (fun i W (h0 : -20000000 ≤ i) (h1 : i ≤ 20000000) => rrest_any i ab W (by omega) (by omega))
  have X3 := Lib.hid x3
  have X4 := Lib.hid x4
  have X5 := Lib.hid x5
  clear x3 x4 x5 hn n0 n1 b1 b2
  go_enter Tryz.func63, Tryz.ntmps63
  go_wp2_with fail
  refine (R.out _ _ (by omega) (by omega)).mono ?_
  rintro e w1 ⟨rfl, hg1⟩
  go_wp2_with fail
  go_loopw [5, 7] (fun x y wr => Lo ab a n (w.alloc (.cells #[.int .i64 0, .int .i64 0] 99)) x y wr) (fun x _ _ => (intOf x - a).toNat)
  case atStart => exact ⟨n, by omega, by omega, rfl, rfl, hg1⟩
  case round =>
    obtain ⟨i, i1, i2, rfl, rfl, hg⟩ := hrel
    by_cases c : i = a
    · subst c
      have HG := Lib.hid hg
      rw [X4.out]
      clear hg
      go_wp2_with fail
      refine (R.out _ _ (by omega) (by omega)).mono ?_
      rintro e w2 ⟨rfl, hg2⟩
      have HG2 := Lib.hid (gtrans HG.out hg2)
      clear hg2
      go_wp2_with fail
      go_loopw [6, 7] (fun x y wr => Up ab b n (w.alloc (.cells #[.int .i64 0, .int .i64 0] 99)) x y wr) (fun x _ _ => (b - intOf x).toNat)
      case atStart => exact ⟨n, by omega, by omega, rfl, rfl, HG2.out⟩
      case round =>
        obtain ⟨j, j1, j2, rfl, rfl, hgj⟩ := hrel
        by_cases c : j = b
        · subst c
          rw [X5.out]
          have c0 := cell4 hgj 0 rfl
          have c1 := cell4 hgj 1 rfl
          have f0 := froz4 hgj 0
          have f1 := froz4 hgj 1
          have HGJ := Lib.hid hgj
          clear hgj
          go_wp2_with fail
          refine bodyPost_ret (v := .agg #[.int .i64 i, .int .i64 j]) ?_ rfl ⟨rfl, ?_⟩
          · exact results_cell_row (P := Tryz.prog) (fn := Tryz.f63) Tryz.results63 _ _ w.heap.size 99 _ (0, 0) _ rfl (row2 (heap_late HGJ.out)) Tryz.underlying99 rfl (by kernel_rfl)
          exact ((gtrans ((Later.refl w).alloc _ _) HGJ.out).setCell (Nat.le_refl _) _).setCell (Nat.le_refl _) _
        · rw [X3.out (j + 1) (by omega) (by omega)]
          have HGJ := Lib.hid hgj
          clear hgj
          go_wp2_with fail
          refine (R.out _ _ (by omega) (by omega)).mono ?_
          rintro e w3 ⟨rfl, hg3⟩
          go_wp2_with fail
          go_roundw
          case rel => exact ⟨j + 1, by omega, by omega, rfl, rfl, gtrans HGJ.out hg3⟩
          case measure => simp [intOf]; omega
    · rw [X3.out (i - 1) (by omega) (by omega)]
      have HG := Lib.hid hg
      clear hg
      go_wp2_with fail
      refine (R.out _ _ (by omega) (by omega)).mono ?_
      rintro e w3 ⟨rfl, hg3⟩
      go_wp2_with fail
      go_roundw
      case rel => exact ⟨i - 1, by omega, by omega, rfl, rfl, gtrans HG.out hg3⟩
      case measure => simp [intOf]; omega

end Go.Proofs.YtihdijkplmfhfaaGreatDoor.Feast

/- The document's answers: whether a window's span may be asked for, whether it begins on a day. Conditions: the numbers are ints, the window may be, as each theorem says. -/
namespace Go.Proofs.YtihdijkplmfhfaaGreatDoor.Window
set_option maxRecDepth 100000
set_option maxRecDepth 100000
open Go.ChangeShapes Go.WideShapes Go.ChangeAt Go.RowKit
open Go.Proofs.YtihdijkplmfhfaaGreatDoor.Divs Go.Proofs.YtihdijkplmfhfaaGreatDoor.Grow
open Go.Proofs.YtihdijkplmfhfaaGreatDoor.Greg (Laid)
open Go.Proofs.YtihdijkplmfhfaaGreatDoor.Zo Go.Proofs.YtihdijkplmfhfaaGreatDoor.Zone Go.Proofs.YtihdijkplmfhfaaGreatDoor.Win
open Go.Proofs.YtihdijkplmfhfaaGreatDoor.Cf (Cg Wn ce wo)
open Go.Proofs.YtihdijkplmfhfaaGreatDoor.Conf (wc cc Is)
open Go.Proofs.YtihdijkplmfhfaaGreatDoor.Fe (kd rst)
open Go.Proofs.YtihdijkplmfhfaaGreatDoor.Su (mV mE sk sa)

set_option linter.unusedVariables false
open Go.Proofs.YtihdijkplmfhfaaGreatDoor.Conf (At load_at)

theorem is_abroad {w : World} {D : Array Value} {c : Cg} (h : Is w D c) : D[35]? = some (.bool c.ab) := by
  obtain ⟨u, v, rfl, _, _⟩ := h
  rfl

theorem rbegins_weekly (D : Array Value) (c : Cg) (x : Wn) (d : Int) (w : World) (hc : Is w D c) (hk : x.k = 1) (d0 : 0 ≤ d) (d1 : d ≤ 10000000) (ha : 0 ≤ x.a) : Calls Tryz.prog 61 #[.agg D, .agg (wc x).toArray, .int .i64 d] w fun e w' => e = .returned (.bool (bit x.a d)) ∧ Later w w' := by
  have t1 : (x.k == 1) = true := by simp; omega
  have t2 : (x.k == 2) = false := by simp; omega
  have t3 : (x.k == 3) = false := by simp; omega
  have W7 := Lib.hid (fun W => drew_g (Feast.rweekday_any d W (by omega) (by omega)))
  have k0 : 0 ≤ d % 7 := by omega
  have k1 : d % 7 ≤ 6 := by omega
  have HV := Lib.hid (show bit x.a d = (x.a / 2 ^ (d % 7).toNat % 2 == 1) from rfl)
  have hm : 0 ≤ x.a / 2 ^ (d % 7).toNat := Int.ediv_nonneg ha (Int.pow_nonneg (by omega))
  have hw : IntKind.u64.wrap (d % 7) = d % 7 := IntWalk.u64_in _ (by omega)
  have htm : (x.a / 2 ^ (d % 7).toNat).tmod 2 = x.a / 2 ^ (d % 7).toNat % 2 := Int.tmod_eq_emod_of_nonneg hm
  generalize d % 7 = q at *
  clear hk d0 d1
  have HZ := Lib.hid hc.size
  have HC := Lib.hid (is_abroad hc)
  have HG0 := Lib.hid (((Later.refl w).alloc D 33).alloc (wc x).toArray 65)
  have HA0 := Lib.hid ((At.new w D 33).put (.cells (wc x).toArray 65))
  have HB0 := Lib.hid (At.new (w.alloc (.cells D 33)) (wc x).toArray 65)
  simp only [World.size_alloc] at HB0
  clear hc
  unfold wc at HG0 HB0 ⊢
  go_enter Tryz.func61, Tryz.ntmps61
  have c3 := gw_cell (HB0.out 3 _ rfl)
  go_wp2_with fail
  refine region_grown (by kernel_rfl) (by kernel_rfl) ?_
  repeat (go_big_quiet_step ((go_at_call 97; exact in_grown (W7.out _))))
  refine wpQuiet_nil (grown_end ?_)
  intro w2 hg2
  clear c3
  go_wp2_with fail
  go_ret
  exact ⟨retb HV.out.symm, gtrans HG0.out hg2⟩

theorem rbegins_dated (D : Array Value) (c : Cg) (x : Wn) (d : Int) (w : World) (hc : Is w D c) (hk : x.k = 2)  : Calls Tryz.prog 61 #[.agg D, .agg (wc x).toArray, .int .i64 d] w fun e w' => e = .returned (.bool (x.a == d)) ∧ Later w w' := by
  have t1 : (x.k == 1) = false := by simp; omega
  have t2 : (x.k == 2) = true := by simp; omega
  have t3 : (x.k == 3) = false := by simp; omega
  clear hk
  have HZ := Lib.hid hc.size
  have HC := Lib.hid (is_abroad hc)
  have HG0 := Lib.hid (((Later.refl w).alloc D 33).alloc (wc x).toArray 65)
  have HA0 := Lib.hid ((At.new w D 33).put (.cells (wc x).toArray 65))
  have HB0 := Lib.hid (At.new (w.alloc (.cells D 33)) (wc x).toArray 65)
  simp only [World.size_alloc] at HB0
  clear hc
  unfold wc at HG0 HB0 ⊢
  go_enter Tryz.func61, Tryz.ntmps61
  go_wp2_with fail
  go_ret
  exact ⟨rfl, HG0.out⟩

theorem rbegins_festive (D : Array Value) (c : Cg) (x : Wn) (d : Int) (w : World) (hc : Is w D c) (hk : x.k = 3) (d0 : 0 ≤ d) (d1 : d ≤ 10000000) (h0 : -7 ≤ x.h) (h1 : x.h ≤ 7) : Calls Tryz.prog 61 #[.agg D, .agg (wc x).toArray, .int .i64 d] w fun e w' => e = .returned (.bool (kd c.ab (d - x.h) == x.a)) ∧ Later w w' := by
  have t1 : (x.k == 1) = false := by simp; omega
  have t2 : (x.k == 2) = false := by simp; omega
  have t3 : (x.k == 3) = true := by simp; omega
  have K := Lib.hid (fun W => Feast.rkind_any (d - x.h) c.ab W)
  have wr : IntKind.i64.wrap (d - x.h) = d - x.h := IntWalk.i64_in _ (by omega)
  clear hk
  have HZ := Lib.hid hc.size
  have HC := Lib.hid (is_abroad hc)
  have HG0 := Lib.hid (((Later.refl w).alloc D 33).alloc (wc x).toArray 65)
  have HA0 := Lib.hid ((At.new w D 33).put (.cells (wc x).toArray 65))
  have HB0 := Lib.hid (At.new (w.alloc (.cells D 33)) (wc x).toArray 65)
  simp only [World.size_alloc] at HB0
  clear hc
  unfold wc at HG0 HB0 ⊢
  go_enter Tryz.func61, Tryz.ntmps61
  have c3 := gw_cell (HB0.out 3 _ rfl)
  have c4 := gw_cell (HB0.out 4 _ rfl)
  have c0 := gw_cell (HB0.out 0 _ rfl)
  have c35 := gw_cell (HA0.out 35 _ HC.out)
  unfold wc at c35
  go_wp2_with fail
  refine region_grown (by kernel_rfl) (by kernel_rfl) ?_
  repeat (go_big_quiet_step ((go_at_call 98; exact in_grown (K.out _))))
  refine wpQuiet_nil (grown_end ?_)
  intro w2 hg2
  clear c0 c3 c4 c35
  go_wp2_with fail
  go_ret
  exact ⟨rfl, gtrans HG0.out hg2⟩

end Go.Proofs.YtihdijkplmfhfaaGreatDoor.Window

/- A span is as long as its window, in its mode; about days of rest less than five days: the walk. Condition: the table of months lies where the program lays it. -/
namespace Go.Proofs.YtihdijkplmfhfaaGreatDoor.Window
set_option maxRecDepth 100000
open Go.ChangeShapes Go.WideShapes Go.ChangeAt Go.RowKit
open Go.Proofs.YtihdijkplmfhfaaGreatDoor.Divs Go.Proofs.YtihdijkplmfhfaaGreatDoor.Grow
open Go.Proofs.YtihdijkplmfhfaaGreatDoor.Greg (Laid)
open Go.Proofs.YtihdijkplmfhfaaGreatDoor.Zo Go.Proofs.YtihdijkplmfhfaaGreatDoor.Zone Go.Proofs.YtihdijkplmfhfaaGreatDoor.Win
open Go.Proofs.YtihdijkplmfhfaaGreatDoor.Cf (Cg Wn ce wo)
open Go.Proofs.YtihdijkplmfhfaaGreatDoor.Conf (wc cc Is)
open Go.Proofs.YtihdijkplmfhfaaGreatDoor.Fe (kd rst)
open Go.Proofs.YtihdijkplmfhfaaGreatDoor.Su (mV mE sk sa)

set_option linter.unusedVariables false
open Go.Proofs.YtihdijkplmfhfaaGreatDoor.Eachn
open Go.Proofs.YtihdijkplmfhfaaGreatDoor.Conf (At load_at few_of own_of)

theorem is_zone {w W : World} {B : Nat} {D : Array Value} {c : Cg} (h : Is w D c) (ha : At W B D) : W.rangeAt B 13 (zc c.z).toList := by
  obtain ⟨u, v, rfl, _, _⟩ := h
  exact Conf.cc_zone c u v ha

theorem is_cells {w : World} {D : Array Value} {c : Cg} (h : Is w D c) : D[13]? = some (.int .i64 c.z.b) ∧ D[35]? = some (.bool c.ab) := by
  obtain ⟨u, v, rfl, _, _⟩ := h
  exact ⟨rfl, rfl⟩

/-- The ways of a span. -/
def Ways (c : Cg) (x : Wn) (d F T M P : Int) (B : Bool) (E : Int) : Prop :=
  (E ≠ 0 ∧ F = 0 ∧ T = 0 ∧ M = 0 ∧ P = 0 ∧ B = false) ∨ (E = 0 ∧ F = 0 ∧ T = 0 ∧ M = 0 ∧ P = 0 ∧ B = false) ∨
  (E = 0 ∧ x.k = 4 ∧ M = x.m ∧ P = x.p ∧ B = true ∧ F < T ∧ 1000 < T - F ∧ T - F < 7200 ∧ 0 ≤ F ∧ T ≤ 6000000000) ∨
  (E = 0 ∧ x.k ≠ 4 ∧ M = x.m ∧ P = x.p ∧ B = true ∧ T = F + x.l ∧ 1 ≤ x.l ∧ x.l ≤ 10080 ∧ 0 ≤ F ∧ T ≤ 6000000000 ∧ wE c.z d x.u = 0 ∧ wV c.z d x.u = F)

theorem ways (c : Cg) (x : Wn) (d : Int) : Ways c x d (pF c x d) (pT c x d) (pM c x d) (pP c x d) (pB c x d) (pE c x d) := by
  unfold Ways
  cases hb : pB c x d
  · have z : pF c x d = 0 ∧ pT c x d = 0 ∧ pM c x d = 0 ∧ pP c x d = 0 := by unfold pF pT pM pP; rw [hb]; simp
    by_cases h : pE c x d = 0
    · exact .inr (.inl ⟨h, z.1, z.2.1, z.2.2.1, z.2.2.2, rfl⟩)
    · exact .inl ⟨h, z.1, z.2.1, z.2.2.1, z.2.2.2, rfl⟩
  · have h := ((pB_iff c x d).1 hb).1
    have z : pF c x d = fr c x d ∧ pT c x d = tt c x d ∧ pM c x d = x.m ∧ pP c x d = x.p := by unfold pF pT pM pP; rw [hb]; simp
    obtain ⟨z1, z2, z3, z4⟩ := z
    obtain ⟨a, b, d0, d1⟩ := (pE_ok c x d).1 h
    obtain ⟨hz, hs⟩ := ce_parts c a
    have hz' := hz
    unfold May at hz'
    by_cases hk : x.k = 4
    · obtain ⟨q, hr, _, q0, q1, _, _, s, e, s0, s1, e0, e1, u0, u1, l0, l1, f, t⟩ := rest_span c x d hb hk
      refine .inr (.inr (.inl ⟨h, hk, z3, z4, rfl, ?_, ?_, ?_, ?_, ?_⟩)) <;> omega
    · have hw := (Conf.wo_iff x).1 b
      have ht : 0 ≤ x.u ∧ x.u ≤ 1439 ∧ 1 ≤ x.l ∧ x.l ≤ 10080 := (Conf.tmB_iff x).1 (by rcases hw with ⟨_, h | h | h | h⟩ <;> first | exact h.2.1 | (exfalso; omega))
      have f : fr c x d = mv c.z (d * 1440 + x.u) := by unfold fr; rw [if_neg hk]
      have t : tt c x d = fr c x d + x.l := by unfold tt fr; rw [if_neg hk, if_neg hk]
      have bd := mv_bd c.z hz (d * 1440 + x.u) (by omega) (by omega)
      have hwE : wE c.z d x.u = 0 := (wE_ok _ _ _).2 ⟨hz, d0, d1, ht.1, ht.2.1⟩
      refine .inr (.inr (.inr ⟨h, hk, z3, z4, rfl, by rw [z1, z2, t], ht.2.2.1, ht.2.2.2, by rw [z1, f]; omega, by rw [z2, t, f]; omega, hwE, ?_⟩))
      rw [z1, f]; unfold wV; rw [if_pos hwE]

def LV (D : Array Value) (c : Cg) (x : Wn) (d F T M P : Int) (B : Bool) (E0 : Int) : Nat → Value → World → Prop
  | 0, v, _ => v = .agg D
  | 1, v, W => ∃ E B, v = .agg E ∧ Conf.Own W B E c
  | 2, v, _ => v = .agg (wc x).toArray
  | 3, v, _ => v = .int .i64 d
  | 4, v, _ => v = .tuple #[.agg #[.int .i64 F, .int .i64 T, .int .i64 M, .int .i64 P], .bool B, .int .i64 E0]
  | 5, v, _ => v = .tuple #[.agg #[.int .i64 F, .int .i64 T, .int .i64 M, .int .i64 P], .bool B, .int .i64 E0]
  | 6, v, _ => v = .agg #[.int .i64 F, .int .i64 T, .int .i64 M, .int .i64 P]
  | 7, v, _ => v = .bool B
  | 8, v, _ => v = .int .i64 E0
  | 11, v, _ => v = .bool B
  | 12, v, _ => v = .int .i64 E0
  | _, _, _ => True

theorem LV.later (D : Array Value) (c : Cg) (x : Wn) (d F T M P : Int) (B : Bool) (E0 : Int) (i : Nat) (v : Value) (W W' : World) (h : LV D c x d F T M P B E0 i v W) (g : Later W W') : LV D c x d F T M P B E0 i v W' := by
  unfold LV at *
  split at h <;> try exact h
  · exact (let ⟨E, b, e, k⟩ := h; ⟨E, b, e, k.later g⟩)
theorem LV.out (D : Array Value) (c : Cg) (x : Wn) (d F T M P : Int) (B : Bool) (E0 : Int) (i : Nat) (v : Value) (W W' : World) (g : Nat) (cs : Array Value) (h : LV D c x d F T M P B E0 i v W) (r : RA W g cs 56) (n : Nb cs) (o : Out g W W') : LV D c x d F T M P B E0 i v W' := by
  unfold LV at *
  split at h <;> try exact h
  · exact (let ⟨E, b, e, k⟩ := h; ⟨E, b, e, own_out k r o⟩)

end Go.Proofs.YtihdijkplmfhfaaGreatDoor.Window
