/-
  The document's answer for layer 4: how many days a month has, which date may be, a date's number and a number's date. Conditions: as each theorem says.
-/
import Derived.Test.YtdoahnkjkbpdaaaDy
import Derived.Test.YtdoahnkjkbpdaaaRefLen
namespace Go.Proofs.Ytdoahnkjkbpdaaa.Hebrew
open Go.ChangeShapes Go.WideShapes Go.ChangeAt Go.RowKit
open Go.Proofs.Ytdoahnkjkbpdaaa.Divs Go.Proofs.Ytdoahnkjkbpdaaa.Grow Go.Proofs.Ytdoahnkjkbpdaaa.Mol
open Go.Proofs.Ytdoahnkjkbpdaaa.Year (lh mh pt md mp p1 p2 po dl ny yl)
open Go.Proofs.Ytdoahnkjkbpdaaa.Heb (hd ha ups)

/-- The days of month m of year h, whatever h. -/
def rd (h m : Int) : Int := if h < 3762 ∨ 9999 < h then 0 else hd (yl h) (lh h) m

theorem rd_no (h m : Int) (hb : h < 3762 ∨ 9999 < h) : rd h m = 0 := by unfold rd; rw [if_pos hb]
theorem rd_yes (h m : Int) (h1 : 3762 ≤ h) (h2 : h ≤ 9999) : rd h m = hd (yl h) (lh h) m := by unfold rd; rw [if_neg (by omega)]
theorem rd_bd (h m : Int) : 0 ≤ rd h m ∧ rd h m ≤ 30 := by
  have := Heb.hd_bd (yl h) (lh h) m
  unfold rd
  split <;> omega
theorem rd_in (h m : Int) (hp : 0 < rd h m) : 3762 ≤ h ∧ h ≤ 9999 ∧ 1 ≤ m ∧ m ≤ 13 := by
  by_cases hb : h < 3762 ∨ 9999 < h
  · rw [rd_no h m hb] at hp; omega
  · rw [rd_yes h m (by omega) (by omega)] at hp
    have := Heb.hd_month _ _ _ hp
    omega

theorem days_any (h m : Int) (w : World) : Calls Try.prog 54 #[.int .i64 h, .int .i64 m] w fun e w' => e = .returned (.int .i64 (rd h m)) ∧ Later w w' := by
  by_cases hb : h < 3762 ∨ 9999 < h
  · rw [rd_no h m hb]; exact days_no h m w hb
  · rw [rd_yes h m (by omega) (by omega)]; exact days_yes h m w (by omega) (by omega)

theorem rdays_no (h m : Int) (w : World) (hb : h < 3762 ∨ 9999 < h) : Calls Try.prog 48 #[.int .i64 h, .int .i64 m] w fun e w' => e = .returned (.int .i64 0) ∧ Later w w' := by
  have N := Lib.hid (fun W => same_g (may_no h W hb))
  clear hb
  go_enter Try.func48, Try.ntmps48
  go_wp2_with fail
  refine (N.out _).mono ?_
  rintro e w1 ⟨rfl, hg1⟩
  go_wp2_with fail
  go_ret
  exact ⟨rfl, hg1⟩

theorem rdays_out (h m : Int) (w : World) (h1 : 3762 ≤ h) (h2 : h ≤ 9999) (hb : m < 1 ∨ 13 < m) : Calls Try.prog 48 #[.int .i64 h, .int .i64 m] w fun e w' => e = .returned (.int .i64 0) ∧ Later w w' := by
  have Y := Lib.hid (fun W => same_g (may_yes h W h1 h2))
  by_cases hm : m < 1
  · clear hb
    go_enter Try.func48, Try.ntmps48
    go_wp2_with fail
    refine (Y.out _).mono ?_
    rintro e w1 ⟨rfl, hg1⟩
    go_wp2_with fail
    go_ret
    exact ⟨rfl, hg1⟩
  · have hm2 : 13 < m := by omega
    clear hb
    go_enter Try.func48, Try.ntmps48
    go_wp2_with fail
    refine (Y.out _).mono ?_
    rintro e w1 ⟨rfl, hg1⟩
    go_wp2_with fail
    go_ret
    exact ⟨rfl, hg1⟩

set_option maxHeartbeats 2000000 in
theorem rdays_in (h m : Int) (w : World) (h1 : 3762 ≤ h) (h2 : h ≤ 9999) (m1 : 1 ≤ m) (m2 : m ≤ 13) : Calls Try.prog 48 #[.int .i64 h, .int .i64 m] w fun e w' => e = .returned (.int .i64 (hd (yl h) (lh h) m)) ∧ Later w w' := by
  have Y := Lib.hid (fun W => same_g (may_yes h W h1 h2))
  have L := Lib.hid (fun W => rlen_any h W (by omega) h2)
  have B := Lib.hid (fun W => drew_g (rleap_any h W (by omega) (by omega)))
  have hl := Heb.yl_bd h
  have hm : (yl h).tmod 10 = yl h % 10 := Int.tmod_eq_emod_of_nonneg (by omega)
  clear h1 h2
  rcases Heb.months_all m m1 m2 with rfl | rfl | rfl | rfl | rfl | rfl | rfl | rfl | rfl | rfl | rfl | rfl | rfl <;> clear m1 m2
  · go_enter Try.func48, Try.ntmps48
    go_wp2_with fail
    refine (Y.out _).mono ?_
    rintro e w1 ⟨rfl, hg1⟩
    go_wp2_with fail
    refine (L.out _).mono ?_
    rintro e w2 ⟨rfl, hg2⟩
    go_wp2_with fail
    refine (B.out _).mono ?_
    rintro e w3 ⟨rfl, hg3⟩
    go_wp2_with fail
    go_ret
    exact ⟨ret1 (by simp [hd]), gtrans hg1 (gtrans hg2 hg3)⟩
  · by_cases hx : yl h % 10 = 5
    · have t : (yl h % 10 == 5) = true := beq_iff_eq.2 hx
      have HS := Lib.hid hx
      clear hx
      go_enter Try.func48, Try.ntmps48
      go_wp2_with fail
      refine (Y.out _).mono ?_
      rintro e w1 ⟨rfl, hg1⟩
      go_wp2_with fail
      refine (L.out _).mono ?_
      rintro e w2 ⟨rfl, hg2⟩
      go_wp2_with fail
      go_ret
      exact ⟨ret1 (by simp [hd, HS.out]), gtrans hg1 hg2⟩
    · have t : (yl h % 10 == 5) = false := by simpa using hx
      have HS := Lib.hid hx
      clear hx
      go_enter Try.func48, Try.ntmps48
      go_wp2_with fail
      refine (Y.out _).mono ?_
      rintro e w1 ⟨rfl, hg1⟩
      go_wp2_with fail
      refine (L.out _).mono ?_
      rintro e w2 ⟨rfl, hg2⟩
      go_wp2_with fail
      refine (B.out _).mono ?_
      rintro e w3 ⟨rfl, hg3⟩
      go_wp2_with fail
      go_ret
      exact ⟨ret1 (by simp [hd, HS.out]), gtrans hg1 (gtrans hg2 hg3)⟩
  · by_cases hx : yl h % 10 = 3
    · have t : (yl h % 10 == 3) = true := beq_iff_eq.2 hx
      have HS := Lib.hid hx
      clear hx
      go_enter Try.func48, Try.ntmps48
      go_wp2_with fail
      refine (Y.out _).mono ?_
      rintro e w1 ⟨rfl, hg1⟩
      go_wp2_with fail
      refine (L.out _).mono ?_
      rintro e w2 ⟨rfl, hg2⟩
      go_wp2_with fail
      go_ret
      exact ⟨ret1 (by simp [hd, HS.out]), gtrans hg1 hg2⟩
    · have t : (yl h % 10 == 3) = false := by simpa using hx
      have HS := Lib.hid hx
      clear hx
      go_enter Try.func48, Try.ntmps48
      go_wp2_with fail
      refine (Y.out _).mono ?_
      rintro e w1 ⟨rfl, hg1⟩
      go_wp2_with fail
      refine (L.out _).mono ?_
      rintro e w2 ⟨rfl, hg2⟩
      go_wp2_with fail
      refine (B.out _).mono ?_
      rintro e w3 ⟨rfl, hg3⟩
      go_wp2_with fail
      go_ret
      exact ⟨ret1 (by simp [hd, HS.out]), gtrans hg1 (gtrans hg2 hg3)⟩
  · go_enter Try.func48, Try.ntmps48
    go_wp2_with fail
    refine (Y.out _).mono ?_
    rintro e w1 ⟨rfl, hg1⟩
    go_wp2_with fail
    refine (L.out _).mono ?_
    rintro e w2 ⟨rfl, hg2⟩
    go_wp2_with fail
    refine (B.out _).mono ?_
    rintro e w3 ⟨rfl, hg3⟩
    go_wp2_with fail
    go_ret
    exact ⟨ret1 (by simp [hd]), gtrans hg1 (gtrans hg2 hg3)⟩
  · go_enter Try.func48, Try.ntmps48
    go_wp2_with fail
    refine (Y.out _).mono ?_
    rintro e w1 ⟨rfl, hg1⟩
    go_wp2_with fail
    refine (L.out _).mono ?_
    rintro e w2 ⟨rfl, hg2⟩
    go_wp2_with fail
    refine (B.out _).mono ?_
    rintro e w3 ⟨rfl, hg3⟩
    go_wp2_with fail
    go_ret
    exact ⟨ret1 (by simp [hd]), gtrans hg1 (gtrans hg2 hg3)⟩
  · cases hb : lh h with
    | true =>
      rw [hb] at B
      clear hb
      go_enter Try.func48, Try.ntmps48
      go_wp2_with fail
      refine (Y.out _).mono ?_
      rintro e w1 ⟨rfl, hg1⟩
      go_wp2_with fail
      refine (L.out _).mono ?_
      rintro e w2 ⟨rfl, hg2⟩
      go_wp2_with fail
      refine (B.out _).mono ?_
      rintro e w3 ⟨rfl, hg3⟩
      go_wp2_with fail
      go_ret
      exact ⟨ret1 (by simp [hd]), gtrans hg1 (gtrans hg2 hg3)⟩
    | false =>
      rw [hb] at B
      clear hb
      go_enter Try.func48, Try.ntmps48
      go_wp2_with fail
      refine (Y.out _).mono ?_
      rintro e w1 ⟨rfl, hg1⟩
      go_wp2_with fail
      refine (L.out _).mono ?_
      rintro e w2 ⟨rfl, hg2⟩
      go_wp2_with fail
      refine (B.out _).mono ?_
      rintro e w3 ⟨rfl, hg3⟩
      go_wp2_with fail
      go_ret
      exact ⟨ret1 (by simp [hd]), gtrans hg1 (gtrans hg2 hg3)⟩
  · go_enter Try.func48, Try.ntmps48
    go_wp2_with fail
    refine (Y.out _).mono ?_
    rintro e w1 ⟨rfl, hg1⟩
    go_wp2_with fail
    refine (L.out _).mono ?_
    rintro e w2 ⟨rfl, hg2⟩
    go_wp2_with fail
    refine (B.out _).mono ?_
    rintro e w3 ⟨rfl, hg3⟩
    go_wp2_with fail
    go_ret
    exact ⟨ret1 (by simp [hd]), gtrans hg1 (gtrans hg2 hg3)⟩
  · go_enter Try.func48, Try.ntmps48
    go_wp2_with fail
    refine (Y.out _).mono ?_
    rintro e w1 ⟨rfl, hg1⟩
    go_wp2_with fail
    refine (L.out _).mono ?_
    rintro e w2 ⟨rfl, hg2⟩
    go_wp2_with fail
    refine (B.out _).mono ?_
    rintro e w3 ⟨rfl, hg3⟩
    go_wp2_with fail
    go_ret
    exact ⟨ret1 (by simp [hd]), gtrans hg1 (gtrans hg2 hg3)⟩
  · go_enter Try.func48, Try.ntmps48
    go_wp2_with fail
    refine (Y.out _).mono ?_
    rintro e w1 ⟨rfl, hg1⟩
    go_wp2_with fail
    refine (L.out _).mono ?_
    rintro e w2 ⟨rfl, hg2⟩
    go_wp2_with fail
    refine (B.out _).mono ?_
    rintro e w3 ⟨rfl, hg3⟩
    go_wp2_with fail
    go_ret
    exact ⟨ret1 (by simp [hd]), gtrans hg1 (gtrans hg2 hg3)⟩
  · go_enter Try.func48, Try.ntmps48
    go_wp2_with fail
    refine (Y.out _).mono ?_
    rintro e w1 ⟨rfl, hg1⟩
    go_wp2_with fail
    refine (L.out _).mono ?_
    rintro e w2 ⟨rfl, hg2⟩
    go_wp2_with fail
    refine (B.out _).mono ?_
    rintro e w3 ⟨rfl, hg3⟩
    go_wp2_with fail
    go_ret
    exact ⟨ret1 (by simp [hd]), gtrans hg1 (gtrans hg2 hg3)⟩
  · go_enter Try.func48, Try.ntmps48
    go_wp2_with fail
    refine (Y.out _).mono ?_
    rintro e w1 ⟨rfl, hg1⟩
    go_wp2_with fail
    refine (L.out _).mono ?_
    rintro e w2 ⟨rfl, hg2⟩
    go_wp2_with fail
    refine (B.out _).mono ?_
    rintro e w3 ⟨rfl, hg3⟩
    go_wp2_with fail
    go_ret
    exact ⟨ret1 (by simp [hd]), gtrans hg1 (gtrans hg2 hg3)⟩
  · go_enter Try.func48, Try.ntmps48
    go_wp2_with fail
    refine (Y.out _).mono ?_
    rintro e w1 ⟨rfl, hg1⟩
    go_wp2_with fail
    refine (L.out _).mono ?_
    rintro e w2 ⟨rfl, hg2⟩
    go_wp2_with fail
    refine (B.out _).mono ?_
    rintro e w3 ⟨rfl, hg3⟩
    go_wp2_with fail
    go_ret
    exact ⟨ret1 (by simp [hd]), gtrans hg1 (gtrans hg2 hg3)⟩
  · go_enter Try.func48, Try.ntmps48
    go_wp2_with fail
    refine (Y.out _).mono ?_
    rintro e w1 ⟨rfl, hg1⟩
    go_wp2_with fail
    refine (L.out _).mono ?_
    rintro e w2 ⟨rfl, hg2⟩
    go_wp2_with fail
    refine (B.out _).mono ?_
    rintro e w3 ⟨rfl, hg3⟩
    go_wp2_with fail
    go_ret
    exact ⟨ret1 (by simp [hd]), gtrans hg1 (gtrans hg2 hg3)⟩

theorem rdays_any (h m : Int) (w : World) : Calls Try.prog 48 #[.int .i64 h, .int .i64 m] w fun e w' => e = .returned (.int .i64 (rd h m)) ∧ Later w w' := by
  by_cases hb : h < 3762 ∨ 9999 < h
  · rw [rd_no h m hb]; exact rdays_no h m w hb
  · rw [rd_yes h m (by omega) (by omega)]
    by_cases hm : m < 1 ∨ 13 < m
    · rw [Heb.hd_out _ _ m hm]; exact rdays_out h m w (by omega) (by omega) hm
    · exact rdays_in h m w (by omega) (by omega) (by omega) (by omega)

end Go.Proofs.Ytdoahnkjkbpdaaa.Hebrew
