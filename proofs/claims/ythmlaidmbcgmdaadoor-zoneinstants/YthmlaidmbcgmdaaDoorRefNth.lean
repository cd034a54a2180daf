/-
  What Nth answers, of the program and of the document: one and the same number, and one and the same error. Conditions: the numbers are ints, the table of months lies where the program lays it.
-/
import Derived.Test.YthmlaidmbcgmdaaDoorRefDay
namespace Go.Proofs.YthmlaidmbcgmdaaDoor.Greg
open Go.ChangeShapes Go.WideShapes Go.ChangeAt Go.RowKit
open Go.Proofs.YthmlaidmbcgmdaaDoor.Divs Go.Proofs.YthmlaidmbcgmdaaDoor.Grow
open Go.Proofs.YthmlaidmbcgmdaaDoor.Cal (lp ln tab dm ya ma dn yr mo om od)

/-- The number of a month's first day. -/
def fst (y m : Int) : Int := ya y + ma y m + 1

/-- Nth's number, and its error. -/
def nthV (y m v k : Int) : Int :=
  if dm y m = 0 ∨ v < 0 ∨ 6 < v ∨ (¬ k = -1 ∧ (k < 1 ∨ 5 < k)) then 0
  else if k = -1 then fo (fst y m + dm y m - 7) v
  else if fo (fst y m) v + (k - 1) * 7 ≤ fst y m + dm y m - 1 then fo (fst y m) v + (k - 1) * 7 else 0
def nthE (y m v k : Int) : Int :=
  if dm y m = 0 then 20 else if v < 0 ∨ 6 < v ∨ (¬ k = -1 ∧ (k < 1 ∨ 5 < k)) then 22
  else if k = -1 then 0
  else if fo (fst y m) v + (k - 1) * 7 ≤ fst y m + dm y m - 1 then 0 else 22

theorem ret2' {a b c d : Int} (h1 : a = c) (h2 : b = d) : Ending.returned (.tuple #[.int .i64 a, .int .i64 b]) = .returned (.tuple #[.int .i64 c, .int .i64 d]) := by rw [h1, h2]

theorem nth_all (y m v k : Int) (w : World) (hL : Laid w) : Calls Tryd.prog 22 #[.int .i64 y, .int .i64 m, .int .i64 v, .int .i64 k] w fun e w' => e = .returned (.tuple #[.int .i64 (nthV y m v k), .int .i64 (nthE y m v k)]) ∧ Later w w' := by
  by_cases h : dm y m = 0
  · refine (nth_date y m v k w h hL).mono fun e w' ⟨he, hg⟩ => ⟨he.trans ?_, hg⟩
    exact ret2' (by unfold nthV; rw [if_pos (Or.inl h)]) (by unfold nthE; rw [if_pos h])
  by_cases hb : v < 0 ∨ 6 < v ∨ (¬ k = -1 ∧ (k < 1 ∨ 5 < k))
  · refine (nth_bad y m v k w h hL hb).mono fun e w' ⟨he, hg⟩ => ⟨he.trans ?_, hg⟩
    exact ret2' (by unfold nthV; rw [if_pos (Or.inr hb)]) (by unfold nthE; rw [if_neg h, if_pos hb])
  obtain ⟨h1, h2, h3, h4⟩ := Cal.dm_some y m h
  have hn : ¬ (dm y m = 0 ∨ v < 0 ∨ 6 < v ∨ (¬ k = -1 ∧ (k < 1 ∨ 5 < k))) := by omega
  by_cases hk : k = -1
  · subst hk
    refine (nth_last y m v w hL h1 h2 h3 h4 (by omega) (by omega)).mono fun e w' ⟨he, hg⟩ => ⟨he.trans ?_, hg⟩
    exact ret2' (by unfold nthV; rw [if_neg hn, if_pos rfl]; congr 1; unfold fst; omega) (by unfold nthE; rw [if_neg h, if_neg hb, if_pos rfl])
  by_cases hs : fo (fst y m) v + (k - 1) * 7 ≤ fst y m + dm y m - 1
  · refine (nth_some y m v k w hL h1 h2 h3 h4 (by omega) (by omega) (by omega) (by omega) hs).mono fun e w' ⟨he, hg⟩ => ⟨he.trans ?_, hg⟩
    exact ret2' (by unfold nthV; rw [if_neg hn, if_neg hk, if_pos hs]; rfl) (by unfold nthE; rw [if_neg h, if_neg hb, if_neg hk, if_pos hs])
  · refine (nth_none y m v k w hL h1 h2 h3 h4 (by omega) (by omega) (by omega) (by omega) (by unfold fst at hs; omega)).mono fun e w' ⟨he, hg⟩ => ⟨he.trans ?_, hg⟩
    exact ret2' (by unfold nthV; rw [if_neg hn, if_neg hk, if_neg hs]) (by unfold nthE; rw [if_neg h, if_neg hb, if_neg hk, if_neg hs])

theorem rnth_date (y m v k : Int) (w : World) (h : dm y m = 0) : Calls Tryd.prog 43 #[.int .i64 y, .int .i64 m, .int .i64 v, .int .i64 k] w fun e w' => e = .returned (.tuple #[.int .i64 0, .int .i64 20]) ∧ Later w w' := by
  have t : (dm y m == 0) = true := by rw [h]; rfl
  clear h
  go_enter Tryd.func43, Tryd.ntmps43
  go_wp2_with fail
  refine (rdays_any _ _ _).mono ?_
  rintro e w' ⟨rfl, rfl⟩
  go_wp2_with fail
  go_ret2
  exact ⟨rfl, Later.refl _⟩

theorem rnth_bad (y m v k : Int) (w : World) (h : ¬ dm y m = 0) (hb : v < 0 ∨ 6 < v ∨ (¬ k = -1 ∧ (k < 1 ∨ 5 < k))) : Calls Tryd.prog 43 #[.int .i64 y, .int .i64 m, .int .i64 v, .int .i64 k] w fun e w' => e = .returned (.tuple #[.int .i64 0, .int .i64 22]) ∧ Later w w' := by
  have t : (dm y m == 0) = false := beq_eq_false_iff_ne.2 h
  clear h
  by_cases h1 : v < 0
  · clear hb
    go_enter Tryd.func43, Tryd.ntmps43
    go_wp2_with fail
    refine (rdays_any _ _ _).mono ?_
    rintro e w' ⟨rfl, rfl⟩
    go_wp2_with fail
    go_ret2
    exact ⟨rfl, Later.refl _⟩
  by_cases h2 : 6 < v
  · clear hb
    go_enter Tryd.func43, Tryd.ntmps43
    go_wp2_with fail
    refine (rdays_any _ _ _).mono ?_
    rintro e w' ⟨rfl, rfl⟩
    go_wp2_with fail
    go_ret2
    exact ⟨rfl, Later.refl _⟩
  have h3 : ¬ k = -1 ∧ (k < 1 ∨ 5 < k) := by omega
  clear hb
  have u : (k != -1) = true := bne_iff_ne.2 h3.1
  by_cases h4 : k < 1
  · clear h3
    go_enter Tryd.func43, Tryd.ntmps43
    go_wp2_with fail
    refine (rdays_any _ _ _).mono ?_
    rintro e w' ⟨rfl, rfl⟩
    go_wp2_with fail
    go_ret2
    exact ⟨rfl, Later.refl _⟩
  have h5 : 5 < k := by omega
  clear h3
  go_enter Tryd.func43, Tryd.ntmps43
  go_wp2_with fail
  refine (rdays_any _ _ _).mono ?_
  rintro e w' ⟨rfl, rfl⟩
  go_wp2_with fail
  go_ret2
  exact ⟨rfl, Later.refl _⟩

/-- The last one met so far. -/
def lst (f g c : Int) : Int := if c = 0 then 0 else f + g + (c - 1) * 7

/-- The loop's relation: c of the weekday have been met among the first j days. -/
def WRel (f g t k : Int) (met last i : Value) : Prop := ∃ j c : Int, 0 ≤ j ∧ j ≤ t ∧ 7 * c ≤ j - g + 6 ∧ j - g + 6 < 7 * c + 7 ∧ (k = -1 ∨ c < k) ∧ i = .int .i64 j ∧ met = .int .i64 c ∧ last = .int .i64 (lst f g c)

/-- What the search comes to. -/
def seekV (f g t k : Int) : Int := if k = -1 then lst f g ((t - g + 6) / 7) else if g + (k - 1) * 7 < t then f + g + (k - 1) * 7 else 0
def seekE (g t k : Int) : Int := if k = -1 then 0 else if g + (k - 1) * 7 < t then 0 else 22

set_option maxHeartbeats 2000000 in
theorem rnth_core (y m v k f g t : Int) (w : World) (HT : Hid (∀ W, Calls Tryd.prog 42 #[.int .i64 y, .int .i64 m] W fun e w' => e = .returned (.int .i64 t) ∧ W = w'))
    (HR : Hid (∀ W, Calls Tryd.prog 51 #[.agg #[.int .i64 y, .int .i64 m, .int .i64 1]] W fun e w' => e = .returned (.int .i64 f) ∧ Later W w'))
    (t0 : 28 ≤ t) (t1 : t ≤ 31) (f0 : 1 ≤ f) (f1 : f ≤ 3652059) (g0 : 0 ≤ g) (g1 : g ≤ 6) (v0 : 0 ≤ v) (v1 : v < 7) (HG : Hid ((f + g) % 7 = v)) (hk : k = -1 ∨ (1 ≤ k ∧ k ≤ 5)) :
    Calls Tryd.prog 43 #[.int .i64 y, .int .i64 m, .int .i64 v, .int .i64 k] w fun e w' => e = .returned (.tuple #[.int .i64 (seekV f g t k), .int .i64 (seekE g t k)]) ∧ Later w w' := by
  have q0 : (t == 0) = false := beq_eq_false_iff_ne.2 (by omega)
  by_cases hk1 : k = -1
  · have u : (k == -1) = true := by rw [hk1]; rfl
    have u' : (k != -1) = false := by rw [hk1]; rfl
    have hkm : k < 0 := by omega
    have HK := Lib.hid hk1
    clear hk hk1
    go_enter Tryd.func43, Tryd.ntmps43
    go_wp2_with fail
    refine (HT.out _).mono ?_
    rintro e w' ⟨rfl, rfl⟩
    go_wp2_with fail
    refine (HR.out _).mono ?_
    rintro e w1 ⟨rfl, hg1⟩
    go_wp2_with fail
    go_loop [11, 12, 13] (fun met last i => WRel f g t k met last i) (fun _ _ i => (31 - intOf i).toNat)
    case atStart => exact ⟨0, 0, by omega, by omega, by omega, by omega, Or.inl HK.out, rfl, rfl, by unfold lst; simp⟩
    case round =>
      obtain ⟨j, c, j0, j1, c0, c1, ck, rfl, rfl, rfl⟩ := hrel
      clear ck
      by_cases hlt : j < t
      · by_cases hw : (f + j) % 7 = v
        · have hw1 : ((f + j) % 7 != v) = false := by rw [hw]; simp
          have hj : j = g + 7 * c := by have := HG.out; omega
          have e1 : (c + 1 == k) = false := beq_eq_false_iff_ne.2 (by omega)
          have HL : Hid (f + j = lst f g (c + 1)) := by
            have : f + j = lst f g (c + 1) := by unfold lst; rw [if_neg (by omega)]; omega
            exact this
          have hc2 : c ≤ 5 := by omega
          clear hw
          have HJ := Lib.hid hj
          clear hj
          go_wp2_with (first
            | (go_at_call 42; refine (HT.out _).mono ?_; rintro e w' ⟨rfl, rfl⟩)
            | (go_at_call 52; refine (rweekday_any _ _ (by omega) (by omega)).mono ?_; rintro e w' ⟨rfl, rfl⟩))
          go_round
          case rel => exact ⟨j + 1, c + 1, by omega, by omega, by have := HJ.out; omega, by have := HJ.out; omega, Or.inl HK.out, rfl, rfl, by rw [HL.out]⟩
          case measure => simp [intOf]; omega
        · have hw1 : ((f + j) % 7 != v) = true := bne_iff_ne.2 hw
          have hj : ¬ j = g + 7 * c := by have := HG.out; omega
          have HJ := Lib.hid hj
          clear hj hw
          go_wp2_with (first
            | (go_at_call 42; refine (HT.out _).mono ?_; rintro e w' ⟨rfl, rfl⟩)
            | (go_at_call 52; refine (rweekday_any _ _ (by omega) (by omega)).mono ?_; rintro e w' ⟨rfl, rfl⟩))
          go_round
          case rel => exact ⟨j + 1, c, by omega, by omega, by omega, by have := HJ.out; omega, Or.inl HK.out, rfl, rfl, rfl⟩
          case measure => simp [intOf]; omega
      · obtain rfl : j = t := by omega
        have HV : Hid (lst f g c = seekV f g j k) := by
          have : lst f g c = seekV f g j k := by unfold seekV; rw [if_pos HK.out, show (j - g + 6) / 7 = c from by omega]
          exact this
        have HE : Hid ((0 : Int) = seekE g j k) := by
          have : (0 : Int) = seekE g j k := by unfold seekE; rw [if_pos HK.out]
          exact this
        go_wp2_with (first
          | (go_at_call 42; refine (HT.out _).mono ?_; rintro e w' ⟨rfl, rfl⟩)
          | (go_at_call 52; refine (rweekday_any _ _ (by omega) (by omega)).mono ?_; rintro e w' ⟨rfl, rfl⟩))
        go_ret2
        exact ⟨ret2' HV.out HE.out, hg1⟩
  · have k1 : 1 ≤ k := by omega
    have k2 : k ≤ 5 := by omega
    have u : (k == -1) = false := beq_eq_false_iff_ne.2 hk1
    have u' : (k != -1) = true := bne_iff_ne.2 hk1
    have HK := Lib.hid hk1
    clear hk hk1
    go_enter Tryd.func43, Tryd.ntmps43
    go_wp2_with fail
    refine (HT.out _).mono ?_
    rintro e w' ⟨rfl, rfl⟩
    go_wp2_with fail
    refine (HR.out _).mono ?_
    rintro e w1 ⟨rfl, hg1⟩
    go_wp2_with fail
    go_loop [11, 12, 13] (fun met last i => WRel f g t k met last i) (fun _ _ i => (31 - intOf i).toNat)
    case atStart => exact ⟨0, 0, by omega, by omega, by omega, by omega, Or.inr (by omega), rfl, rfl, by unfold lst; simp⟩
    case round =>
      obtain ⟨j, c, j0, j1, c0, c1, ck, rfl, rfl, rfl⟩ := hrel
      have ck' : c < k := by omega
      clear ck
      by_cases hlt : j < t
      · by_cases hw : (f + j) % 7 = v
        · have hw1 : ((f + j) % 7 != v) = false := by rw [hw]; simp
          have hj : j = g + 7 * c := by have := HG.out; omega
          have HL : Hid (f + j = lst f g (c + 1)) := by
            have : f + j = lst f g (c + 1) := by unfold lst; rw [if_neg (by omega)]; omega
            exact this
          have hc2 : c ≤ 5 := by omega
          clear hw
          by_cases hck : c + 1 = k
          · have e1 : (c + 1 == k) = true := by rw [hck]; simp
            have HV : Hid (f + j = seekV f g t k) := by
              have : f + j = seekV f g t k := by unfold seekV; rw [if_neg HK.out, if_pos (by omega)]; omega
              exact this
            have HE : Hid ((0 : Int) = seekE g t k) := by
              have : (0 : Int) = seekE g t k := by unfold seekE; rw [if_neg HK.out, if_pos (by omega)]
              exact this
            clear hj hck
            go_wp2_with (first
              | (go_at_call 42; refine (HT.out _).mono ?_; rintro e w' ⟨rfl, rfl⟩)
              | (go_at_call 52; refine (rweekday_any _ _ (by omega) (by omega)).mono ?_; rintro e w' ⟨rfl, rfl⟩))
            go_ret2
            exact ⟨ret2' HV.out HE.out, hg1⟩
          · have e1 : (c + 1 == k) = false := beq_eq_false_iff_ne.2 hck
            have hck' : c + 1 < k := by omega
            have HJ := Lib.hid hj
            clear hj hck
            go_wp2_with (first
              | (go_at_call 42; refine (HT.out _).mono ?_; rintro e w' ⟨rfl, rfl⟩)
              | (go_at_call 52; refine (rweekday_any _ _ (by omega) (by omega)).mono ?_; rintro e w' ⟨rfl, rfl⟩))
            go_round
            case rel => exact ⟨j + 1, c + 1, by omega, by omega, by have := HJ.out; omega, by have := HJ.out; omega, Or.inr hck', rfl, rfl, by rw [HL.out]⟩
            case measure => simp [intOf]; omega
        · have hw1 : ((f + j) % 7 != v) = true := bne_iff_ne.2 hw
          have hj : ¬ j = g + 7 * c := by have := HG.out; omega
          have HJ := Lib.hid hj
          clear hj hw
          go_wp2_with (first
            | (go_at_call 42; refine (HT.out _).mono ?_; rintro e w' ⟨rfl, rfl⟩)
            | (go_at_call 52; refine (rweekday_any _ _ (by omega) (by omega)).mono ?_; rintro e w' ⟨rfl, rfl⟩))
          go_round
          case rel => exact ⟨j + 1, c, by omega, by omega, by omega, by have := HJ.out; omega, Or.inr ck', rfl, rfl, rfl⟩
          case measure => simp [intOf]; omega
      · obtain rfl : j = t := by omega
        have HV : Hid ((0 : Int) = seekV f g j k) := by
          have : (0 : Int) = seekV f g j k := by unfold seekV; rw [if_neg HK.out, if_neg (by omega)]
          exact this
        have HE : Hid ((22 : Int) = seekE g j k) := by
          have : (22 : Int) = seekE g j k := by unfold seekE; rw [if_neg HK.out, if_neg (by omega)]
          exact this
        go_wp2_with (first
          | (go_at_call 42; refine (HT.out _).mono ?_; rintro e w' ⟨rfl, rfl⟩)
          | (go_at_call 52; refine (rweekday_any _ _ (by omega) (by omega)).mono ?_; rintro e w' ⟨rfl, rfl⟩))
        go_ret2
        exact ⟨ret2' HV.out HE.out, hg1⟩

theorem rnth_all (y m v k : Int) (w : World) : Calls Tryd.prog 43 #[.int .i64 y, .int .i64 m, .int .i64 v, .int .i64 k] w fun e w' => e = .returned (.tuple #[.int .i64 (nthV y m v k), .int .i64 (nthE y m v k)]) ∧ Later w w' := by
  by_cases h : dm y m = 0
  · refine (rnth_date y m v k w h).mono fun e w' ⟨he, hg⟩ => ⟨he.trans ?_, hg⟩
    exact ret2' (by unfold nthV; rw [if_pos (Or.inl h)]) (by unfold nthE; rw [if_pos h])
  by_cases hb : v < 0 ∨ 6 < v ∨ (¬ k = -1 ∧ (k < 1 ∨ 5 < k))
  · refine (rnth_bad y m v k w h hb).mono fun e w' ⟨he, hg⟩ => ⟨he.trans ?_, hg⟩
    exact ret2' (by unfold nthV; rw [if_pos (Or.inr hb)]) (by unfold nthE; rw [if_neg h, if_pos hb])
  obtain ⟨h1, h2, h3, h4⟩ := Cal.dm_some y m h
  have hn : ¬ (dm y m = 0 ∨ v < 0 ∨ 6 < v ∨ (¬ k = -1 ∧ (k < 1 ∨ 5 < k))) := by omega
  have hd := Cal.dm_bd y m h1 h2 h3 h4
  have hf := Cal.dn_bd y m 1 h1 h2 h3 h4 (by omega) (by omega)
  have hfe : dn y m 1 = fst y m := rfl
  rw [hfe] at hf
  have hb1 := fo_bd (fst y m) v (by omega) (by omega)
  have hb2 := fo_bd (fst y m + dm y m - 7) v (by omega) (by omega)
  have hR := fun W => rday_any y m 1 W h1 h2 h3 h4 (by omega) (by omega)
  rw [hfe] at hR
  have core := rnth_core y m v k (fst y m) (fo (fst y m) v - fst y m) (dm y m) w (Lib.hid fun W => rdays_any y m W) (Lib.hid hR) hd.1 hd.2 hf.2.2.1 hf.2.2.2 (by omega) (by omega) (by omega) (by omega)
    (Lib.hid (by rw [show fst y m + (fo (fst y m) v - fst y m) = fo (fst y m) v from by omega]; exact hb1.2.2)) (by omega)
  refine core.mono fun e w' ⟨he, hg⟩ => ⟨he.trans (ret2' ?_ ?_), hg⟩
  · unfold seekV nthV
    rw [if_neg hn]
    by_cases hk : k = -1
    · rw [if_pos hk, if_pos hk]
      unfold lst
      rw [if_neg (by omega)]
      omega
    · rw [if_neg hk, if_neg hk]
      by_cases hs : fo (fst y m) v + (k - 1) * 7 ≤ fst y m + dm y m - 1
      · rw [if_pos hs, if_pos (by omega)]; omega
      · rw [if_neg hs, if_neg (by omega)]
  · unfold seekE nthE
    rw [if_neg h, if_neg hb]
    by_cases hk : k = -1
    · rw [if_pos hk, if_pos hk]
    · rw [if_neg hk, if_neg hk]
      by_cases hs : fo (fst y m) v + (k - 1) * 7 ≤ fst y m + dm y m - 1
      · rw [if_pos hs, if_pos (by omega)]
      · rw [if_neg hs, if_neg (by omega)]

end Go.Proofs.YthmlaidmbcgmdaaDoor.Greg
