/-
  The days of a Hebrew year, as the program goes through them: what its iterator hands to a loop, whatever the loop's body does, so long as the body goes on. Conditions: the year is from 3762 to 9999.
-/
import Derived.Test.YtdoahnkjkbpdaaaFr
namespace Go.Proofs.Ytdoahnkjkbpdaaa.Feast
open Go.ChangeShapes Go.WideShapes Go.ChangeAt Go.RowKit Go.Shelf
open Go.Proofs.Ytdoahnkjkbpdaaa.Divs Go.Proofs.Ytdoahnkjkbpdaaa.Grow Go.Proofs.Ytdoahnkjkbpdaaa.Mol Go.Proofs.Ytdoahnkjkbpdaaa.Hebrew
open Go.Proofs.Ytdoahnkjkbpdaaa.Year (lh mh pt md mp p1 p2 po dl ny yl)
open Go.Proofs.Ytdoahnkjkbpdaaa.Heb (hd ha ups)
open Go.Proofs.Ytdoahnkjkbpdaaa.Fe

attribute [local go_sem] Oper.semAt_some

theorem daysof_any (h f : Int) (w : World) :
    Calls Try.prog 31 #[.int .i64 h, .int .i64 f] w fun e w' => e = .returned (.func (.func 53) #[] #[.pointer (some ⟨w.heap.size + 1, 0, none⟩), .pointer (some ⟨w.heap.size, 0, none⟩)]) ∧ w' = (w.alloc (.cells #[.int .i64 h] 3)).alloc (.cells #[.int .i64 f] 3) := by
  go_enter Try.func31, Try.ntmps31
  go_wp2
  go_ret
  exact ⟨rfl, rfl⟩

set_option maxRecDepth 100000 in
set_option maxHeartbeats 4000000 in
theorem daysof1_in (n : Nat) (hn : 1 ≤ n) (h : Int) (h1 : 3762 ≤ h) (h2 : h ≤ 9999) (lo B C : Nat) (J : Nat → World → Prop) (W : World)
    (hJ : ∀ k W W', J k W → Later W W' → J k W')
    (hc : ∀ k W, J k W → W.cell? ⟨C, 0, none⟩ = some (.int .i64 h))
    (hf : W.cell? ⟨B, 0, none⟩ = some (.int .i64 (ny h)))
    (hY : ∀ (k : Nat) (m d : Int) W, J k W → Dt (ny h + k) h m d → YieldAt Fence.wide (n - 1) Try.prog lo #[.int .i64 (ny h + k), .agg #[.int .i64 h, .int .i64 m, .int .i64 d]] W fun e W' => e = .returned (.bool true) ∧ J (k + 1) W')
    (h0 : J 0 W) :
    CallsIn Fence.wide n Try.prog 53 #[.func (.yield lo) #[] #[], .pointer (some ⟨B, 0, none⟩), .pointer (some ⟨C, 0, none⟩)] W fun e W' => (∃ v, e = .returned v) ∧ J (yl h).toNat W' := by
  have HJ := Lib.hid hJ
  have HC := Lib.hid hc
  have HY := Lib.hid hY
  have H0 := Lib.hid h0
  clear hJ hc hY h0
  have D := Lib.hid (fun m W => days_yes h m W h1 h2)
  have nb := Year.ny_bd h (by omega) (by omega)
  refine callsIn_of_wp Try.func53 rfl trivial ?_ rfl
  simp only [Try.ntmps53, List.size_toArray, List.length_cons, List.length_nil, Nat.reduceAdd, Nat.reduceSub, Array.replicate_succ, Array.replicate_zero, List.push_toArray, List.append_toArray, List.nil_append, List.cons_append]
  gi_wp2
  gi_loopw [5, 4] (fun i x wr => ∃ m : Int, 1 ≤ m ∧ m ≤ 14 ∧ i = .int .i64 m ∧ x = .int .i64 (ny h + ha (yl h) (lh h) m) ∧ J (ha (yl h) (lh h) m).toNat wr) (fun i _ _ => (20 - intOf i).toNat)
  case atStart => exact ⟨1, by omega, by omega, rfl, by rw [Heb.ha_one]; simp, by rw [Heb.ha_one]; exact H0.out⟩
  case round =>
    obtain ⟨m, m1, m2, rfl, rfl, hJs⟩ := hrel
    by_cases hlt : m ≤ 13
    · have c1 := HC.out _ _ hJs
      have HS := Lib.hid hJs
      have ab := Heb.ha_bd (yl h) (lh h) m
      clear hJs
      gi_wp2_with (refine ⟨trivial, ?_⟩; gi_at_call 54; refine (callsIn_wide.2 (D.out _ _)).mono ?_; rintro e w1 ⟨rfl, hg1⟩; have HS1 := Lib.hid (HJ.out _ _ _ HS.out hg1); clear hg1 c1)
      have hb := Heb.hd_bd (yl h) (lh h) m
      have HST := Lib.hid (Heb.ha_step (yl h) (lh h) m m1 hlt)
      gi_loopw [15, 4] (fun i x wr => ∃ j : Int, 0 ≤ j ∧ j ≤ hd (yl h) (lh h) m ∧ i = .int .i64 j ∧ x = .int .i64 (ny h + ha (yl h) (lh h) m + j) ∧ J (ha (yl h) (lh h) m + j).toNat wr) (fun i _ _ => (40 - intOf i).toNat)
      case atStart => exact ⟨0, by omega, by omega, rfl, by simp, by simpa using HS1.out⟩
      case round =>
        obtain ⟨j, j1, j2, rfl, rfl, hJj⟩ := hrel
        by_cases hlj : j < hd (yl h) (lh h) m
        · obtain ⟨k, hk⟩ : ∃ k : Nat, (k : Int) = ha (yl h) (lh h) m + j := ⟨(ha (yl h) (lh h) m + j).toNat, by omega⟩
          rw [show (ha (yl h) (lh h) m + j).toNat = k by omega] at hJj
          have c1 := HC.out _ _ hJj
          have Y := HY.out k m (j + 1) _ hJj ⟨h1, h2, m1, hlt, by omega, by omega, by omega⟩
          rw [show ny h + (k : Int) = ny h + ha (yl h) (lh h) m + j by omega] at Y
          obtain ⟨fn, tmps, assign, body, hy, hR⟩ := Y
          have HKK := Lib.hid hk
          clear hJj hk
          gi_wp2
          refine hR.mono ?_
          rintro e W3 ⟨rfl, hJ3⟩
          gi_wp2
          go_roundw
          case rel => exact ⟨j + 1, by omega, by omega, rfl, by congr 1; omega, by rw [show (ha (yl h) (lh h) m + (j + 1)).toNat = k + 1 by have := HKK.out; omega]; exact hJ3⟩
          case measure => simp [intOf]; omega
        · obtain rfl : j = hd (yl h) (lh h) m := by omega
          have HJ2 := Lib.hid hJj
          clear hJj
          gi_wp2
          go_roundw
          case rel => exact ⟨m + 1, by omega, by omega, rfl, by rw [HST.out]; congr 1; omega, by rw [HST.out]; exact HJ2.out⟩
          case measure => simp [intOf]; omega
    · obtain rfl : m = 14 := by omega
      gi_wp2
      go_end0
      exact ⟨⟨_, rfl⟩, by rw [Heb.ha_all] at hJs; exact hJs⟩

end Go.Proofs.Ytdoahnkjkbpdaaa.Feast
