/-
  The document's answers on sunsets: which tables may be, the minute of a day, its instant. Conditions: where the minute is asked, the table may be and the day has a date.
-/
import Derived.Test.YthbgllbbliijlaaSk
import Derived.Test.YthbgllbbliijlaaZr
namespace Go.Proofs.Ythbgllbbliijlaa.Sun
open Go.ChangeShapes Go.WideShapes Go.ChangeAt Go.RowKit
open Go.Proofs.Ythbgllbbliijlaa.Divs Go.Proofs.Ythbgllbbliijlaa.Grow Go.Proofs.Ythbgllbbliijlaa.Zone
open Go.Proofs.Ythbgllbbliijlaa.Zo Go.Proofs.Ythbgllbbliijlaa.Su

def ERel (s : Nat → Int) (w : World) (i : Value) (wr : World) : Prop := ∃ k : Nat, k ≤ 12 ∧ i = .int .i64 (k : Int) ∧ (∀ j, j < k → 900 ≤ s j ∧ s j ≤ 1320) ∧ Later w wr

def FRel (s : Nat → Int) (w : World) (i : Value) (wr : World) : Prop := ∃ k : Nat, k ≤ 12 ∧ i = .int .i64 (k : Int) ∧ (∀ j, j < k → -120 ≤ s ((j + 1) % 12) - s j ∧ s ((j + 1) % 12) - s j ≤ 120) ∧ Later w wr

set_option maxHeartbeats 1000000 in
theorem rcheck_tab (s : Nat → Int) (w : World) : Calls Try.prog 27 #[.agg (sc s)] w fun e w' => e = .returned (.int .i64 (sk s)) ∧ Later w w' := by
  have HN := Lib.hid (Sat.new w s)
  have HG := Lib.hid ((Later.refl w).alloc (sc s) 30)
  unfold sc at *
  go_enter Try.func27, Try.ntmps27
  go_wp2
  go_loopw [3] (fun i wr => ERel s (w.alloc (.cells #[.int .i64 (s 0), .int .i64 (s 1), .int .i64 (s 2), .int .i64 (s 3), .int .i64 (s 4), .int .i64 (s 5), .int .i64 (s 6), .int .i64 (s 7), .int .i64 (s 8), .int .i64 (s 9), .int .i64 (s 10), .int .i64 (s 11)] 30)) i wr) (fun i _ => 12 - (intOf i).toNat)
  case atStart => exact ⟨0, by omega, rfl, by omega, Later.refl _⟩
  case round =>
    obtain ⟨k, hk, rfl, hj, hg⟩ := hrel
    have HGR := Lib.hid hg
    clear hg
    by_cases hlt : k < 12
    · have c := HN.out.later HGR.out k hlt
      by_cases h1 : s k < 900
      · have HV := Lib.hid (sk_m s k hlt (by omega))
        clear hj
        go_wp2
        go_ret
        exact ⟨reti HV.out.symm, gtrans HG.out HGR.out⟩
      by_cases h2 : s k > 1320
      · have HV := Lib.hid (sk_m s k hlt (by omega))
        clear hj
        go_wp2
        go_ret
        exact ⟨reti HV.out.symm, gtrans HG.out HGR.out⟩
      have HJ : Hid (∀ j, j < k + 1 → 900 ≤ s j ∧ s j ≤ 1320) := Lib.hid (fun j h => by
        by_cases e : j = k
        · rw [e]; omega
        · exact hj j (by omega))
      clear hj
      go_wp2
      go_roundw
      case rel => exact ⟨k + 1, by omega, by go_num, HJ.out, HGR.out⟩
      case measure => simp [intOf]; omega
    · obtain rfl : k = 12 := by omega
      have HM : Hid (okM s) := Lib.hid hj
      clear hj hlt hk
      go_wp2
      go_loopw [4] (fun i w2 => FRel s wr i w2) (fun i _ => 12 - (intOf i).toNat)
      case atStart => exact ⟨0, by omega, rfl, by omega, Later.refl _⟩
      case round =>
        obtain ⟨k, hk, rfl, hj, hg⟩ := hrel
        have HG2 := Lib.hid (gtrans HGR.out hg)
        have HG3 := Lib.hid hg
        clear hg
        by_cases hlt : k < 12
        · have b0 := HM.out k hlt
          have b1 := HM.out ((k + 1) % 12) (by omega)
          have c0 := HN.out.later HG2.out k hlt
          obtain ⟨j, hjd⟩ : ∃ j, j = (k + 1) % 12 := ⟨_, rfl⟩
          have j12 : j < 12 := by omega
          have c1 := HN.out.later HG2.out j j12
          have HJD := Lib.hid hjd
          have e1 : IntKind.i64.wrap ((k : Int) + 1) = (k : Int) + 1 := IntWalk.i64_in _ (by omega)
          have e2 : ((k : Int) + 1).tmod 12 = (j : Int) := by rw [Int.tmod_eq_emod_of_nonneg (by omega)]; omega
          have e3 : IntKind.i64.wrap (s j - s k) = s j - s k := by rw [hjd]; exact IntWalk.i64_in _ (by omega)
          clear hjd b0 b1
          go_wp2
          go_quiet (fail)
          clear c0 c1 e1 e2 e3
          have hjd := HJD.out
          subst hjd
          generalize hx : s ((k + 1) % 12) - s k = x at *
          by_cases h1 : x > 120
          · have HV := Lib.hid (sk_s s k hlt HM.out (by omega))
            clear hj
            go_wp2
            go_ret
            exact ⟨reti HV.out.symm, gtrans HG.out HG2.out⟩
          by_cases h2 : x < -120
          · have HV := Lib.hid (sk_s s k hlt HM.out (by omega))
            clear hj
            go_wp2
            go_ret
            exact ⟨reti HV.out.symm, gtrans HG.out HG2.out⟩
          have HJ : Hid (∀ j, j < k + 1 → -120 ≤ s ((j + 1) % 12) - s j ∧ s ((j + 1) % 12) - s j ≤ 120) := Lib.hid (fun j h => by
            by_cases e : j = k
            · rw [e]; omega
            · exact hj j (by omega))
          clear hj
          go_wp2
          go_roundw
          case rel => exact ⟨k + 1, by omega, by go_num, HJ.out, HG3.out⟩
          case measure => simp [intOf]; omega
        · obtain rfl : k = 12 := by omega
          have HV := Lib.hid ((sk_ok s).2 ⟨HM.out, hj⟩)
          clear hj hlt hk
          go_wp2
          go_ret
          exact ⟨reti HV.out.symm, gtrans HG.out HG2.out⟩

end Go.Proofs.Ythbgllbbliijlaa.Sun
