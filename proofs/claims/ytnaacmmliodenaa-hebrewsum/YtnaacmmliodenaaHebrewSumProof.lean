/-
  The statement HebrewSum: for any int that is a year that is reckoned, the year's months have as many days as the year, 29 or 30 each, twelve of them or, of a leap year, thirteen; of others no month has days. Conditions: none.
-/
import Derived.Test.YtnaacmmliodenaaRows
import Derived.WalkKit
import Derived.ProofKit
import Derived.OpenShut
import Derived.Test.YtnaacmmliodenaaRo
import Derived.ShutString
namespace Go.Proofs.Ytnaacmmliodenaa.hebrewSum
open Go.ChangeShapes Go.WideShapes Go.ChangeAt Go.RowKit
open Go.ChangeMaps (open_string shut_string)
open Go.Proofs.Ytnaacmmliodenaa.Divs Go.Proofs.Ytnaacmmliodenaa.Grow Go.Proofs.Ytnaacmmliodenaa.Mol Go.Proofs.Ytnaacmmliodenaa.Hebrew
open Go.Proofs.Ytnaacmmliodenaa.Year (lh mh pt md mp p1 p2 po dl ny yl)
open Go.Proofs.Ytnaacmmliodenaa.Heb (hd ha ups)
set_option linter.unusedVariables false

theorem own : ownKnob Try.prog.godebug = none := by kernel_rfl

/-- How many of the months below k have days. -/
def mc (b : Bool) (k : Int) : Int := if k ≤ 1 then 0 else if k ≤ 6 then k - 1 else if k ≤ 14 then (if b = true then k - 1 else k - 2) else (if b = true then 13 else 12)

theorem mc_bd (b : Bool) (k : Int) : 0 ≤ mc b k ∧ mc b k ≤ 13 := by
  unfold mc
  repeat' split
  all_goals omega

theorem all_step (l : Int) (b : Bool) (k : Int) (k0 : 0 ≤ k) (k1 : k ≤ 14) : ha l b (k + 1) = ha l b k + hd l b k := by
  by_cases h : 1 ≤ k ∧ k ≤ 13
  · exact Heb.ha_step l b k h.1 h.2
  · rw [Heb.hd_out l b k (by omega)]
    obtain rfl | rfl : k = 0 ∨ k = 14 := by omega
    · simp [ha]
    · simp [ha]

theorem mc_none (l : Int) (b : Bool) (k : Int) (k0 : 0 ≤ k) (k1 : k ≤ 14) (h : hd l b k = 0) : mc b (k + 1) = mc b k := by
  by_cases c : 1 ≤ k ∧ k ≤ 13
  · obtain ⟨rfl, rfl⟩ := Heb.hd_zero l b k c.1 c.2 h
    rfl
  · obtain rfl | rfl : k = 0 ∨ k = 14 := by omega
    · rfl
    · cases b <;> rfl

theorem mc_one (l : Int) (b : Bool) (k : Int) (h : 0 < hd l b k) : mc b (k + 1) = mc b k + 1 := by
  obtain ⟨c1, c2⟩ := Heb.hd_month l b k h
  have h6 : k = 6 → b = true := by
    rintro rfl
    cases b with
    | true => rfl
    | false => have := (Heb.hd_six l).1; omega
  rcases Heb.months_all k c1 c2 with rfl | rfl | rfl | rfl | rfl | rfl | rfl | rfl | rfl | rfl | rfl | rfl | rfl <;> first | (obtain rfl := h6 rfl; rfl) | (clear h6; cases b <;> rfl)

def HRel (h : Int) (w : World) (x y z : Value) (wr : World) : Prop :=
  ∃ k : Int, 0 ≤ k ∧ k ≤ 15 ∧ x = .int .i64 (ha (yl h) (lh h) k) ∧ y = .int .i64 (mc (lh h) k) ∧ z = .int .i64 k ∧ Later w wr

def NRel (w : World) (x y z : Value) (wr : World) : Prop :=
  ∃ k : Int, 0 ≤ k ∧ k ≤ 15 ∧ x = .int .i64 0 ∧ y = .int .i64 0 ∧ z = .int .i64 k ∧ Later w wr

set_option maxHeartbeats 1000000 in
theorem walk (a0 : Int) (w0 : (Lit.int .i64 a0).wf = true) (w : World) :
    Calls Try.prog 7 #[.int .i64 a0] w fun e w' => e = .returned (.bool true) ∧ Later w w' := by
  have AW := Lib.hid awake_any
  obtain ⟨ha0, ha1⟩ := bounds_i64 w0
  clear w0
  by_cases hb : a0 < 3762 ∨ 9999 < a0
  · have D := Lib.hid (fun k W => days_no a0 k W hb)
    have N3 := Lib.hid (fun W => same_g (len_no a0 W hb))
    have N4 := Lib.hid (fun W => same_g (may_no a0 W hb))
    clear hb
    go_enter Try.func7, Try.ntmps7
    go_wp2_with fail
    go_loopw [3, 4, 5] (fun x y z wr => NRel w x y z wr) (fun _ _ z _ => (20 - intOf z).toNat)
    case atStart => exact ⟨0, by omega, by omega, rfl, rfl, rfl, Later.refl w⟩
    case round =>
      obtain ⟨k, k0, k1, rfl, rfl, rfl, hg⟩ := hrel
      by_cases hlt : k ≤ 14
      · have k5 := D.out k
        go_wp2_with fail
        refine (k5 _).mono ?_
        rintro e w1 ⟨rfl, hg1⟩
        clear k5
        go_wp2_with fail
        go_roundw
        case rel => exact ⟨k + 1, by omega, by omega, rfl, rfl, rfl, gtrans hg hg1⟩
        case measure => simp [intOf]; omega
      · have hge : ¬ k ≤ 14 := hlt
        go_wp2_with fail
        refine (N3.out _).mono ?_
        rintro e w1 ⟨rfl, hg1⟩
        go_wp2_with fail
        refine (AW.out _).mono ?_
        rintro e w2 ⟨rfl, hg2⟩
        go_wp2_with fail
        refine (N4.out _).mono ?_
        rintro e w3 ⟨rfl, hg3⟩
        go_wp2_with fail
        go_ret
        exact ⟨rfl, gtrans hg (gtrans hg1 (gtrans hg2 hg3))⟩
  · have h1 : 3762 ≤ a0 := by omega
    have h2 : a0 ≤ 9999 := by omega
    clear hb
    have D := Lib.hid (fun k W => days_yes a0 k W h1 h2)
    have K3 := Lib.hid (fun W => len_yes a0 W h1 h2)
    have B := Lib.hid (fun W => drew_g (leap_any a0 W ha0 ha1))
    go_enter Try.func7, Try.ntmps7
    go_wp2_with fail
    go_loopw [3, 4, 5] (fun x y z wr => HRel a0 w x y z wr) (fun _ _ z _ => (20 - intOf z).toNat)
    case atStart => exact ⟨0, by omega, by omega, by simp [ha], by simp [mc], rfl, Later.refl w⟩
    case round =>
      obtain ⟨k, k0, k1, rfl, rfl, rfl, hg⟩ := hrel
      have b1 := Heb.ha_bd (yl a0) (lh a0) k
      have b2 := mc_bd (lh a0) k
      by_cases hlt : k ≤ 14
      · have HS := Lib.hid (all_step (yl a0) (lh a0) k k0 hlt)
        have b3 := Heb.hd_bd (yl a0) (lh a0) k
        rcases Heb.hd_range (yl a0) (lh a0) k with hr | hr | hr
        · have HM := Lib.hid (mc_none (yl a0) (lh a0) k k0 hlt hr)
          have HR := Lib.hid hr
          have k5 := D.out k
          rw [hr] at k5 b3
          have K5 := Lib.hid k5
          clear k5 hr
          go_wp2_with fail
          refine (K5.out _).mono ?_
          rintro e w1 ⟨rfl, hg1⟩
          go_wp2_with fail
          go_roundw
          case rel => exact ⟨k + 1, by omega, by omega, by rw [HS.out, HR.out]; simp, by rw [HM.out], rfl, gtrans hg hg1⟩
          case measure => simp [intOf]; omega
        · have HM := Lib.hid (mc_one (yl a0) (lh a0) k (by omega))
          have HR := Lib.hid hr
          have k5 := D.out k
          rw [hr] at k5 b3
          have K5 := Lib.hid k5
          clear k5 hr
          go_wp2_with fail
          refine (K5.out _).mono ?_
          rintro e w1 ⟨rfl, hg1⟩
          go_wp2_with fail
          go_roundw
          case rel => exact ⟨k + 1, by omega, by omega, by rw [HS.out, HR.out], by rw [HM.out], rfl, gtrans hg hg1⟩
          case measure => simp [intOf]; omega
        · have HM := Lib.hid (mc_one (yl a0) (lh a0) k (by omega))
          have HR := Lib.hid hr
          have k5 := D.out k
          rw [hr] at k5 b3
          have K5 := Lib.hid k5
          clear k5 hr
          go_wp2_with fail
          refine (K5.out _).mono ?_
          rintro e w1 ⟨rfl, hg1⟩
          go_wp2_with fail
          go_roundw
          case rel => exact ⟨k + 1, by omega, by omega, by rw [HS.out, HR.out], by rw [HM.out], rfl, gtrans hg hg1⟩
          case measure => simp [intOf]; omega
      · obtain rfl : k = 15 := by omega
        have e15 : ha (yl a0) (lh a0) 15 = yl a0 := by
          have := all_step (yl a0) (lh a0) 14 (by omega) (by omega)
          rw [Heb.hd_out _ _ 14 (by omega), Heb.ha_all] at this
          simpa using this
        rw [e15]
        clear e15 b1
        cases hl : lh a0 with
        | true =>
          rw [hl] at B
          clear hl
          rw [show mc true 15 = 13 from rfl]
          go_wp2_with fail
          refine (K3.out _).mono ?_
          rintro e w1 ⟨rfl, hg1⟩
          go_wp2_with fail
          refine (AW.out _).mono ?_
          rintro e w2 ⟨rfl, hg2⟩
          go_wp2_with fail
          refine (B.out _).mono ?_
          rintro e w3 ⟨rfl, hg3⟩
          go_wp2_with fail
          go_ret
          exact ⟨rfl, gtrans hg (gtrans hg1 (gtrans hg2 hg3))⟩
        | false =>
          rw [hl] at B
          clear hl
          rw [show mc false 15 = 12 from rfl]
          go_wp2_with fail
          refine (K3.out _).mono ?_
          rintro e w1 ⟨rfl, hg1⟩
          go_wp2_with fail
          refine (AW.out _).mono ?_
          rintro e w2 ⟨rfl, hg2⟩
          go_wp2_with fail
          refine (B.out _).mono ?_
          rintro e w3 ⟨rfl, hg3⟩
          go_wp2_with fail
          go_ret
          exact ⟨rfl, gtrans hg (gtrans hg1 (gtrans hg2 hg3))⟩

set_option maxRecDepth 100000 in
theorem lifted (os : Os) (started : os.Started) (H : Type) (enc : TypeId × Value → H) :
    ReturnsInHanded {} Try.checked os 7 .any (Rows.hebrewSumSpec.pre6 enc Try.prog Try.f7 Rows.hebrewSumRow.domain false) (Rows.hebrewSumSpec.post enc Try.prog Try.f7 false true false false) := by
  refine returnsInHanded_of_change (C := Try.checked) own started (by kernel_rfl) Try.func7
    (ChangeSpec.witness6 (enc := enc) (C := Try.checked) false ⟨#[], #[.int .i64 0], []⟩ 8 (by kernel_rfl) (by kernel_rfl) (by kernel_rfl) (by kernel_rfl)) ?_
  intro W base args ds gs before hval0 hW hcnd _
  have hval : ∀ (j : Nat) t v, Try.f7.params[j]? = some t → args[j]? = some v → Value.okWide Try.prog W .any base t v := hval0
  have hW' := hW
  obtain ⟨p, q, hA0, hV, rfl, hfz, hnd⟩ := hW
  have hA : DataW.TrodAll enc Try.prog W 0 (fun _ => true) true Try.f7.params.toList args.toList ds p := hA0
  rw [Try.params7] at hA hval
  obtain ⟨v0, vs0, d0, ds0, p0, q0, hargs, rfl, rfl, h0, r0⟩ := trodAll_cons hA
  obtain ⟨rfl, rfl, rfl⟩ := trodAll_nil r0
  obtain rfl : args = #[v0] := by cases args; simp_all
  obtain ⟨rfl, rfl⟩ := trodVars_none hV
  obtain ⟨a0, rfl, rfl, rfl, w0⟩ := open_int Try.underlying3 (hval 0 3 v0 rfl rfl) h0
  clear hA0 hval0
  simp only [List.append_nil] at hW'
  refine (walk a0 w0 W).mono fun e W' ⟨he, hg⟩ => ?_
  subst he
  exact ⟨_, rfl, post_bare hW' (fun _ _ _ => (trodAll_cons_mk (shut_bool Try.underlying4 _) trodAll_mk0)) (fun sp => (trodAll_cons_mk (shut_int Try.underlying3 w0) trodAll_mk0)) (fun _ => rfl) hg
    (ok_one (by kernel_rfl) rfl (okWide_bool_mk Try.underlying4 _))⟩

theorem over : Rows.hebrewSumRow.holds Try.pinned (OpenSpec.ofChange Rows.hebrewSumSpec) :=
  OpenClaim.holds_of_wide 7 Try.f7 rfl rfl rfl rfl rfl rfl rfl ⟨rfl, rfl, rfl, rfl, rfl⟩ rfl rfl rfl rfl rfl (by kernel_rfl) Try.func7 (by kernel_rfl)
    (of_decide_eq_true (by kernel_rfl)) (by unfold Func.isWrapper; first | (rw [if_pos (by decide +kernel)]; kernel_rfl) | (rw [if_neg (by decide +kernel)]; exact ⟨rfl, rfl⟩))
    (fun os started H enc _ => lifted os started H enc)

/-- The statement. -/
theorem proved : Rows.HebrewSumSaid :=
  over
#print axioms proved
end Go.Proofs.Ytnaacmmliodenaa.hebrewSum
