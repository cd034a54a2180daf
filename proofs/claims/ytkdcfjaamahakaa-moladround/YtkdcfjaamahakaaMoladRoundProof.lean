/-
  The statement MoladRound: for any int that is a year from 3762 to 9980, 19 years have 235 months, seven of them are leap and no two in a row, and the moon comes 235 months of parts later. Conditions: none.
-/
import Derived.Test.YtkdcfjaamahakaaRows
import Derived.WalkKit
import Derived.ProofKit
import Derived.OpenShut
import Derived.Test.YtkdcfjaamahakaaRefLen
import Derived.ShutString
namespace Go.Proofs.Ytkdcfjaamahakaa.moladRound
open Go.ChangeShapes Go.WideShapes Go.ChangeAt Go.RowKit
open Go.ChangeMaps (open_string shut_string)
open Go.Proofs.Ytkdcfjaamahakaa.Divs Go.Proofs.Ytkdcfjaamahakaa.Grow Go.Proofs.Ytkdcfjaamahakaa.Mol
open Go.Proofs.Ytkdcfjaamahakaa.Year (lh mh pt md mp p1 p2 po dl ny yl)
set_option linter.unusedVariables false

theorem own : ownKnob Try.prog.godebug = none := by kernel_rfl

def lc (h y : Int) : Int := mh y - mh h - 12 * (y - h)

theorem lc_start (h : Int) : lc h h = 0 := by unfold lc; omega
theorem lc_leap (h y : Int) (hl : lh y = true) : lc h (y + 1) = lc h y + 1 := by
  have := Year.mh_leap y hl
  unfold lc
  omega
theorem lc_common (h y : Int) (hl : lh y = false) : lc h (y + 1) = lc h y := by
  have := Year.mh_common y hl
  unfold lc
  omega
theorem lc_end (h : Int) : lc h (h + 19) = 7 := by
  have := Year.mh_round h
  unfold lc
  omega
theorem lc_bd (h y : Int) (h1 : 3762 ≤ h) (h2 : h ≤ 9980) (y1 : h ≤ y) (y2 : y ≤ h + 19) : -10000000 ≤ lc h y ∧ lc h y ≤ 10000000 := by
  have := Year.mh_bd h (by omega) (by omega)
  have := Year.mh_bd y (by omega) (by omega)
  unfold lc
  omega

def LRel (h : Int) (w : World) (n i : Value) (wr : World) : Prop := ∃ k : Int, h ≤ k ∧ k ≤ h + 19 ∧ i = .int .i64 k ∧ n = .int .i64 (lc h k) ∧ Grown w wr

set_option maxHeartbeats 1000000 in
theorem walk (a0 : Int) (w0 : (Lit.int .i64 a0).wf = true) (w : World) :
    Calls Try.prog 7 #[.int .i64 a0] w fun e w' => e = .returned (.bool true) ∧ Grown w w' := by
  obtain ⟨ha0, ha1⟩ := bounds_i64 w0
  clear w0
  have AW := Lib.hid awake_any
  by_cases hb : a0 < 3762 ∨ 9980 < a0
  · by_cases hc : a0 < 3762
    · clear hb
      go_enter Try.func7, Try.ntmps7
      go_wp2_with fail
      refine (AW.out _).mono ?_
      rintro e w1 ⟨rfl, hg1⟩
      go_wp2_with fail
      go_ret
      exact ⟨rfl, hg1⟩
    · have hd : 9980 < a0 := by omega
      clear hb
      go_enter Try.func7, Try.ntmps7
      go_wp2_with fail
      refine (AW.out _).mono ?_
      rintro e w1 ⟨rfl, hg1⟩
      go_wp2_with fail
      go_ret
      exact ⟨rfl, hg1⟩
  · have h1 : 3762 ≤ a0 := by omega
    have h2 : a0 ≤ 9980 := by omega
    clear hb
    have Y1 := Lib.hid (fun W => months_yes a0 W h1 (by omega))
    have Y2 := Lib.hid (fun W => months_yes (a0 + 19) W (by omega) (by omega))
    have Y3 := Lib.hid (fun W => molad_yes a0 W h1 (by omega))
    have Y4 := Lib.hid (fun W => molad_yes (a0 + 19) W (by omega) (by omega))
    have KL := Lib.hid (fun (k : Int) (k1 : 0 ≤ k) (k2 : k ≤ 10000) W => drew_g (leap_any k W (by omega) (by omega)))
    have hm := Year.mh_bd a0 (by omega) (by omega)
    have hd := Year.md_bd a0 (by omega) (by omega)
    have hd2 := Year.md_bd (a0 + 19) (by omega) (by omega)
    have hp := Year.mp_bd a0
    have hp2 := Year.mp_bd (a0 + 19)
    go_enter Try.func7, Try.ntmps7
    go_wp2_with fail
    refine (Y1.out _).mono ?_
    rintro e w1 ⟨rfl, hg1⟩
    go_wp2_with fail
    refine (Y2.out _).mono ?_
    rintro e w2 ⟨rfl, hg2⟩
    go_wp2_with fail
    refine (Y3.out _).mono ?_
    rintro e w3 ⟨rfl, hg3⟩
    go_wp2_with fail
    refine (Y4.out _).mono ?_
    rintro e w4 ⟨rfl, hg4⟩
    go_wp2_with fail
    have hg := gtrans hg1 (gtrans hg2 (gtrans hg3 hg4))
    go_loopw [13, 14] (fun n i wr => LRel a0 w n i wr) (fun _ i _ => (20000 - intOf i).toNat)
    case atStart => exact ⟨a0, by omega, by omega, rfl, by rw [lc_start], hg⟩
    case round =>
      obtain ⟨k, k1, k2, rfl, rfl, hgk⟩ := hrel
      have hl := lc_bd a0 k h1 h2 k1 k2
      by_cases hlt : k < a0 + 19
      · cases hk : lh k with
        | true =>
          have k3 := KL.out k (by omega) (by omega)
          have k4 := KL.out (k + 1) (by omega) (by omega)
          rw [hk] at k3
          rw [Year.lh_apart k hk] at k4
          have K3 := Lib.hid k3
          have K4 := Lib.hid k4
          have HS := Lib.hid (lc_leap a0 k hk)
          clear k3 k4 hk
          go_wp2_with fail
          refine (K3.out _).mono ?_
          rintro e w5 ⟨rfl, hg5⟩
          go_wp2_with fail
          refine (K3.out _).mono ?_
          rintro e w6 ⟨rfl, hg6⟩
          go_wp2_with fail
          refine (K4.out _).mono ?_
          rintro e w7 ⟨rfl, hg7⟩
          go_wp2_with fail
          go_roundw
          case rel => exact ⟨k + 1, by omega, by omega, rfl, by rw [HS.out], gtrans hgk (gtrans hg5 (gtrans hg6 hg7))⟩
          case measure => simp [intOf]; omega
        | false =>
          have k3 := KL.out k (by omega) (by omega)
          rw [hk] at k3
          have K3 := Lib.hid k3
          have HS := Lib.hid (lc_common a0 k hk)
          clear k3 hk
          go_wp2_with fail
          refine (K3.out _).mono ?_
          rintro e w5 ⟨rfl, hg5⟩
          go_wp2_with fail
          refine (K3.out _).mono ?_
          rintro e w6 ⟨rfl, hg6⟩
          go_wp2_with fail
          go_roundw
          case rel => exact ⟨k + 1, by omega, by omega, rfl, by rw [HS.out], gtrans hgk (gtrans hg5 hg6)⟩
          case measure => simp [intOf]; omega
      · obtain rfl : k = a0 + 19 := by omega
        have t1 : (mh (a0 + 19) == mh a0 + 235) = true := beq_iff_eq.2 (Year.mh_round a0)
        have t2 : (lc a0 (a0 + 19) == 7) = true := beq_iff_eq.2 (lc_end a0)
        have t3 : ((md (a0 + 19) - md a0) * 25920 + mp (a0 + 19) - mp a0 == 179876755) = true := beq_iff_eq.2 (Year.round_parts a0)
        clear hl
        go_wp2_with fail
        refine (AW.out _).mono ?_
        rintro e w5 ⟨rfl, hg5⟩
        go_wp2_with fail
        go_ret
        exact ⟨rfl, gtrans hgk hg5⟩

set_option maxRecDepth 100000 in
theorem lifted (os : Os) (started : os.Started) (H : Type) (enc : TypeId × Value → H) :
    ReturnsInHanded {} Try.checked os 7 .any (Rows.moladRoundSpec.pre6 enc Try.prog Try.f7 Rows.moladRoundRow.domain false) (Rows.moladRoundSpec.post enc Try.prog Try.f7 false true false false) := by
  refine returnsInHanded_of_change (C := Try.checked) own started (by kernel_rfl) Try.func7
    (ChangeSpec.witness6 (enc := enc) (C := Try.checked) false ⟨#[], #[.int .i64 0], []⟩ 8 (by kernel_rfl) (by kernel_rfl) (by kernel_rfl) (by kernel_rfl)) ?_
  intro W base args ds gs before hval0 hW hcnd _
  have hval : ∀ (j : Nat) t v, Try.f7.params[j]? = some t → args[j]? = some v → Value.okWide Try.prog W .any base t v := hval0
  have hW' := hW
  obtain ⟨p, q, hA0, hV, rfl, hfz, hnd⟩ := hW
  have hA : DataW.TrodAll enc Try.prog W 0 (fun _ => true) true Try.f7.params.toList args.toList ds p := hA0
  rw [Try.params7] at hA hval
  obtain ⟨v0, vs0, d0, ds0, p0, q0, hargs, rfl, rfl, h0, r0⟩ := trodAll_cons hA
  obtain ⟨rfl, rfl, rfl⟩ := trodAll_nil r0
  obtain rfl : args = #[v0] := by cases args; simp_all
  obtain ⟨rfl, rfl⟩ := trodVars_none hV
  obtain ⟨a0, rfl, rfl, rfl, w0⟩ := open_int Try.underlying3 (hval 0 3 v0 rfl rfl) h0
  clear hA0 hval0
  simp only [List.append_nil] at hW'
  refine (walk a0 w0 W).mono fun e W' ⟨he, hg⟩ => ?_
  subst he
  exact ⟨_, rfl, post_of_same (pa := []) (pv := []) hW' (fun _ _ _ => (trodAll_cons_mk (shut_bool Try.underlying4 _) trodAll_mk0)) (fun sp _ => (trodAll_cons_mk (shut_int Try.underlying3 w0) trodAll_mk0)) (fun _ _ => rfl) rfl
    (hg.frame _) hg.2.1 (ok_one (by kernel_rfl) rfl (okWide_bool_mk Try.underlying4 _))⟩

theorem over : Rows.moladRoundRow.holds Try.pinned (OpenSpec.ofChange Rows.moladRoundSpec) :=
  OpenClaim.holds_of_wide 7 Try.f7 rfl rfl rfl rfl rfl rfl rfl ⟨rfl, rfl, rfl, rfl, rfl⟩ rfl rfl rfl rfl rfl (by kernel_rfl) Try.func7 (by kernel_rfl)
    (of_decide_eq_true (by kernel_rfl)) (by unfold Func.isWrapper; first | (rw [if_pos (by decide +kernel)]; kernel_rfl) | (rw [if_neg (by decide +kernel)]; exact ⟨rfl, rfl⟩))
    (fun os started H enc _ => lifted os started H enc)

/-- The statement. -/
theorem proved : Rows.MoladRoundSaid :=
  over
#print axioms proved
end Go.Proofs.Ytkdcfjaamahakaa.moladRound
