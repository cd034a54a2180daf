/-
  The statement DivsFirst: for any three ints Next either refuses (a divisor below 1, a rest outside, or above the greatest int, with 0 beside it), or its number has that rest, is not below a, less than one turn away, and from itself on it is itself. Conditions: none.
-/
import Derived.Test.YtekgbdakafmbhaaRows
import Derived.WalkKit
import Derived.ProofKit
import Derived.OpenShut
import Derived.Test.YtekgbdakafmbhaaRefNext
import Derived.ShutString
namespace Go.Proofs.Ytekgbdakafmbhaa.divsFirst
open Go.ChangeShapes Go.WideShapes Go.ChangeAt Go.RowKit
open Go.ChangeMaps (open_string shut_string)
open Go.Proofs.Ytekgbdakafmbhaa.Divs
set_option linter.unusedVariables false      -- a walk need not use every 'w<i>' (that an integer argument fits its kind)

theorem own : ownKnob Try.prog.godebug = none := by kernel_rfl

theorem gap_facts (a b r : Int) (hb : 1 ≤ b) (hr0 : 0 ≤ r) (hr1 : r < b) :
    0 ≤ gapI a b r ∧ gapI a b r < b ∧ (a + gapI a b r) % b = r ∧ gapI (a + gapI a b r) b r = 0 := by
  have hm0 := Int.emod_nonneg a (show b ≠ 0 by omega)
  have hm1 := Int.emod_lt_of_pos a (show 0 < b by omega)
  have h := Int.mul_ediv_add_emod a b
  have key : (a + gapI a b r) % b = r := by
    unfold gapI
    split
    · have e : a + (r - a % b + b) = r + b * (a / b + 1) := by rw [Int.mul_add]; omega
      rw [e, Int.add_mul_emod_self_left, Int.emod_eq_of_lt hr0 hr1]
    · have e : a + (r - a % b) = r + b * (a / b) := by omega
      rw [e, Int.add_mul_emod_self_left, Int.emod_eq_of_lt hr0 hr1]
  refine ⟨?_, ?_, key, ?_⟩
  · unfold gapI; split <;> omega
  · unfold gapI; split <;> omega
  · generalize a + gapI a b r = n at *
    unfold gapI
    rw [key, if_neg (by omega)]; omega
/-! ### STEP 1: THE WALK: the Go text returns true. 'Grown w w'': the world has at most new blocks (Derived/RowKit3.lean). Part the cases AHEAD of 'go_enter' where a test parts the walk; take each callee by a contract of your own. -/
theorem walk (a0 : Int) (a1 : Int) (a2 : Int) (w0 : (Lit.int .i64 a0).wf = true) (w1 : (Lit.int .i64 a1).wf = true) (w2 : (Lit.int .i64 a2).wf = true) (w : World) :
    Calls Try.prog 8 #[.int .i64 a0, .int .i64 a1, .int .i64 a2] w fun e w' => e = .returned (.bool true) ∧ Grown w w' := by
  obtain ⟨ha0, ha1⟩ := bounds_i64 w0
  obtain ⟨hb0, hb1⟩ := bounds_i64 w1
  clear w0 w1 w2
  by_cases hb : a1 < 1
  · go_enter Try.func8, Try.ntmps8
    go_wp2_with (first
      | (go_at_call 17; refine (next_by _ _ _ _ hb).mono ?_; rintro e w' ⟨rfl, n, rfl⟩)
      | (go_at_call 13; refine (awake_any _).mono ?_; rintro e w' ⟨rfl, n, rfl⟩))
    go_ret
    exact ⟨rfl, grown_drewN _ _⟩
  have hb' : 1 ≤ a1 := by omega
  by_cases hr : a2 < 0
  · have HR : Hid (a2 < 0 ∨ a1 ≤ a2) := show a2 < 0 ∨ a1 ≤ a2 from Or.inl hr
    go_enter Try.func8, Try.ntmps8
    go_wp2_with (first
      | (go_at_call 17; refine (next_rest _ _ _ _ hb' HR.out).mono ?_; rintro e w' ⟨rfl, n, rfl⟩)
      | (go_at_call 13; refine (awake_any _).mono ?_; rintro e w' ⟨rfl, n, rfl⟩))
    go_ret
    exact ⟨rfl, grown_drewN _ _⟩
  by_cases hr' : a1 ≤ a2
  · have HR : Hid (a2 < 0 ∨ a1 ≤ a2) := show a2 < 0 ∨ a1 ≤ a2 from Or.inr hr'
    go_enter Try.func8, Try.ntmps8
    go_wp2_with (first
      | (go_at_call 17; refine (next_rest _ _ _ _ hb' HR.out).mono ?_; rintro e w' ⟨rfl, n, rfl⟩)
      | (go_at_call 13; refine (awake_any _).mono ?_; rintro e w' ⟨rfl, n, rfl⟩))
    go_ret
    exact ⟨rfl, grown_drewN _ _⟩
  have hr0 : 0 ≤ a2 := by omega
  have hr1 : a2 < a1 := by omega
  obtain ⟨f1, f2, f3, f4⟩ := gap_facts a0 a1 a2 hb' hr0 hr1
  by_cases hg : 9223372036854775807 - gapI a0 a1 a2 < a0
  · have HG := Lib.hid hg
    have hp : 0 < a0 := by omega
    clear hg f1 f2 f3 f4
    go_enter Try.func8, Try.ntmps8
    go_wp2_with (first
      | (go_at_call 17; refine (next_great _ _ _ _ ha0 ha1 hb' hb1 hr0 hr1 HG.out).mono ?_; rintro e w' ⟨rfl, n, rfl⟩)
      | (go_at_call 13; refine (awake_any _).mono ?_; rintro e w' ⟨rfl, n, rfl⟩))
    go_ret
    exact ⟨rfl, grown_drewN _ _⟩
  · have hn := fun W => next_yes a0 a1 a2 W ha0 ha1 hb' hb1 hr0 hr1 (by omega)
    have hm := fun W => mod_yes (a0 + gapI a0 a1 a2) a1 W (by omega) (by omega) hb' hb1
    have hk := fun W => next_yes (a0 + gapI a0 a1 a2) a1 a2 W (by omega) (by omega) hb' hb1 hr0 hr1 (by omega)
    rw [f3] at hm
    rw [f4, Int.add_zero] at hk
    have g0 : a0 ≤ a0 + gapI a0 a1 a2 := by omega
    have g1 : a0 + gapI a0 a1 a2 - a0 < a1 := by omega
    have g2 : a0 + gapI a0 a1 a2 ≤ 9223372036854775807 := by omega
    generalize a0 + gapI a0 a1 a2 = g at hn hm hk g0 g1 g2
    have HN := Lib.hid hn
    have HM := Lib.hid hm
    have HK := Lib.hid hk
    clear hn hm hk hg f1 f2 f3 f4
    have t1 : (g == g) = true := by simp
    have t2 : (a2 == a2) = true := by simp
    by_cases hs : a0 < 0
    · go_enter Try.func8, Try.ntmps8
      go_wp2_with fail
      refine (HN.out _).mono ?_
      rintro e w' ⟨rfl, n, rfl⟩
      go_wp2_with fail
      refine (HM.out _).mono ?_
      rintro e w' ⟨rfl, n2, rfl⟩
      go_wp2_with fail
      refine (HK.out _).mono ?_
      rintro e w' ⟨rfl, n3, rfl⟩
      go_wp2_with (go_at_call 13; refine (awake_any _).mono ?_; rintro e w' ⟨rfl, n, rfl⟩)
      go_ret
      exact ⟨rfl, grown_drewN _ _⟩
    · go_enter Try.func8, Try.ntmps8
      go_wp2_with fail
      refine (HN.out _).mono ?_
      rintro e w' ⟨rfl, n, rfl⟩
      go_wp2_with fail
      refine (HM.out _).mono ?_
      rintro e w' ⟨rfl, n2, rfl⟩
      go_wp2_with fail
      refine (HK.out _).mono ?_
      rintro e w' ⟨rfl, n3, rfl⟩
      go_wp2_with (go_at_call 13; refine (awake_any _).mono ?_; rintro e w' ⟨rfl, n, rfl⟩)
      go_ret
      exact ⟨rfl, grown_drewN _ _⟩

/-! ### THE ROW's STEP: WRITTEN OUT: LEAVE IT -/
set_option maxRecDepth 100000 in
theorem lifted (os : Os) (started : os.Started) (H : Type) (enc : TypeId × Value → H) :
    ReturnsInHanded {} Try.checked os 8 .any (Rows.divsFirstSpec.pre6 enc Try.prog Try.f8 Rows.divsFirstRow.domain false) (Rows.divsFirstSpec.post enc Try.prog Try.f8 false true false false) := by
  refine returnsInHanded_of_change (C := Try.checked) own started (by kernel_rfl) Try.func8
    (ChangeSpec.witness6 (enc := enc) (C := Try.checked) false ⟨#[], #[.int .i64 0, .int .i64 0, .int .i64 0], []⟩ 8 (by kernel_rfl) (by kernel_rfl) (by kernel_rfl) (by kernel_rfl)) ?_
  intro W base args ds gs before hval0 hW hcnd _
  have hval : ∀ (j : Nat) t v, Try.f8.params[j]? = some t → args[j]? = some v → Value.okWide Try.prog W .any base t v := hval0
  have hW' := hW
  obtain ⟨p, q, hA0, hV, rfl, hfz, hnd⟩ := hW
  have hA : DataW.TrodAll enc Try.prog W 0 (fun _ => true) true Try.f8.params.toList args.toList ds p := hA0
  rw [Try.params8] at hA hval
  obtain ⟨v0, vs0, d0, ds0, p0, q0, hargs, rfl, rfl, h0, r0⟩ := trodAll_cons hA
  obtain ⟨v1, vs1, d1, ds1, p1, q1, rfl, rfl, rfl, h1, r1⟩ := trodAll_cons r0
  obtain ⟨v2, vs2, d2, ds2, p2, q2, rfl, rfl, rfl, h2, r2⟩ := trodAll_cons r1
  obtain ⟨rfl, rfl, rfl⟩ := trodAll_nil r2
  obtain rfl : args = #[v0, v1, v2] := by cases args; simp_all
  obtain ⟨rfl, rfl⟩ := trodVars_none hV
  obtain ⟨a0, rfl, rfl, rfl, w0⟩ := open_int Try.underlying3 (hval 0 3 v0 rfl rfl) h0
  obtain ⟨a1, rfl, rfl, rfl, w1⟩ := open_int Try.underlying3 (hval 1 3 v1 rfl rfl) h1
  obtain ⟨a2, rfl, rfl, rfl, w2⟩ := open_int Try.underlying3 (hval 2 3 v2 rfl rfl) h2
  clear hA0 hval0
  simp only [List.append_nil] at hW'
  refine (walk a0 a1 a2 w0 w1 w2 W).mono fun e W' ⟨he, hg⟩ => ?_
  subst he
  exact ⟨_, rfl, post_of_same (pa := []) (pv := []) hW' (fun _ _ _ => (trodAll_cons_mk (shut_bool Try.underlying4 _) trodAll_mk0)) (fun sp _ => (trodAll_cons_mk (shut_int Try.underlying3 w0) (trodAll_cons_mk (shut_int Try.underlying3 w1) (trodAll_cons_mk (shut_int Try.underlying3 w2) trodAll_mk0)))) (fun _ _ => rfl) rfl
    (hg.frame _) hg.2.1 (ok_one (by kernel_rfl) rfl (okWide_bool_mk Try.underlying4 _))⟩

theorem over : Rows.divsFirstRow.holds Try.pinned (OpenSpec.ofChange Rows.divsFirstSpec) :=
  OpenClaim.holds_of_wide 8 Try.f8 rfl rfl rfl rfl rfl rfl rfl ⟨rfl, rfl, rfl, rfl, rfl⟩ rfl rfl rfl rfl rfl (by kernel_rfl) Try.func8 (by kernel_rfl)
    (of_decide_eq_true (by kernel_rfl)) (by unfold Func.isWrapper; first | (rw [if_pos (by decide +kernel)]; kernel_rfl) | (rw [if_neg (by decide +kernel)]; exact ⟨rfl, rfl⟩))
    (fun os started H enc _ => lifted os started H enc)

/-- ████ THE STATEMENT ████ -/
theorem proved : Rows.DivsFirstSaid :=
  over
#print axioms proved
end Go.Proofs.Ytekgbdakafmbhaa.divsFirst
