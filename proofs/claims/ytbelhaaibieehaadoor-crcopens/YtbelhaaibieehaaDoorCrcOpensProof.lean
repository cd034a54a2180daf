/-
  Layer 9: what any bytes are, sealed, and opened, is the document's (newellaw09.CrcOpens answers true for every input, and leaves its arguments as they were). Condition: the table of half bytes starts as the program's text lays it, which the card ties.
-/
import Derived.Test.YtbelhaaibieehaaDoorLift
namespace Go.Proofs.YtbelhaaibieehaaDoor.crcOpens
open Go.ChangeShapes Go.WideShapes Go.ChangeAt Go.RowKit Go.Joins
open Go.Proofs.YtbelhaaibieehaaDoor.Divs Go.Proofs.YtbelhaaibieehaaDoor.Grow Go.Proofs.YtbelhaaibieehaaDoor.By Go.Proofs.YtbelhaaibieehaaDoor.Crc
open Go.Proofs.YtbelhaaibieehaaDoor.Cr
set_option linter.unusedVariables false

set_option maxHeartbeats 1000000 in
theorem core (w : World) (hL : Laid w) (l0 : List Int) (v0 : Value) (hs0 : Sk .u8 w v0 l0) (hl0 : ∀ n ∈ l0, 0 ≤ n ∧ n ≤ 255) :
    Calls Tryd.prog 4 #[v0] w fun e w' => e = .returned (.bool true) ∧ Later w w' := by
  have A := Lib.hid (fun W (h : Later w W) => awake_any W (hL.grown h))
  by_cases hlen : 300 < l0.length
  · obtain ⟨ad, cap, rfl, hm⟩ := hs0.len
    clear hs0
    go_enter Tryd.func4, Tryd.ntmps4
    go_wp2_with fail
    refine (A.out _ (Later.refl w)).mono ?_
    rintro e w1 ⟨rfl, hg1⟩
    go_wp2_with fail
    go_ret
    exact ⟨rfl, hg1⟩
  · have O := Lib.hid (fun W (h : Later w W) => open_any l0 v0 W (hs0.later h) hl0 (by omega) (hL.grown h))
    have P := Lib.hid (fun W (h : Later w W) => ropen_any l0 v0 W (hs0.later h) hl0)
    have S := Lib.hid (fun W (h : Later w W) => seal_any l0 v0 W (hs0.later h) hl0 (by omega) (hL.grown h))
    have T := Lib.hid (fun W (h : Later w W) => rseal_any l0 v0 W (hs0.later h) hl0 (by omega))
    have Q := Lib.hid (fun xs u v W (hu : Sk .u8 W u xs) (hv : Sk .u8 W v xs) => bsame_yes xs u v W hu hv)
    generalize op l0 = o at *
    obtain ⟨os, oe⟩ := o
    obtain ⟨ad, cap, rfl, hm⟩ := hs0.len
    clear hs0
    have t : (oe == oe) = true := by simp
    go_enter Tryd.func4, Tryd.ntmps4
    go_wp2_with fail
    refine (O.out _ (Later.refl w)).mono ?_
    rintro e w1 ⟨u, rfl, hu, hg1⟩
    have HU := Lib.hid hu
    have HG1 := Lib.hid hg1
    clear hu hg1
    go_wp2_with fail
    refine (P.out _ HG1.out).mono ?_
    rintro e w2 ⟨v, rfl, hv, hg2⟩
    have HV := Lib.hid hv
    have HU2 := Lib.hid (HU.out.later hg2)
    have HG2 := Lib.hid (gtrans HG1.out hg2)
    clear hv hg2
    go_wp2_with fail
    refine (A.out _ HG2.out).mono ?_
    rintro e w3 ⟨rfl, hg3⟩
    have HV3 := Lib.hid (HV.out.later hg3)
    have HU3 := Lib.hid (HU2.out.later hg3)
    have HG3 := Lib.hid (gtrans HG2.out hg3)
    clear hg3
    go_wp2_with fail
    refine (Q.out _ _ _ _ HU3.out HV3.out).mono ?_
    rintro e w4 ⟨rfl, hg4⟩
    have HG4 := Lib.hid (gtrans HG3.out hg4)
    clear hg4
    go_wp2_with fail
    refine (S.out _ HG4.out).mono ?_
    rintro e w5 ⟨x, rfl, hx, hg5⟩
    have HX := Lib.hid hx
    have HG5 := Lib.hid (gtrans HG4.out hg5)
    clear hg5 hx
    go_wp2_with fail
    refine (T.out _ HG5.out).mono ?_
    rintro e w6 ⟨y, rfl, hy, hg6⟩
    have HY := Lib.hid hy
    have HX6 := Lib.hid (HX.out.sk.later hg6)
    have HG6 := Lib.hid (gtrans HG5.out hg6)
    clear hg6 hy
    go_wp2_with fail
    refine (Q.out _ _ _ _ HX6.out HY.out).mono ?_
    rintro e w7 ⟨rfl, hg7⟩
    have HG7 := Lib.hid (gtrans HG6.out hg7)
    clear hg7
    go_wp2_with fail
    go_ret
    exact ⟨rfl, HG7.out⟩

set_option maxHeartbeats 1000000 in
set_option maxRecDepth 100000 in
theorem lifted (os : Os) (started : os.Started) (H : Type) (enc : TypeId × Value → H) :
    ReturnsInHanded {} Tryd.checked os 4 .any (fun w args => (Rows.crcOpensSpec.pre enc Tryd.prog Tryd.f4 [] false w args ∧ laidMetH Tryd.prog laidL w) ∧ sizedMet enc Tryd.prog Tryd.f4 (OpenSpec.ofChange Rows.crcOpensSpec) false w args)
      (Rows.crcOpensSpec.post enc Tryd.prog Tryd.f4 false true false false) := by
  refine returnsInHanded_of_change_and (C := Tryd.checked) (X := fun w _ => laidMetH Tryd.prog laidL w) (fun _ _ _ hh h => h.of_heap hh) own started (by kernel_rfl) Tryd.func4
    (ChangeSpec.witness_shaped (enc := enc) (C := Tryd.checked) (os := os) (X := fun w _ => laidMetH Tryd.prog laidL w) false (World.doorLaid Tryd.prog 400 os) #[.slice none 0 0] 8 rfl (World.shaped_of_RefB (by kernel_rfl) (by kernel_rfl)) (by kernel_rfl) (by kernel_rfl) (by kernel_rfl) (door_met os _)) ?_
  intro W base args ds gs before hval0 hW _ _ hL _
  have hval : ∀ (j : Nat) t v, Tryd.f4.params[j]? = some t → args[j]? = some v → Value.okWide Tryd.prog W .any base t v := hval0
  have hW' := hW
  obtain ⟨p, q, hA0, hV, rfl, hfz, hnd⟩ := hW
  have hA : DataW.TrodAll enc Tryd.prog W 0 (fun _ => true) true Tryd.f4.params.toList args.toList ds p := hA0
  rw [Tryd.params4] at hA hval
  obtain ⟨v0, vs0, d0, ds0, p0, q0, hargs, rfl, rfl, h0, r0⟩ := trodAll_cons hA
  obtain ⟨rfl, rfl, rfl⟩ := trodAll_nil r0
  obtain rfl : args = #[v0] := by cases args; simp_all
  obtain ⟨rfl, rfl⟩ := trodVars_none hV
  obtain ⟨l0, s0, w0⟩ := open_bytes (hval 0 22 v0 rfl rfl) h0
  have lt0 : ∀ x ∈ p0, x.block < W.heap.size := by obtain ⟨m, hm⟩ := h0; exact DataW.trod_lt m _ _ _ hm
  clear hA0 hval0
  refine (core W (of_laid hL) l0 _ s0 w0).mono fun e W' ⟨he, hg⟩ => ?_
  subst he
  have bel := hg.below
  exact ⟨_, rfl, _, _, _, [], _, [], hW', trodAll_mk1 (shut_bool Tryd.underlying4 _), (trodAll_cons_mk (Below.trod laidOut (by kernel_rfl) (of_decide_eq_true (by kernel_rfl)) h0 bel lt0) trodAll_mk0), rfl, bel.frame _, fun h => by cases h⟩

theorem over : Rows.crcOpensRow.holds Tryd.pinned (OpenSpec.ofChange Rows.crcOpensSpec) :=
  OpenClaim.holds_of_wide 4 Tryd.f4 rfl rfl rfl rfl rfl rfl rfl ⟨rfl, rfl, rfl, rfl, rfl⟩ rfl rfl rfl rfl rfl (by kernel_rfl) Tryd.func4 (by kernel_rfl)
    (of_decide_eq_true (by kernel_rfl)) (by unfold Func.isWrapper; first | (rw [if_pos (by decide +kernel)]; kernel_rfl) | (rw [if_neg (by decide +kernel)]; exact ⟨rfl, rfl⟩))
    (fun os started H enc _ => lifted os started H enc)

/-- The statement. -/
theorem proved : Rows.CrcOpensCardSaid :=
  Claim7.holds_tied_plain_at .later [] [.data] true (true, "9df2169b39a1313060d4e837afff9edd65b177fdbcba449fe7b46e87d7471214") false
    over (fun _ h => by cases h) (by kernel_rfl) (fun _ h => by cases h) crcOpens_row_tie rfl ⟨rfl, rfl⟩ (by kernel_rfl) rfl
    (fun f fn hf hfn => by
      obtain rfl : f = 4 := Option.some.inj ((show Tryd.prog.funcNamed "newel/newellaw09.CrcOpens" = some 4 by kernel_rfl).symm.trans hf) |>.symm
      obtain rfl : fn = Tryd.f4 := (Option.some.inj (Tryd.func4.symm.trans hfn)).symm
      exact ⟨by kernel_rfl, fun j t ht => by
        rw [Tryd.params4] at ht
        have hm : t ∈ [22] := by simpa using Array.mem_of_getElem? ht
        have hall : ([22].all fun u => !Tryd.prog.wantsStandIn u) = true := by kernel_rfl
        exact (show Tryd.prog.wantsStandIn t = false by simpa using List.all_eq_true.1 hall t hm)⟩)
    (by kernel_rfl)
#print axioms proved
end Go.Proofs.YtbelhaaibieehaaDoor.crcOpens
