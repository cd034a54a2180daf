/-
  Texts of mine, merged: each part says what it holds. Conditions: as each theorem states.
-/
import Derived.Test.YtihdijkplmfhfaaGreatDoorRows
import Derived.Test.YtihdijkplmfhfaaGreatDoorTie
import Derived.Test.YtihdijkplmfhfaaGreatDoorCards
import Derived.ProofKit
import Derived.LaidMore
import Derived.OpenShut
import Derived.Stop.Joined
import Derived.Lib.LaidTab
import Derived.Lib.SmallJoins
import Derived.SevenTiedAt
import Derived.ShutString
import Derived.ChangeOld
import Derived.Below
import Derived.Carry
import Derived.Test.YtihdijkplmfhfaaGreatDoorM21

/- What the program answers of timetables: which instants are served, a day's beginning, its spans resolved, the mode at an instant, a day's row, the spans of some days. Conditions: the table of months lies where the program lays it; the configuration may be, where a theorem says so. -/
namespace Go.Proofs.YtihdijkplmfhfaaGreatDoor.Table
set_option maxRecDepth 100000
set_option maxRecDepth 100000
open Go.ChangeShapes Go.WideShapes Go.ChangeAt Go.RowKit
open Go.Proofs.YtihdijkplmfhfaaGreatDoor.Divs Go.Proofs.YtihdijkplmfhfaaGreatDoor.Grow
open Go.Proofs.YtihdijkplmfhfaaGreatDoor.Greg (Laid)
open Go.Proofs.YtihdijkplmfhfaaGreatDoor.Zo Go.Proofs.YtihdijkplmfhfaaGreatDoor.Win Go.Proofs.YtihdijkplmfhfaaGreatDoor.Tab
open Go.Proofs.YtihdijkplmfhfaaGreatDoor.Cal (yr om od)
open Go.Proofs.YtihdijkplmfhfaaGreatDoor.Cf (Cg Wn ce wo)
open Go.Proofs.YtihdijkplmfhfaaGreatDoor.Conf (wc cc Is)
open Go.Proofs.YtihdijkplmfhfaaGreatDoor.Zone (Zat zc lD lM sE sE_ok)
open Go.Proofs.YtihdijkplmfhfaaGreatDoor.Span (RA Ws WL sc)
open Go.Proofs.YtihdijkplmfhfaaGreatDoor.Sp (cu)
open Go.Proofs.YtihdijkplmfhfaaGreatDoor.Eachn
set_option linter.unusedVariables false

theorem wrap64_one (d : Int) (h0 : -9223372036854775808 ≤ d + 1) (h1 : d + 1 ≤ 9223372036854775807) : IntKind.i64.wrap (d + 1) = d + 1 := by
  rw [IntKind.wrap_i64]
  omega

theorem rb {x y : Bool} (h : y = x) : Ending.returned (Value.bool x) = .returned (Value.bool y) := by rw [h]

theorem r3 {a b c a' b' c' : Int} (h1 : a' = a) (h2 : b' = b) (h3 : c' = c) : Ending.returned (.tuple #[.int .i64 a, .int .i64 b, .int .i64 c]) = .returned (.tuple #[.int .i64 a', .int .i64 b', .int .i64 c']) := by rw [h1, h2, h3]

theorem served_any (z : Zn) (t : Int) (w : World) (hL : Laid w) (hz : May z) : Calls Tryz.prog 41 #[.agg (zc z), .int .i64 t] w fun e w' => e = .returned (.bool (sv z t)) ∧ Later w w' := by
  obtain ⟨O, hO⟩ : ∃ O, O = sv z t := ⟨_, rfl⟩
  rw [← hO]
  by_cases t0 : t < 576000
  · have HV : Hid (O = false) := Lib.hid (by rw [hO]; unfold sv; rw [decide_eq_false (by omega)]; rfl)
    clear hO hL hz
    unfold zc
    go_enter Tryz.func41, Tryz.ntmps41
    go_wp2
    go_ret
    exact ⟨rb HV.out, (Later.refl w).alloc _ _⟩
  by_cases t1 : 5258879999 < t
  · have HV : Hid (O = false) := Lib.hid (by rw [hO]; unfold sv; rw [decide_eq_false (by omega)]; rfl)
    clear hO hL hz
    unfold zc
    go_enter Tryz.func41, Tryz.ntmps41
    go_wp2
    go_ret
    exact ⟨rb HV.out, (Later.refl w).alloc _ _⟩
  have d := day_bd z t hz (by omega) (by omega)
  have hz' := hz
  unfold May at hz'
  obtain ⟨b0, b1, _⟩ := hz'
  have KD := Lib.hid (fun W => drew_g (div_yes (t + z.b) 1440 W (by omega) (by omega) (by omega) (by omega)))
  have KO := Lib.hid (fun W hW => Greg.of_yes ((t + z.b) / 1440) W hW d.1 d.2)
  have HV : Hid (O = (decide (1900 ≤ yr ((t + z.b) / 1440)) && decide (yr ((t + z.b) / 1440) ≤ 2399))) := Lib.hid (by
    rw [hO]; unfold sv; rw [decide_eq_true (by omega), Bool.true_and]
    simp)
  generalize (t + z.b) / 1440 = D at *
  generalize yr D = Y at *
  have HL := Lib.hid (hL.grown ((Later.refl w).alloc (zc z) 28))
  clear hO hL hz d
  unfold zc at HL ⊢
  by_cases y0 : 1900 ≤ Y
  · by_cases y1 : Y ≤ 2399
    · have HE : Hid (O = true) := Lib.hid (by rw [HV.out, decide_eq_true y0, decide_eq_true y1]; rfl)
      go_enter Tryz.func41, Tryz.ntmps41
      go_wp2_with fail
      refine (KD.out _).mono ?_
      rintro e w1 ⟨rfl, hg1⟩
      have HG1 := Lib.hid (gtrans ((Later.refl w).alloc _ _) hg1)
      go_wp2_with fail
      refine (KO.out _ (HL.out.grown hg1)).mono ?_
      rintro e w2 ⟨rfl, hg2⟩
      go_wp2_with fail
      go_ret
      exact ⟨rb HE.out, gtrans HG1.out (hg2.alloc _ _)⟩
    · have HE : Hid (O = false) := Lib.hid (by rw [HV.out, decide_eq_false y1]; simp)
      go_enter Tryz.func41, Tryz.ntmps41
      go_wp2_with fail
      refine (KD.out _).mono ?_
      rintro e w1 ⟨rfl, hg1⟩
      have HG1 := Lib.hid (gtrans ((Later.refl w).alloc _ _) hg1)
      go_wp2_with fail
      refine (KO.out _ (HL.out.grown hg1)).mono ?_
      rintro e w2 ⟨rfl, hg2⟩
      go_wp2_with fail
      go_ret
      exact ⟨rb (HE.out.trans (decide_eq_false (by omega)).symm), gtrans HG1.out (hg2.alloc _ _)⟩
  · have HE : Hid (O = false) := Lib.hid (by rw [HV.out, decide_eq_false y0]; rfl)
    go_enter Tryz.func41, Tryz.ntmps41
    go_wp2_with fail
    refine (KD.out _).mono ?_
    rintro e w1 ⟨rfl, hg1⟩
    have HG1 := Lib.hid (gtrans ((Later.refl w).alloc _ _) hg1)
    go_wp2_with fail
    refine (KO.out _ (HL.out.grown hg1)).mono ?_
    rintro e w2 ⟨rfl, hg2⟩
    go_wp2_with fail
    go_ret
    exact ⟨rb HE.out, gtrans HG1.out (hg2.alloc _ _)⟩

theorem beginning_any (D : Array Value) (c : Cg) (d : Int) (w : World) (hL : Laid w) (hc : Is w D c) : Calls Tryz.prog 30 #[.agg D, .int .i64 d] w fun e w' => e = .returned (.int .i64 (wV c.z d 0)) ∧ Later w w' := by
  have HG0 := Lib.hid ((Later.refl w).alloc D 33)
  have HZn := Lib.hid (is_zone hc (Conf.At.new w D 33))
  have KM := Lib.hid (Window.moment_any c.z d 0 (w.alloc (.cells D 33)) (hL.grown HG0.out))
  clear hL hc
  go_enter Tryz.func30, Tryz.ntmps30
  go_wp2_with (refine Conf.load_zn c.z rfl (.tmp 8) rfl w.heap.size 13 rfl HZn.out ?_)
  refine KM.out.mono ?_
  rintro e w1 ⟨rfl, hg1⟩
  go_wp2_with fail
  go_ret
  exact ⟨rfl, gtrans HG0.out hg1⟩

theorem uncut_any (D : Array Value) (c : Cg) (d : Int) (w : World) (hL : Laid w) (hc : Is w D c) (hce : ce c = 0) (d0 : 411 ≤ d) (d1 : d ≤ 3651989) : Calls Tryz.prog 29 #[.agg D, .int .i64 d] w fun e w' => ∃ v', e = .returned v' ∧ WL w' w.heap.size v' (unc c d) ∧ Later w w' := by
  have HG0 := Lib.hid ((Later.refl w).alloc D 33)
  have HAT := Lib.hid (Conf.At.new w D 33)
  have HZ := Lib.hid hc.size
  have KS := Lib.hid (spans_any D c (d - 9) (d + 1) 11 (w.alloc (.cells D 33)) (hL.grown HG0.out) (hc.later HG0.out) hce (by omega) (by omega) (by omega) (by omega))
  have HMb : Hid (Span.mb (sps c (d - 9) 11) = true) := Lib.hid ((Span.mb_iff _).2 ⟨Nat.le_trans (sps_few hce (d - 9) (n := 11) (by omega)) (by omega), sps_may hce (by omega) (by omega)⟩)
  clear hL hc hce
  go_enter Tryz.func29, Tryz.ntmps29
  go_wp2_with (refine Conf.load_at D HZ.out rfl (.tmp 2) rfl w.heap.size rfl HAT.out ?_)
  refine KS.out.mono ?_
  rintro e w1 ⟨v1, rfl, hv1, hg1⟩
  have HG1 := Lib.hid (gtrans HG0.out hg1)
  have KR := Lib.hid (Span.res_known v1 _ _ w1 hv1.ws HMb.out (rs_ok _))
  clear hv1 hg1
  go_wp2_with fail
  refine KR.out.mono ?_
  rintro e w2 ⟨v2, rfl, hv2, hg2⟩
  have HV2 := Lib.hid hv2
  have HG2 := Lib.hid (gtrans HG1.out hg2)
  clear hv2 hg2
  go_wp2_with fail
  go_ret
  exact ⟨_, rfl, HV2.out.base HG1.out.size, HG2.out⟩

/-! The spans of some days. -/

theorem spans_no (D : Array Value) (c : Cg) (a b : Int) (w : World) (hc : Is w D c) (hce : ¬ ce c = 0) : Calls Tryz.prog 13 #[.agg D, .int .i64 a, .int .i64 b] w fun e w' => e = .returned (.tuple #[.slice none 0 0, .int .i64 (ce c)]) ∧ Later w w' := by
  have e0 : (ce c != 0) = true := by simpa using hce
  have HG0 := Lib.hid ((Later.refl w).alloc D 33)
  have HAT := Lib.hid (Conf.At.new w D 33)
  have HZ := Lib.hid hc.size
  have KC := Lib.hid (Conf.check_of (hc.later HG0.out))
  clear hc hce
  generalize ce c = k at *
  go_enter Tryz.func13, Tryz.ntmps13
  go_wp2_with (refine Conf.load_at D HZ.out rfl (.tmp 3) rfl w.heap.size rfl HAT.out ?_)
  refine KC.out.mono ?_
  rintro e w1 ⟨rfl, hg1⟩
  go_wp2_with fail
  go_ret2
  exact ⟨rfl, gtrans HG0.out hg1⟩

theorem spans_day (D : Array Value) (c : Cg) (a b : Int) (w : World) (hc : Is w D c) (hce : ce c = 0) (a0 : -9223372036854775808 ≤ a) (a1 : a ≤ 9223372036854775807) (b0 : -9223372036854775808 ≤ b) (b1 : b ≤ 9223372036854775807) (h : dy a b = false) : Calls Tryz.prog 13 #[.agg D, .int .i64 a, .int .i64 b] w fun e w' => e = .returned (.tuple #[.slice none 0 0, .int .i64 140]) ∧ Later w w' := by
  have HG0 := Lib.hid ((Later.refl w).alloc D 33)
  have HAT := Lib.hid (Conf.At.new w D 33)
  have HZ := Lib.hid hc.size
  have KC := Lib.hid (Conf.check_of (hc.later HG0.out))
  rw [hce] at KC
  clear hc hce
  have hd : ¬ (402 ≤ a ∧ b ≤ 3651990 ∧ a ≤ b ∧ b - a ≤ 30) := fun k => by rw [(dy_iff a b).2 k] at h; cases h
  clear h
  have main : (a < 402) ∨ (¬ a < 402 ∧ 3651990 < b) ∨ (¬ a < 402 ∧ ¬ 3651990 < b ∧ b < a) ∨ (¬ a < 402 ∧ ¬ 3651990 < b ∧ ¬ b < a ∧ 30 < b - a) := by omega
  clear hd
  rcases main with h | ⟨h, h2⟩ | ⟨h, h2, h3⟩ | ⟨h, h2, h3, h4⟩
  all_goals
    go_enter Tryz.func13, Tryz.ntmps13
    go_wp2_with (refine Conf.load_at D HZ.out rfl (.tmp 3) rfl w.heap.size rfl HAT.out ?_)
    refine KC.out.mono ?_
    rintro e w1 ⟨rfl, hg1⟩
    go_wp2_with fail
    go_ret2
    exact ⟨rfl, gtrans HG0.out hg1⟩

theorem spans_yes (D : Array Value) (c : Cg) (a b : Int) (m : Nat) (w : World) (hL : Laid w) (hc : Is w D c) (hce : ce c = 0) (h : dy a b = true) (hm : b = a + m - 1) : Calls Tryz.prog 13 #[.agg D, .int .i64 a, .int .i64 b] w fun e w' => ∃ v', e = .returned (.tuple #[v', .int .i64 0]) ∧ WL w' w.heap.size v' (sps c a m) ∧ Later w w' := by
  have HG0 := Lib.hid ((Later.refl w).alloc D 33)
  have HAT := Lib.hid (Conf.At.new w D 33)
  have HZ := Lib.hid hc.size
  have KC := Lib.hid (Conf.check_of (hc.later HG0.out))
  rw [hce] at KC
  obtain ⟨h1, h2, h3, h4⟩ := (dy_iff a b).1 h
  have KS := Lib.hid (fun W (g : Later (w.alloc (.cells D 33)) W) => spans_any D c a b m W (hL.grown (gtrans HG0.out g)) (hc.later (gtrans HG0.out g)) hce h1 (by omega) (by omega) hm)
  clear hc hce hL h hm
  have n1 : ¬ a < 402 := by omega
  have n2 : ¬ 3651990 < b := by omega
  have n3 : ¬ b < a := by omega
  have n4 : ¬ 30 < b - a := by omega
  go_enter Tryz.func13, Tryz.ntmps13
  go_wp2_with (refine Conf.load_at D HZ.out rfl (.tmp 3) rfl w.heap.size rfl HAT.out ?_)
  refine KC.out.mono ?_
  rintro e w1 ⟨rfl, hg1⟩
  have HG1 := Lib.hid hg1
  have HAT1 := Lib.hid (HAT.out.later hg1)
  clear hg1
  go_wp2_with (refine Conf.load_at D HZ.out rfl (.tmp 3) rfl w.heap.size rfl HAT1.out ?_)
  refine (KS.out _ HG1.out).mono ?_
  rintro e w2 ⟨v2, rfl, hv2, hg2⟩
  have HV2 := Lib.hid hv2
  have HG2 := Lib.hid (gtrans (gtrans HG0.out HG1.out) hg2)
  clear hv2 hg2
  go_wp2_with fail
  go_ret2
  exact ⟨_, rfl, HV2.out.base (gtrans HG0.out HG1.out).size, HG2.out⟩

/-! A day's row. -/

theorem row_no (D : Array Value) (c : Cg) (d : Int) (w : World) (hc : Is w D c) (hce : ¬ ce c = 0) : Calls Tryz.prog 11 #[.agg D, .int .i64 d] w fun e w' => e = .returned (.tuple #[.slice none 0 0, .int .i64 (ce c)]) ∧ Later w w' := by
  have e0 : (ce c != 0) = true := by simpa using hce
  have HG0 := Lib.hid ((Later.refl w).alloc D 33)
  have HAT := Lib.hid (Conf.At.new w D 33)
  have HZ := Lib.hid hc.size
  have KC := Lib.hid (Conf.check_of (hc.later HG0.out))
  clear hc hce
  generalize ce c = k at *
  go_enter Tryz.func11, Tryz.ntmps11
  go_wp2_with (refine Conf.load_at D HZ.out rfl (.tmp 2) rfl w.heap.size rfl HAT.out ?_)
  refine KC.out.mono ?_
  rintro e w1 ⟨rfl, hg1⟩
  go_wp2_with fail
  go_ret2
  exact ⟨rfl, gtrans HG0.out hg1⟩

theorem row_day (D : Array Value) (c : Cg) (d : Int) (w : World) (hc : Is w D c) (hce : ce c = 0) (h : d < 411 ∨ 3651988 < d) : Calls Tryz.prog 11 #[.agg D, .int .i64 d] w fun e w' => e = .returned (.tuple #[.slice none 0 0, .int .i64 140]) ∧ Later w w' := by
  have HG0 := Lib.hid ((Later.refl w).alloc D 33)
  have HAT := Lib.hid (Conf.At.new w D 33)
  have HZ := Lib.hid hc.size
  have KC := Lib.hid (Conf.check_of (hc.later HG0.out))
  rw [hce] at KC
  clear hc hce
  have main : (d < 411) ∨ (¬ d < 411 ∧ 3651988 < d) := by omega
  clear h
  rcases main with h | ⟨h, h2⟩
  all_goals
    go_enter Tryz.func11, Tryz.ntmps11
    go_wp2_with (refine Conf.load_at D HZ.out rfl (.tmp 2) rfl w.heap.size rfl HAT.out ?_)
    refine KC.out.mono ?_
    rintro e w1 ⟨rfl, hg1⟩
    go_wp2_with fail
    go_ret2
    exact ⟨rfl, gtrans HG0.out hg1⟩

def RowV (D : Array Value) (c : Cg) (d a b : Int) (B : Nat) : Nat → Value → World → Prop
  | 0, v, _ => v = .agg D
  | 1, v, _ => v = .int .i64 d
  | 2, v, W => Ws W v (unc c d)
  | 3, v, _ => v = .agg D
  | 4, v, _ => v = .int .i64 d
  | 5, v, _ => v = .int .i64 a
  | 6, v, _ => v = .agg D
  | 7, v, _ => v = .int .i64 d
  | 8, v, _ => v = .int .i64 (d + 1)
  | 9, v, _ => v = .int .i64 b
  | 10, v, W => WL W B v (cu (unc c d) a b)
  | 11, v, W => WL W B v (cu (unc c d) a b)
  | 12, v, _ => v = .int .i64 0
  | _, _, _ => True

theorem RowV.later (D : Array Value) (c : Cg) (d a b : Int) (B : Nat) (i : Nat) (v : Value) (W W' : World) (h : RowV D c d a b B i v W) (g : Later W W') : RowV D c d a b B i v W' := by
  unfold RowV at *
  split at h <;> try exact h
  · exact h.later g
  · exact h.later g
  · exact h.later g

set_option maxHeartbeats 1000000 in
theorem row_yes (D : Array Value) (c : Cg) (d : Int) (w : World) (hL : Laid w) (hc : Is w D c) (hce : ce c = 0) (h0 : 411 ≤ d) (h1 : d ≤ 3651988) : Calls Tryz.prog 11 #[.agg D, .int .i64 d] w fun e w' => ∃ v', e = .returned (.tuple #[v', .int .i64 0]) ∧ WL w' w.heap.size v' (cu (unc c d) (mv c.z (d * 1440)) (mv c.z ((d + 1) * 1440))) ∧ Later w w' := by
  have HG0 := Lib.hid ((Later.refl w).alloc D 33)
  have HAT := Lib.hid (Conf.At.new w D 33)
  have HZ := Lib.hid hc.size
  have KC0 := Lib.hid (Conf.check_of (hc.later HG0.out))
  rw [hce] at KC0
  obtain ⟨hz, _⟩ := ce_parts c hce
  obtain ⟨a, ha⟩ : ∃ a, mv c.z (d * 1440) = a := ⟨_, rfl⟩
  obtain ⟨b, hb⟩ : ∃ b, mv c.z ((d + 1) * 1440) = b := ⟨_, rfl⟩
  have ea : wV c.z d 0 = a := by unfold wV; rw [if_pos ((wE_ok _ _ _).2 ⟨hz, by omega, by omega, by omega, by omega⟩), Int.add_zero]; exact ha
  have eb : wV c.z (d + 1) 0 = b := by unfold wV; rw [if_pos ((wE_ok _ _ _).2 ⟨hz, by omega, by omega, by omega, by omega⟩), Int.add_zero]; exact hb
  rw [ha, hb]
  have LL := Lib.hid (fun W (g : Later w W) => hL.grown g)
  have II := Lib.hid (fun W (g : Later w W) => hc.later g)
  clear hL hc ha hb hz
  have n1 : ¬ d < 411 := by omega
  have n2 : ¬ 3651988 < d := by omega
  go_enter Tryz.func11, Tryz.ntmps11
  go_wp2_with (refine Conf.load_at D HZ.out rfl (.tmp 2) rfl w.heap.size rfl HAT.out ?_)
  refine KC0.out.mono ?_
  rintro e w1 ⟨rfl, hg1⟩
  have HG1 := Lib.hid (gtrans HG0.out hg1)
  have HA1 := Lib.hid (HAT.out.later hg1)
  have KU := Lib.hid (fun W (g : Later w1 W) => uncut_any D c d W (LL.out _ (gtrans HG1.out g)) (II.out _ (gtrans HG1.out g)) hce h0 (by omega))
  have KA := Lib.hid (fun W (g : Later w1 W) => ea ▸ beginning_any D c d W (LL.out _ (gtrans HG1.out g)) (II.out _ (gtrans HG1.out g)))
  have KB := Lib.hid (fun W (g : Later w1 W) => eb ▸ beginning_any D c (d + 1) W (LL.out _ (gtrans HG1.out g)) (II.out _ (gtrans HG1.out g)))
  have HB50 : Hid ((unc c d).length ≤ 50000) := Lib.hid (by
    have k1 := Sp.full_len (rs_ok (sps c (d - 9) 11))
    have k2 := sps_few hce (d - 9) (n := 11) (by omega)
    unfold unc
    omega)
  have KC : Hid (∀ (v : Value) W, Later w1 W → Ws W v (unc c d) → Calls Tryz.prog 28 #[v, .int .i64 a, .int .i64 b] W fun e w' => ∃ v', e = .returned v' ∧ WL w' w.heap.size v' (cu (unc c d) a b) ∧ Later W w') := Lib.hid (fun v W g s => (Span.cut_any v _ a b W s HB50.out).mono fun e w' ⟨v', he, hv, hg⟩ => ⟨v', he, hv.base (gtrans HG1.out g).size, hg⟩)
  clear hg1 hce ea eb
  go_wp2_with fail
  refine region_each (RowV D c d a b w.heap.size) (by kernel_rfl) (by kernel_rfl) (RowV.later D c d a b w.heap.size) ?_ ?_
  · intro i hi
    match i with
    | 0 =>
      intro o ho
      simp only [List.getElem?_toArray, List.getElem?_cons_zero, Option.some.injEq] at ho
      subst ho
      intro a W hl hold hdep
      refine ite_yes rfl ?_
      have h2 : a.tmps[2]? = some (.pointer (some ⟨w.heap.size, 0, none⟩)) := hold 2 (free_of (by kernel_rfl))
      clear hold hdep
      exact Conf.wp_load_cfg D HZ.out W w.heap.size (HA1.out.later hl) (.tmp 2) rfl (ev h2) ⟨_, rfl, rfl, Later.refl _⟩
    | 1 =>
      intro o ho
      simp only [List.getElem?_toArray, List.getElem?_cons_zero, List.getElem?_cons_succ, Option.some.injEq] at ho
      subst ho
      intro a W hl hold hdep
      refine ite_yes rfl ?_
      have h1 : a.tmps[1]? = some (.int .i64 d) := hold 1 (free_of (by kernel_rfl))
      clear hold hdep
      unfold Oper.wp
      go_simp
      exact ⟨_, rfl, rfl, Later.refl _⟩
    | 2 =>
      intro o ho
      simp only [List.getElem?_toArray, List.getElem?_cons_zero, List.getElem?_cons_succ, Option.some.injEq] at ho
      subst ho
      intro a W hl hold hdep
      refine ite_yes rfl ?_
      obtain ⟨_, h18, rfl⟩ := hdep 0 (by decide) _ _ rfl rfl
      obtain ⟨_, h19, rfl⟩ := hdep 1 (by decide) _ _ rfl rfl
      clear hold hdep
      unfold Oper.wp
      go_simp
      refine (KU.out _ hl).mono ?_
      rintro e w1 ⟨q, rfl, hq, hg1⟩
      exact ⟨_, rfl, hq.ws, hg1⟩
    | 3 =>
      intro o ho
      simp only [List.getElem?_toArray, List.getElem?_cons_zero, List.getElem?_cons_succ, Option.some.injEq] at ho
      subst ho
      intro a W hl hold hdep
      refine ite_yes rfl ?_
      have h2 : a.tmps[2]? = some (.pointer (some ⟨w.heap.size, 0, none⟩)) := hold 2 (free_of (by kernel_rfl))
      clear hold hdep
      exact Conf.wp_load_cfg D HZ.out W w.heap.size (HA1.out.later hl) (.tmp 2) rfl (ev h2) ⟨_, rfl, rfl, Later.refl _⟩
    | 4 =>
      intro o ho
      simp only [List.getElem?_toArray, List.getElem?_cons_zero, List.getElem?_cons_succ, Option.some.injEq] at ho
      subst ho
      intro a W hl hold hdep
      refine ite_yes rfl ?_
      have h1 : a.tmps[1]? = some (.int .i64 d) := hold 1 (free_of (by kernel_rfl))
      clear hold hdep
      unfold Oper.wp
      go_simp
      exact ⟨_, rfl, rfl, Later.refl _⟩
    | 5 =>
      intro o ho
      simp only [List.getElem?_toArray, List.getElem?_cons_zero, List.getElem?_cons_succ, Option.some.injEq] at ho
      subst ho
      intro a W hl hold hdep
      refine ite_yes rfl ?_
      obtain ⟨_, h21, rfl⟩ := hdep 3 (by decide) _ _ rfl rfl
      obtain ⟨_, h22, rfl⟩ := hdep 4 (by decide) _ _ rfl rfl
      clear hold hdep
      unfold Oper.wp
      go_simp
      refine (KA.out _ hl).mono ?_
      rintro e w1 ⟨rfl, hg1⟩
      exact ⟨_, rfl, rfl, hg1⟩
    | 6 =>
      intro o ho
      simp only [List.getElem?_toArray, List.getElem?_cons_zero, List.getElem?_cons_succ, Option.some.injEq] at ho
      subst ho
      intro a W hl hold hdep
      refine ite_yes rfl ?_
      have h2 : a.tmps[2]? = some (.pointer (some ⟨w.heap.size, 0, none⟩)) := hold 2 (free_of (by kernel_rfl))
      clear hold hdep
      exact Conf.wp_load_cfg D HZ.out W w.heap.size (HA1.out.later hl) (.tmp 2) rfl (ev h2) ⟨_, rfl, rfl, Later.refl _⟩
    | 7 =>
      intro o ho
      simp only [List.getElem?_toArray, List.getElem?_cons_zero, List.getElem?_cons_succ, Option.some.injEq] at ho
      subst ho
      intro a W hl hold hdep
      refine ite_yes rfl ?_
      have h1 : a.tmps[1]? = some (.int .i64 d) := hold 1 (free_of (by kernel_rfl))
      clear hold hdep
      unfold Oper.wp
      go_simp
      exact ⟨_, rfl, rfl, Later.refl _⟩
    | 8 =>
      intro o ho
      simp only [List.getElem?_toArray, List.getElem?_cons_zero, List.getElem?_cons_succ, Option.some.injEq] at ho
      subst ho
      intro a W hl hold hdep
      refine ite_yes rfl ?_
      obtain ⟨_, h25, rfl⟩ := hdep 7 (by decide) _ _ rfl rfl
      clear hold hdep
      unfold Oper.wp
      go_simp
      rw [wrap64_one d (by omega) (by omega)]
      exact ⟨_, rfl, rfl, Later.refl _⟩
    | 9 =>
      intro o ho
      simp only [List.getElem?_toArray, List.getElem?_cons_zero, List.getElem?_cons_succ, Option.some.injEq] at ho
      subst ho
      intro a W hl hold hdep
      refine ite_yes rfl ?_
      obtain ⟨_, h24, rfl⟩ := hdep 6 (by decide) _ _ rfl rfl
      obtain ⟨_, h26, rfl⟩ := hdep 8 (by decide) _ _ rfl rfl
      clear hold hdep
      unfold Oper.wp
      go_simp
      refine (KB.out _ hl).mono ?_
      rintro e w1 ⟨rfl, hg1⟩
      exact ⟨_, rfl, rfl, hg1⟩
    | 10 =>
      intro o ho
      simp only [List.getElem?_toArray, List.getElem?_cons_zero, List.getElem?_cons_succ, Option.some.injEq] at ho
      subst ho
      intro a W hl hold hdep
      refine ite_yes rfl ?_
      obtain ⟨_, h20, s20⟩ := hdep 2 (by decide) _ _ rfl rfl
      obtain ⟨_, h23, rfl⟩ := hdep 5 (by decide) _ _ rfl rfl
      obtain ⟨_, h27, rfl⟩ := hdep 9 (by decide) _ _ rfl rfl
      clear hold hdep
      unfold Oper.wp
      go_simp
      refine (KC.out _ _ hl s20).mono ?_
      rintro e w1 ⟨q, rfl, hq, hg1⟩
      exact ⟨_, rfl, hq, hg1⟩
    | 11 =>
      intro o ho
      simp only [List.getElem?_toArray, List.getElem?_cons_zero, List.getElem?_cons_succ, Option.some.injEq] at ho
      subst ho
      intro a W hl hold hdep
      refine ite_yes rfl ?_
      obtain ⟨_, h28, s28⟩ := hdep 10 (by decide) _ _ rfl rfl
      clear hold hdep
      unfold Oper.wp
      go_simp
      exact ⟨_, rfl, s28, Later.refl _⟩
    | 12 =>
      intro o ho
      simp only [List.getElem?_toArray, List.getElem?_cons_zero, List.getElem?_cons_succ, Option.some.injEq] at ho
      subst ho
      intro a W hl hold hdep
      refine ite_yes rfl ?_
      clear hold hdep
      unfold Oper.wp
      go_simp
      exact ⟨_, rfl, rfl, Later.refl _⟩
    | k + 13 => exact absurd hi (by simp)
  · intro a W hl hd hz hold hall
    obtain ⟨_, k4, s4⟩ := hall 11 _ _ rfl rfl
    obtain ⟨_, k5, rfl⟩ := hall 12 _ _ rfl rfl
    have ha := act_eta a 29 [] hz hd
    rw [show (List.range 29).map (fun s => a.tmps.getD s undef) = [a.tmps.getD 0 undef, a.tmps.getD 1 undef, a.tmps.getD 2 undef, a.tmps.getD 3 undef, a.tmps.getD 4 undef, a.tmps.getD 5 undef, a.tmps.getD 6 undef, a.tmps.getD 7 undef, a.tmps.getD 8 undef, a.tmps.getD 9 undef, a.tmps.getD 10 undef, a.tmps.getD 11 undef, a.tmps.getD 12 undef, a.tmps.getD 13 undef, a.tmps.getD 14 undef, a.tmps.getD 15 undef, a.tmps.getD 16 undef, a.tmps.getD 17 undef, a.tmps.getD 18 undef, a.tmps.getD 19 undef, a.tmps.getD 20 undef, a.tmps.getD 21 undef, a.tmps.getD 22 undef, a.tmps.getD 23 undef, a.tmps.getD 24 undef, a.tmps.getD 25 undef, a.tmps.getD 26 undef, a.tmps.getD 27 undef, a.tmps.getD 28 undef] from rfl, getD_of k4, getD_of k5] at ha
    rw [ha]
    clear hall hold hz hd ha k4 k5
    generalize a.tmps.getD 0 undef = x0
    generalize a.tmps.getD 1 undef = x1
    generalize a.tmps.getD 2 undef = x2
    generalize a.tmps.getD 3 undef = x3
    generalize a.tmps.getD 6 undef = x6
    generalize a.tmps.getD 7 undef = x7
    generalize a.tmps.getD 8 undef = x8
    generalize a.tmps.getD 9 undef = x9
    generalize a.tmps.getD 10 undef = x10
    generalize a.tmps.getD 11 undef = x11
    generalize a.tmps.getD 12 undef = x12
    generalize a.tmps.getD 13 undef = x13
    generalize a.tmps.getD 14 undef = x14
    generalize a.tmps.getD 15 undef = x15
    generalize a.tmps.getD 16 undef = x16
    generalize a.tmps.getD 17 undef = x17
    generalize a.tmps.getD 18 undef = x18
    generalize a.tmps.getD 19 undef = x19
    generalize a.tmps.getD 20 undef = x20
    generalize a.tmps.getD 21 undef = x21
    generalize a.tmps.getD 22 undef = x22
    generalize a.tmps.getD 23 undef = x23
    generalize a.tmps.getD 24 undef = x24
    generalize a.tmps.getD 25 undef = x25
    generalize a.tmps.getD 26 undef = x26
    generalize a.tmps.getD 27 undef = x27
    generalize a.tmps.getD 28 undef = x28
    go_wp2_with fail
    go_ret2
    exact ⟨_, rfl, s4, gtrans HG1.out hl⟩

/-! The mode at an instant. -/

theorem mode_no (D : Array Value) (c : Cg) (t : Int) (w : World) (hc : Is w D c) (hce : ¬ ce c = 0) : Calls Tryz.prog 19 #[.agg D, .int .i64 t] w fun e w' => e = .returned (.tuple #[.int .i64 0, .int .i64 0, .int .i64 (ce c)]) ∧ Later w w' := by
  have e0 : (ce c != 0) = true := by simpa using hce
  have HG0 := Lib.hid ((Later.refl w).alloc D 33)
  have HAT := Lib.hid (Conf.At.new w D 33)
  have HZ := Lib.hid hc.size
  have KC := Lib.hid (Conf.check_of (hc.later HG0.out))
  clear hc hce
  generalize ce c = k at *
  go_enter Tryz.func19, Tryz.ntmps19
  go_wp2_with (refine Conf.load_at D HZ.out rfl (.tmp 2) rfl w.heap.size rfl HAT.out ?_)
  refine KC.out.mono ?_
  rintro e w1 ⟨rfl, hg1⟩
  go_wp2_with fail
  go_ret3
  exact ⟨rfl, gtrans HG0.out hg1⟩

set_option maxHeartbeats 1000000 in
theorem mode_yes (D : Array Value) (c : Cg) (t : Int) (w : World) (hL : Laid w) (hc : Is w D c) (hce : ce c = 0) : Calls Tryz.prog 19 #[.agg D, .int .i64 t] w fun e w' => e = .returned (.tuple #[.int .i64 (mM c t), .int .i64 (mS c t), .int .i64 0]) ∧ Later w w' := by
  have HG0 := Lib.hid ((Later.refl w).alloc D 33)
  have HAT := Lib.hid (Conf.At.new w D 33)
  have HZ := Lib.hid hc.size
  have HZn := Lib.hid (fun W (h : Conf.At W w.heap.size D) => is_zone hc h)
  have KC := Lib.hid (Conf.check_of (hc.later HG0.out))
  rw [hce] at KC
  obtain ⟨hz, _⟩ := ce_parts c hce
  have KV := Lib.hid (fun W (g : Later w W) => served_any c.z t W (hL.grown g) hz)
  obtain ⟨M, hM⟩ : ∃ M, M = mM c t := ⟨_, rfl⟩
  obtain ⟨S, hS⟩ : ∃ S, S = mS c t := ⟨_, rfl⟩
  rw [← hM, ← hS]
  cases hs : sv c.z t with
  | false =>
    have HM : Hid (M = 3 ∧ S = 0) := Lib.hid (by rw [hM, hS]; exact mM_far c t hs)
    rw [hs] at KV
    clear hL hc hce hz hM hS hs
    go_enter Tryz.func19, Tryz.ntmps19
    go_wp2_with (refine Conf.load_at D HZ.out rfl (.tmp 2) rfl w.heap.size rfl HAT.out ?_)
    refine KC.out.mono ?_
    rintro e w1 ⟨rfl, hg1⟩
    have HG1 := Lib.hid (gtrans HG0.out hg1)
    have HZ1 := Lib.hid (HZn.out _ (HAT.out.later hg1))
    clear hg1
    go_wp2_with (refine Conf.load_zn c.z rfl (.tmp 18) rfl w.heap.size 13 rfl HZ1.out ?_)
    refine (KV.out _ HG1.out).mono ?_
    rintro e w2 ⟨rfl, hg2⟩
    have HG2 := Lib.hid (gtrans HG1.out hg2)
    clear hg2
    go_wp2_with fail
    go_ret3
    exact ⟨r3 HM.out.1 HM.out.2 rfl, HG2.out⟩
  | true =>
    have hd := sv_day c.z hz t hs
    have hE : sE c.z t = 0 := by
      have k := (sv_iff c.z hz t).1 hs
      have hz' := hz
      unfold May at hz'
      exact (sE_ok c.z t).2 ⟨hz, by omega, by omega⟩
    have eD : lD c.z t = td c.z t / 1440 := by unfold lD; rw [if_pos hE]
    have KL := Lib.hid (fun W (g : Later w W) => Zone.local_any c.z t W (hL.grown g))
    rw [hE, eD] at KL
    obtain ⟨d, hdd⟩ : ∃ d, td c.z t / 1440 = d := ⟨_, rfl⟩
    have hM' : M = (fv (unc c d) t).m := by rw [hM]; unfold mM; rw [if_pos hs, hdd]
    have hS' : S = (fv (unc c d) t).f := by rw [hS]; unfold mS; rw [if_pos hs, hdd]
    rw [hdd] at KL hd
    rw [hs] at KV
    have KU := Lib.hid (fun W (g : Later w W) => uncut_any D c d W (hL.grown g) (hc.later g) hce (by omega) (by omega))
    obtain ⟨T, hT⟩ : ∃ T, lM c.z t = T := ⟨_, rfl⟩
    rw [hT] at KL
    obtain ⟨X, hX⟩ : ∃ X, unc c d = X := ⟨_, rfl⟩
    rw [hX] at KU hM' hS'
    have HM := Lib.hid hM'
    have HS := Lib.hid hS'
    have HNo : Hid (fb X t = false → (fv X t).m = 0 ∧ (fv X t).f = 0) := Lib.hid (by unfold fb fv; cases Sp.fi X t with
      | none => exact fun _ => ⟨rfl, rfl⟩
      | some s => intro k; cases k)
    have KT : Hid (∀ v W, Ws W v X → Calls Tryz.prog 23 #[v, .int .i64 t] W fun e w' => e = .returned (.tuple #[.agg #[.int .i64 (fv X t).f, .int .i64 (fv X t).t, .int .i64 (fv X t).m, .int .i64 (fv X t).p], .bool (fb X t)]) ∧ Later W w') := Lib.hid (fun v W h => Span.at_any v X t W h)
    clear hL hc hce hz hM hS hs hd hE eD hdd hT hX hM' hS'
    generalize fv X t = Y at *
    generalize fb X t = b at *
    go_enter Tryz.func19, Tryz.ntmps19
    go_wp2_with (refine Conf.load_at D HZ.out rfl (.tmp 2) rfl w.heap.size rfl HAT.out ?_)
    refine KC.out.mono ?_
    rintro e w1 ⟨rfl, hg1⟩
    have HG1 := Lib.hid (gtrans HG0.out hg1)
    have HA1 := Lib.hid (HAT.out.later hg1)
    have HZ1 := Lib.hid (HZn.out _ HA1.out)
    clear hg1
    go_wp2_with (refine Conf.load_zn c.z rfl (.tmp 18) rfl w.heap.size 13 rfl HZ1.out ?_)
    refine (KV.out _ HG1.out).mono ?_
    rintro e w2 ⟨rfl, hg2⟩
    have HG2 := Lib.hid (gtrans HG1.out hg2)
    have HA2 := Lib.hid (HA1.out.later hg2)
    have HZ2 := Lib.hid (HZn.out _ HA2.out)
    clear hg2
    go_wp2_with (refine Conf.load_zn c.z rfl (.tmp 24) rfl w.heap.size 13 rfl HZ2.out ?_)
    refine (KL.out _ HG2.out).mono ?_
    rintro e w3 ⟨rfl, hg3⟩
    have HG3 := Lib.hid (gtrans HG2.out hg3)
    have HA3 := Lib.hid (HA2.out.later hg3)
    clear hg3
    go_wp2_with (refine Conf.load_at D HZ.out rfl (.tmp 2) rfl w.heap.size rfl HA3.out ?_)
    refine (KU.out _ HG3.out).mono ?_
    rintro e w4 ⟨v4, rfl, hv4, hg4⟩
    have HG4 := Lib.hid (gtrans HG3.out hg4)
    have KT4 := Lib.hid (KT.out v4 w4 hv4.ws)
    clear hv4 hg4
    go_wp2_with fail
    refine KT4.out.mono ?_
    rintro e w5 ⟨rfl, hg5⟩
    have HG5 := Lib.hid (gtrans HG4.out hg5)
    clear hg5
    cases b with
    | false =>
      go_wp2_with fail
      go_ret3
      exact ⟨r3 (HM.out.trans (HNo.out (by simp)).1) (HS.out.trans (HNo.out (by simp)).2) rfl, HG5.out.put _⟩
    | true =>
      go_wp2_with fail
      go_quiet (fail)
      go_wp2_with fail
      go_ret3
      exact ⟨r3 HM.out HS.out rfl, gtrans (HG5.out.put _) (later_drewN _ _)⟩

end Go.Proofs.YtihdijkplmfhfaaGreatDoor.Table

/- From the condition on the table of months (what the program's own text lays there) to what the walks ask, and a start that meets it. No further condition. -/
namespace Go.Proofs.YtihdijkplmfhfaaGreatDoor.Greg
set_option maxRecDepth 100000
open Go.ChangeShapes Go.WideShapes Go.ChangeAt Go.RowKit
open Go.Proofs.YtihdijkplmfhfaaGreatDoor.Divs Go.Proofs.YtihdijkplmfhfaaGreatDoor.Grow

theorem own : ownKnob Tryz.prog.godebug = none := by kernel_rfl
theorem cells3 : Tryz.prog.cellsOf 3 = 1 := by kernel_rfl
theorem cells23 : Tryz.prog.cellsOf 63 = 3 := by kernel_rfl
theorem cells39 : Tryz.prog.cellsOf 29 = 12 := by kernel_rfl
theorem gMonths : Tryz.prog.globalNamed "newel/greg.monthDays" = some 0 := by kernel_rfl
theorem tMonths : (Tryz.prog.globals[0]?).map (·.type) = some 29 := by kernel_rfl

def laidL : List (String × DataW Unit) := [("newel/greg.monthDays", Rows.laid_newel_greg_monthDays)]

theorem of_laid {W : World} (h : laidMetH Tryz.prog laidL W) : Laid W := by
  unfold laidL at h
  rw [MakeChecks.laidMetH_plain _ _ _ (by kernel_rfl)] at h
  have t : Lib.TabIs Tryz.prog W "newel/greg.monthDays" .i64 [31, 28, 31, 30, 31, 30, 31, 31, 30, 31, 30, 31] :=
    Lib.tabIs_of_head (rest := []) gMonths tMonths Tryz.underlying29 Tryz.underlying3 cells3 cells39 h
  intro i hi
  rw [t.cell gMonths i (by simpa using hi)]
  obtain rfl | rfl | rfl | rfl | rfl | rfl | rfl | rfl | rfl | rfl | rfl | rfl : i = 0 ∨ i = 1 ∨ i = 2 ∨ i = 3 ∨ i = 4 ∨ i = 5 ∨ i = 6 ∨ i = 7 ∨ i = 8 ∨ i = 9 ∨ i = 10 ∨ i = 11 := by omega
  all_goals rfl

theorem door_met (os : Os) (args : Array Value) : laidMetH Tryz.prog laidL ((World.doorLaid Tryz.prog 400 os).forCall (fun _ _ => 0) ⟨#[], args, []⟩).memory :=
  laidMetH_of_parts3 (fuel := 8) (laidMet_of_run' 8 (by kernel_rfl) (by kernel_rfl)) (by kernel_rfl) (by kernel_rfl)

open Go.Proofs.YtihdijkplmfhfaaGreatDoor.Zo Go.Proofs.YtihdijkplmfhfaaGreatDoor.Zone Go.Joins

/-- A zone's numbers are ints. -/
def Zwf (z : Zn) : Prop := (Lit.int .i64 z.b).wf = true ∧ (Lit.int .i64 z.s).wf = true ∧ (Lit.int .i64 z.p.m).wf = true ∧ (Lit.int .i64 z.p.k).wf = true ∧ (Lit.int .i64 z.p.v).wf = true ∧ (Lit.int .i64 z.p.u).wf = true ∧ (Lit.int .i64 z.q.m).wf = true ∧ (Lit.int .i64 z.q.k).wf = true ∧ (Lit.int .i64 z.q.v).wf = true ∧ (Lit.int .i64 z.q.u).wf = true

/-- A zone's datum. -/
def zd {H : Type} (z : Zn) : DataW H := .agg [.lit (.int .i64 z.b), .lit (.int .i64 z.s), .agg [.lit (.int .i64 z.p.m), .lit (.int .i64 z.p.k), .lit (.int .i64 z.p.v), .lit (.int .i64 z.p.u)], .agg [.lit (.int .i64 z.q.m), .lit (.int .i64 z.q.k), .lit (.int .i64 z.q.v), .lit (.int .i64 z.q.u)]]

theorem cellsT : Tryz.prog.cellsOf 26 = 4 := by kernel_rfl
theorem cellsZ : Tryz.prog.cellsOf 28 = 10 := by kernel_rfl

section
variable {H : Type} {enc : TypeId × Value → H} {w : World} {base : Nat} {spare : Nat → Bool} {held : Bool}

theorem open_turn {n : Nat} {v0 v1 v2 v3 : Value} {x : DataW H × List MemPlace} (h : DataW.trod enc Tryz.prog w base spare held n 26 [v0, v1, v2, v3] = some x) :
    ∃ t : Tn, v0 = .int .i64 t.m ∧ v1 = .int .i64 t.k ∧ v2 = .int .i64 t.v ∧ v3 = .int .i64 t.u ∧ x = (.agg [.lit (.int .i64 t.m), .lit (.int .i64 t.k), .lit (.int .i64 t.v), .lit (.int .i64 t.u)], []) ∧
      ((Lit.int .i64 t.m).wf = true ∧ (Lit.int .i64 t.k).wf = true ∧ (Lit.int .i64 t.v).wf = true ∧ (Lit.int .i64 t.u).wf = true) := by
  obtain ⟨y0, y1, y2, y3, n', hx, _, h0, h1, h2, h3⟩ := trod_struct4 Tryz.underlying26 h
  simp [cells3] at h0 h1 h2 h3
  obtain ⟨a, e0, rfl, w0⟩ := DataW.trod_int Tryz.underlying3 h0
  obtain ⟨b, e1, rfl, w1⟩ := DataW.trod_int Tryz.underlying3 h1
  obtain ⟨c, e2, rfl, w2⟩ := DataW.trod_int Tryz.underlying3 h2
  obtain ⟨d, e3, rfl, w3⟩ := DataW.trod_int Tryz.underlying3 h3
  simp only [List.cons.injEq, and_true] at e0 e1 e2 e3
  exact ⟨⟨a, b, c, d⟩, e0, e1, e2, e3, by simpa using hx, w0, w1, w2, w3⟩

theorem shut_turn (t : Tn) (h : (Lit.int .i64 t.m).wf = true ∧ (Lit.int .i64 t.k).wf = true ∧ (Lit.int .i64 t.v).wf = true ∧ (Lit.int .i64 t.u).wf = true) :
    DataW.trod enc Tryz.prog w base spare held 2 26 [.int .i64 t.m, .int .i64 t.k, .int .i64 t.v, .int .i64 t.u] = some (.agg [.lit (.int .i64 t.m), .lit (.int .i64 t.k), .lit (.int .i64 t.v), .lit (.int .i64 t.u)], []) := by
  obtain ⟨w0, w1, w2, w3⟩ := h
  have := trod_struct4_mk (enc := enc) (w := w) (base := base) (spare := spare) (held := held) (n := 1) (cs := [.int .i64 t.m, .int .i64 t.k, .int .i64 t.v, .int .i64 t.u]) (y0 := (.lit (.int .i64 t.m), [])) (y1 := (.lit (.int .i64 t.k), [])) (y2 := (.lit (.int .i64 t.v), [])) (y3 := (.lit (.int .i64 t.u), [])) Tryz.underlying26 (by rw [cellsT]; rfl)
    (by simp [cells3, DataW.trod, Tryz.underlying3, w0]) (by simp [cells3, DataW.trod, Tryz.underlying3, w1]) (by simp [cells3, DataW.trod, Tryz.underlying3, w2]) (by simp [cells3, DataW.trod, Tryz.underlying3, w3])
  simpa using this

theorem open_zone {r : Reach} {b0 : Nat} {v : Value} {d : DataW H} {p : List MemPlace} (hv : Value.okWide Tryz.prog w r b0 28 v) (h : DataW.Trod enc Tryz.prog w base spare held 28 v d p) :
    ∃ z : Zn, v = .agg (zc z) ∧ d = zd z ∧ p = [] ∧ Zwf z := by
  obtain ⟨cs, rfl, hsz⟩ := okWide_struct Tryz.underlying28 hv
  obtain ⟨l⟩ := cs
  match l, hsz.trans cellsZ with
  | [c0, c1, c2, c3, c4, c5, c6, c7, c8, c9], _ =>
    obtain ⟨fuel, hf⟩ := h
    obtain ⟨y0, y1, y2, y3, n, hx, _, h0, h1, h2, h3⟩ := trod_struct4 Tryz.underlying28 hf
    simp [Value.cells, cells3] at h0 h1
    simp [Value.cells, cellsT] at h2 h3
    obtain ⟨a, e0, rfl, w0⟩ := DataW.trod_int Tryz.underlying3 h0
    obtain ⟨b, e1, rfl, w1⟩ := DataW.trod_int Tryz.underlying3 h1
    obtain ⟨s, rfl, rfl, rfl, rfl, rfl, ws0, ws1, ws2, ws3⟩ := open_turn h2
    obtain ⟨t, rfl, rfl, rfl, rfl, rfl, wt0, wt1, wt2, wt3⟩ := open_turn h3
    simp only [List.cons.injEq, and_true] at e0 e1
    subst e0 e1
    simp only [Prod.mk.injEq] at hx
    exact ⟨⟨a, b, s, t⟩, rfl, hx.1, by simpa using hx.2, w0, w1, ws0, ws1, ws2, ws3, wt0, wt1, wt2, wt3⟩

theorem shut_zone (z : Zn) (h : Zwf z) : DataW.Trod enc Tryz.prog w base spare held 28 (.agg (zc z)) (zd z) [] := by
  obtain ⟨w0, w1, ws0, ws1, ws2, ws3, wt0, wt1, wt2, wt3⟩ := h
  have hp := shut_turn (enc := enc) (w := w) (base := base) (spare := spare) (held := held) z.p ⟨ws0, ws1, ws2, ws3⟩
  have hq := shut_turn (enc := enc) (w := w) (base := base) (spare := spare) (held := held) z.q ⟨wt0, wt1, wt2, wt3⟩
  have := trod_struct4_mk (enc := enc) (w := w) (base := base) (spare := spare) (held := held) (n := 2) (cs := (zc z).toList) (y0 := (.lit (.int .i64 z.b), [])) (y1 := (.lit (.int .i64 z.s), [])) (y2 := (.agg [.lit (.int .i64 z.p.m), .lit (.int .i64 z.p.k), .lit (.int .i64 z.p.v), .lit (.int .i64 z.p.u)], [])) (y3 := (.agg [.lit (.int .i64 z.q.m), .lit (.int .i64 z.q.k), .lit (.int .i64 z.q.v), .lit (.int .i64 z.q.u)], [])) Tryz.underlying28 (by rw [cellsZ]; rfl)
    (by simp [zc, cells3, DataW.trod, Tryz.underlying3, w0]) (by simp [zc, cells3, DataW.trod, Tryz.underlying3, w1]) (by simpa [zc, cellsT] using hp) (by simpa [zc, cellsT] using hq)
  exact ⟨3, by simpa [Value.cells, zc, zd] using this⟩

end

end Go.Proofs.YtihdijkplmfhfaaGreatDoor.Greg

/- Configurations and windows as arguments: their cells. No condition but those that each theorem states. -/
namespace Go.Proofs.YtihdijkplmfhfaaGreatDoor.Conf
set_option maxRecDepth 100000
set_option maxRecDepth 100000
open Go.ChangeShapes Go.WideShapes Go.ChangeAt Go.RowKit
open Go.Proofs.YtihdijkplmfhfaaGreatDoor.Divs Go.Proofs.YtihdijkplmfhfaaGreatDoor.Grow Go.Proofs.YtihdijkplmfhfaaGreatDoor.Zone
open Go.Proofs.YtihdijkplmfhfaaGreatDoor.By (Sk SL sk_nil)
open Go.Proofs.YtihdijkplmfhfaaGreatDoor.Zo Go.Proofs.YtihdijkplmfhfaaGreatDoor.Su Go.Proofs.YtihdijkplmfhfaaGreatDoor.Cf

theorem own : ownKnob Tryz.prog.godebug = none := by kernel_rfl
theorem laidOut : laidOutB Tryz.prog = true := by kernel_rfl
theorem cellsI : Tryz.prog.cellsOf 3 = 1 := by kernel_rfl
theorem cellsB : Tryz.prog.cellsOf 4 = 1 := by kernel_rfl
theorem cellsC : Tryz.prog.cellsOf 33 = 37 := by kernel_rfl
theorem cellsW : Tryz.prog.cellsOf 65 = 7 := by kernel_rfl
theorem cellsT : Tryz.prog.cellsOf 24 = 7 := by kernel_rfl
theorem cellsZ : Tryz.prog.cellsOf 28 = 10 := by kernel_rfl
theorem cellsU : Tryz.prog.cellsOf 26 = 4 := by kernel_rfl
theorem cellsS : Tryz.prog.cellsOf 30 = 12 := by kernel_rfl
theorem cellsL : Tryz.prog.cellsOf 22 = 1 := by kernel_rfl
theorem cellsV : Tryz.prog.cellsOf 31 = 1 := by kernel_rfl

section
variable {H : Type} {enc : TypeId × Value → H} {w : World} {base : Nat} {spare : Nat → Bool} {held : Bool}

theorem part {t : TypeId} {fs : Array Field} {fuel : Nat} {cs : List Value} {x : DataW H × List MemPlace} (ht : Tryz.prog.underlying t = some (.struct fs)) (h : DataW.trod enc Tryz.prog w base spare held fuel t cs = some x) (i : Nat) (f : Field) (hf : fs[i]? = some f) :
    ∃ n y, DataW.trod enc Tryz.prog w base spare held n f.type ((cs.drop f.offset).take (Tryz.prog.cellsOf f.type)) = some y := by
  obtain ⟨xs, n, _, _, _, hl, hall⟩ := DataW.trod_struct ht h
  have hi : i < fs.size := (Array.getElem?_eq_some_iff.1 hf).1
  exact ⟨n, xs[i]'(by omega), by rw [hall i f hf]; exact List.getElem?_eq_getElem (by omega)⟩

theorem cell_int {n : Nat} {c : Value} {y : DataW H × List MemPlace} (h : DataW.trod enc Tryz.prog w base spare held n 3 [c] = some y) : ∃ a, c = .int .i64 a := by
  obtain ⟨a, e, _, _⟩ := DataW.trod_int Tryz.underlying3 h
  simp only [List.cons.injEq, and_true] at e
  exact ⟨a, e⟩

theorem cell_bool {n : Nat} {c : Value} {y : DataW H × List MemPlace} (h : DataW.trod enc Tryz.prog w base spare held n 4 [c] = some y) : ∃ a, c = .bool a := by
  obtain ⟨a, e, _⟩ := DataW.trod_bool Tryz.underlying4 h
  simp only [List.cons.injEq, and_true] at e
  exact ⟨a, e⟩

theorem open_turn {n : Nat} {c0 c1 c2 c3 : Value} {x : DataW H × List MemPlace} (h : DataW.trod enc Tryz.prog w base spare held n 26 [c0, c1, c2, c3] = some x) :
    ∃ a0 a1 a2 a3 : Int, c0 = .int .i64 a0 ∧ c1 = .int .i64 a1 ∧ c2 = .int .i64 a2 ∧ c3 = .int .i64 a3 := by
  obtain ⟨n0, y0, h0⟩ := part Tryz.underlying26 h 0 _ rfl
  obtain ⟨n1, y1, h1⟩ := part Tryz.underlying26 h 1 _ rfl
  obtain ⟨n2, y2, h2⟩ := part Tryz.underlying26 h 2 _ rfl
  obtain ⟨n3, y3, h3⟩ := part Tryz.underlying26 h 3 _ rfl
  simp [cellsI] at h0 h1 h2 h3
  obtain ⟨a0, e0⟩ := cell_int h0
  obtain ⟨a1, e1⟩ := cell_int h1
  obtain ⟨a2, e2⟩ := cell_int h2
  obtain ⟨a3, e3⟩ := cell_int h3
  exact ⟨a0, a1, a2, a3, e0, e1, e2, e3⟩

theorem open_times {n : Nat} {c0 c1 c2 c3 c4 c5 c6 : Value} {x : DataW H × List MemPlace} (h : DataW.trod enc Tryz.prog w base spare held n 24 [c0, c1, c2, c3, c4, c5, c6] = some x) :
    ∃ a0 a1 a2 a3 a4 a5 a6 : Int, c0 = .int .i64 a0 ∧ c1 = .int .i64 a1 ∧ c2 = .int .i64 a2 ∧ c3 = .int .i64 a3 ∧ c4 = .int .i64 a4 ∧ c5 = .int .i64 a5 ∧ c6 = .int .i64 a6 := by
  obtain ⟨n0, y0, h0⟩ := part Tryz.underlying24 h 0 _ rfl
  obtain ⟨n1, y1, h1⟩ := part Tryz.underlying24 h 1 _ rfl
  obtain ⟨n2, y2, h2⟩ := part Tryz.underlying24 h 2 _ rfl
  obtain ⟨n3, y3, h3⟩ := part Tryz.underlying24 h 3 _ rfl
  obtain ⟨n4, y4, h4⟩ := part Tryz.underlying24 h 4 _ rfl
  obtain ⟨n5, y5, h5⟩ := part Tryz.underlying24 h 5 _ rfl
  obtain ⟨n6, y6, h6⟩ := part Tryz.underlying24 h 6 _ rfl
  simp [cellsI] at h0 h1 h2 h3 h4 h5 h6
  obtain ⟨a0, e0⟩ := cell_int h0
  obtain ⟨a1, e1⟩ := cell_int h1
  obtain ⟨a2, e2⟩ := cell_int h2
  obtain ⟨a3, e3⟩ := cell_int h3
  obtain ⟨a4, e4⟩ := cell_int h4
  obtain ⟨a5, e5⟩ := cell_int h5
  obtain ⟨a6, e6⟩ := cell_int h6
  exact ⟨a0, a1, a2, a3, a4, a5, a6, e0, e1, e2, e3, e4, e5, e6⟩

theorem open_wn {n : Nat} {c0 c1 c2 c3 c4 c5 c6 : Value} {x : DataW H × List MemPlace} (h : DataW.trod enc Tryz.prog w base spare held n 65 [c0, c1, c2, c3, c4, c5, c6] = some x) :
    ∃ a0 a1 a2 a3 a4 a5 a6 : Int, c0 = .int .i64 a0 ∧ c1 = .int .i64 a1 ∧ c2 = .int .i64 a2 ∧ c3 = .int .i64 a3 ∧ c4 = .int .i64 a4 ∧ c5 = .int .i64 a5 ∧ c6 = .int .i64 a6 := by
  obtain ⟨n0, y0, h0⟩ := part Tryz.underlying65 h 0 _ rfl
  obtain ⟨n1, y1, h1⟩ := part Tryz.underlying65 h 1 _ rfl
  obtain ⟨n2, y2, h2⟩ := part Tryz.underlying65 h 2 _ rfl
  obtain ⟨n3, y3, h3⟩ := part Tryz.underlying65 h 3 _ rfl
  obtain ⟨n4, y4, h4⟩ := part Tryz.underlying65 h 4 _ rfl
  obtain ⟨n5, y5, h5⟩ := part Tryz.underlying65 h 5 _ rfl
  obtain ⟨n6, y6, h6⟩ := part Tryz.underlying65 h 6 _ rfl
  simp [cellsI] at h0 h1 h2 h3 h4 h5 h6
  obtain ⟨a0, e0⟩ := cell_int h0
  obtain ⟨a1, e1⟩ := cell_int h1
  obtain ⟨a2, e2⟩ := cell_int h2
  obtain ⟨a3, e3⟩ := cell_int h3
  obtain ⟨a4, e4⟩ := cell_int h4
  obtain ⟨a5, e5⟩ := cell_int h5
  obtain ⟨a6, e6⟩ := cell_int h6
  exact ⟨a0, a1, a2, a3, a4, a5, a6, e0, e1, e2, e3, e4, e5, e6⟩

theorem open_zone {n : Nat} {c0 c1 c2 c3 c4 c5 c6 c7 c8 c9 : Value} {x : DataW H × List MemPlace} (h : DataW.trod enc Tryz.prog w base spare held n 28 [c0, c1, c2, c3, c4, c5, c6, c7, c8, c9] = some x) :
    ∃ z : Zn, c0 = .int .i64 z.b ∧ c1 = .int .i64 z.s ∧ c2 = .int .i64 z.p.m ∧ c3 = .int .i64 z.p.k ∧ c4 = .int .i64 z.p.v ∧ c5 = .int .i64 z.p.u ∧ c6 = .int .i64 z.q.m ∧ c7 = .int .i64 z.q.k ∧ c8 = .int .i64 z.q.v ∧ c9 = .int .i64 z.q.u := by
  obtain ⟨n0, y0, h0⟩ := part Tryz.underlying28 h 0 _ rfl
  obtain ⟨n1, y1, h1⟩ := part Tryz.underlying28 h 1 _ rfl
  obtain ⟨n2, y2, h2⟩ := part Tryz.underlying28 h 2 _ rfl
  obtain ⟨n3, y3, h3⟩ := part Tryz.underlying28 h 3 _ rfl
  simp [cellsI] at h0 h1
  simp [cellsU] at h2 h3
  obtain ⟨b, e0⟩ := cell_int h0
  obtain ⟨s, e1⟩ := cell_int h1
  obtain ⟨a0, a1, a2, a3, e2, e3, e4, e5⟩ := open_turn h2
  obtain ⟨b0, b1, b2, b3, e6, e7, e8, e9⟩ := open_turn h3
  exact ⟨⟨b, s, ⟨a0, a1, a2, a3⟩, ⟨b0, b1, b2, b3⟩⟩, e0, e1, e2, e3, e4, e5, e6, e7, e8, e9⟩

theorem open_sn {n : Nat} {c0 c1 c2 c3 c4 c5 c6 c7 c8 c9 c10 c11 : Value} {x : DataW H × List MemPlace} (h : DataW.trod enc Tryz.prog w base spare held n 30 [c0, c1, c2, c3, c4, c5, c6, c7, c8, c9, c10, c11] = some x) :
    ∃ s : Nat → Int, c0 = .int .i64 (s 0) ∧ c1 = .int .i64 (s 1) ∧ c2 = .int .i64 (s 2) ∧ c3 = .int .i64 (s 3) ∧ c4 = .int .i64 (s 4) ∧ c5 = .int .i64 (s 5) ∧ c6 = .int .i64 (s 6) ∧ c7 = .int .i64 (s 7) ∧ c8 = .int .i64 (s 8) ∧ c9 = .int .i64 (s 9) ∧ c10 = .int .i64 (s 10) ∧ c11 = .int .i64 (s 11) := by
  obtain ⟨xs, m, _, _, _, hl, hall⟩ := DataW.trod_array Tryz.underlying30 h
  have go : ∀ i, i < 12 → ∃ y, DataW.trod enc Tryz.prog w base spare held m 3 (([c0, c1, c2, c3, c4, c5, c6, c7, c8, c9, c10, c11].drop (i * Tryz.prog.cellsOf 3)).take (Tryz.prog.cellsOf 3)) = some y := fun i hi => ⟨xs[i]'(by omega), by rw [hall i hi]; exact List.getElem?_eq_getElem (by omega)⟩
  obtain ⟨y0, h0⟩ := go 0 (by omega)
  obtain ⟨y1, h1⟩ := go 1 (by omega)
  obtain ⟨y2, h2⟩ := go 2 (by omega)
  obtain ⟨y3, h3⟩ := go 3 (by omega)
  obtain ⟨y4, h4⟩ := go 4 (by omega)
  obtain ⟨y5, h5⟩ := go 5 (by omega)
  obtain ⟨y6, h6⟩ := go 6 (by omega)
  obtain ⟨y7, h7⟩ := go 7 (by omega)
  obtain ⟨y8, h8⟩ := go 8 (by omega)
  obtain ⟨y9, h9⟩ := go 9 (by omega)
  obtain ⟨y10, h10⟩ := go 10 (by omega)
  obtain ⟨y11, h11⟩ := go 11 (by omega)
  simp [cellsI] at h0 h1 h2 h3 h4 h5 h6 h7 h8 h9 h10 h11
  obtain ⟨a0, e0⟩ := cell_int h0
  obtain ⟨a1, e1⟩ := cell_int h1
  obtain ⟨a2, e2⟩ := cell_int h2
  obtain ⟨a3, e3⟩ := cell_int h3
  obtain ⟨a4, e4⟩ := cell_int h4
  obtain ⟨a5, e5⟩ := cell_int h5
  obtain ⟨a6, e6⟩ := cell_int h6
  obtain ⟨a7, e7⟩ := cell_int h7
  obtain ⟨a8, e8⟩ := cell_int h8
  obtain ⟨a9, e9⟩ := cell_int h9
  obtain ⟨a10, e10⟩ := cell_int h10
  obtain ⟨a11, e11⟩ := cell_int h11
  exact ⟨fun i => [a0, a1, a2, a3, a4, a5, a6, a7, a8, a9, a10, a11].getD i 0, e0, e1, e2, e3, e4, e5, e6, e7, e8, e9, e10, e11⟩

/-- A slice of ints. -/
theorem open_st {n : Nat} {v : Value} {x : DataW H × List MemPlace} (h : DataW.trod enc Tryz.prog w base spare held n 22 [v] = some x) : ∃ xs : List Int, Sk .i64 w v xs := by
  rcases open_ints Tryz.underlying22 Tryz.underlying3 (by kernel_rfl) h with ⟨hcs, _⟩ | ⟨x, len, cap, zs, hcs, _, hl, hm, hz, _, hcell, hwz⟩
  · simp only [List.cons.injEq, and_true] at hcs
    subst hcs
    exact ⟨[], sk_nil _ _⟩
  · simp only [List.cons.injEq, and_true] at hcs
    subst hcs
    have h2 : zs.length = if spare x.block = true then cap else len := by simpa using hz
    have hz' : len ≤ zs.length := by rw [h2]; split <;> omega
    have he : (zs.take len).length = len := by rw [List.length_take]; omega
    refine ⟨zs.take len, some x, cap, by rw [he], by rw [he]; exact hl, by simpa [maxLen] using hm, by simp, fun i y hy => ?_⟩
    have hi : i < len := by
      have := (List.getElem?_eq_some_iff.1 hy).1
      omega
    obtain ⟨b, off, rfl, hc⟩ := ints_at hcell (by omega)
    refine ⟨b, off, rfl, ?_⟩
    rw [List.getElem?_take_of_lt hi] at hy
    have := hc i (by omega)
    rwa [List.getD_eq_getElem?_getD, hy] at this

theorem list7 {α : Type} (l : List α) (h : l.length = 7) : ∃ c0 c1 c2 c3 c4 c5 c6, l = [c0, c1, c2, c3, c4, c5, c6] := by
  match l, h with
  | [c0, c1, c2, c3, c4, c5, c6], _ => exact ⟨c0, c1, c2, c3, c4, c5, c6, rfl⟩

/-- The windows behind cells. -/
theorem wins_of (a : Addr) (len : Nat) (h : ∀ i, i < len → ∃ x : Wn, w.cells? base (a.add (i * 7)) 7 = some (wc x)) : ∃ xs : List Wn, xs.length = len ∧ ∀ i x, xs[i]? = some x → w.cells? base (a.add (i * 7)) 7 = some (wc x) := by
  induction len with
  | zero => exact ⟨[], rfl, by simp⟩
  | succ k ih =>
    obtain ⟨xs, hl, hx⟩ := ih (fun i hi => h i (by omega))
    obtain ⟨x, hk⟩ := h k (by omega)
    refine ⟨xs ++ [x], by simp [hl], fun i y hy => ?_⟩
    by_cases e : i < k
    · rw [List.getElem?_append_left (by omega)] at hy
      exact hx i y hy
    · rw [List.getElem?_append_right (by omega)] at hy
      have hi : i - xs.length = 0 := by
        have := (List.getElem?_eq_some_iff.1 hy).1
        simp at this
        omega
      rw [hi] at hy
      have ei : i = k := by omega
      simp only [List.getElem?_cons_zero, Option.some.injEq] at hy
      subst hy ei
      exact hk

theorem open_wins {n : Nat} {v : Value} {x : DataW H × List MemPlace} (h : DataW.trod enc Tryz.prog w base spare held n 31 [v] = some x) : ∃ xs : List Wn, Wk w v xs := by
  rcases DataW.trod_slice Tryz.underlying31 h with ⟨hcs, _⟩ | ⟨a, len, cap, elems, rest, m, _, hcs, _, hb, hl, hm, he, hall, _, _⟩
  · simp only [List.cons.injEq, and_true] at hcs
    subst hcs
    exact ⟨[], none, 0, rfl, by simp, by omega, by simp, by simp [fl]⟩
  · simp only [List.cons.injEq, and_true] at hcs
    subst hcs
    rw [cellsW] at hall
    obtain ⟨xs, hxl, hx⟩ := wins_of (w := w) (base := base) a len (fun i hi => by
      have h1 := hall i hi
      rw [List.getElem?_eq_getElem (by omega), Option.bind_eq_some_iff] at h1
      obtain ⟨cs, hc, ht⟩ := h1
      obtain ⟨c0, c1, c2, c3, c4, c5, c6, rfl⟩ := list7 cs (World.cells?_some hc).2.1
      obtain ⟨a0, a1, a2, a3, a4, a5, a6, rfl, rfl, rfl, rfl, rfl, rfl, rfl⟩ := open_wn ht
      exact ⟨⟨a0, a1, a2, a3, a4, a5, a6⟩, hc⟩)
    subst hxl
    refine ⟨xs, some a, cap, rfl, hl, by simpa [maxLen] using hm, by simp, fun i y hy => ?_⟩
    have hi : i < xs.length * 7 := by
      have := (List.getElem?_eq_some_iff.1 hy).1
      rwa [fl_len] at this
    have hq : i / 7 < xs.length := by omega
    have hr : i % 7 < 7 := by omega
    have hxi : xs[i / 7]? = some (xs[i / 7]) := List.getElem?_eq_getElem hq
    have e1 : i = i / 7 * 7 + i % 7 := by omega
    rw [e1, fl_get hxi hr] at hy
    have hc := (World.cells?_some (hx _ _ hxi)).2.2 (i % 7) hr
    rw [hy] at hc
    obtain ⟨b, off, spot⟩ := a
    have hspot : spot = none := by
      have h0 : xs[0]? = some (xs[0]'(by omega)) := List.getElem?_eq_getElem (by omega)
      have := (World.cells?_some (hx _ _ h0)).2.2 0 (by omega)
      exact World.cell?_spot (this.trans (show (wc _)[0]? = some _ from rfl))
    subst hspot
    refine ⟨b, off, rfl, ?_⟩
    rw [Go.WideShapes.add_plain, Go.WideShapes.add_plain] at hc
    rw [e1, ← Nat.add_assoc]
    exact hc

theorem open_win {r : Reach} {b0 : Nat} {v : Value} {d : DataW H} {p : List MemPlace} (hv : Value.okWide Tryz.prog w r b0 65 v) (h : DataW.Trod enc Tryz.prog w base spare held 65 v d p) :
    ∃ x : Wn, v = .agg (wc x).toArray := by
  obtain ⟨cs, rfl, hsz⟩ := okWide_struct Tryz.underlying65 hv
  obtain ⟨l⟩ := cs
  obtain ⟨c0, c1, c2, c3, c4, c5, c6, rfl⟩ := list7 l (hsz.trans cellsW)
  obtain ⟨fuel, hf⟩ := h
  obtain ⟨a0, a1, a2, a3, a4, a5, a6, rfl, rfl, rfl, rfl, rfl, rfl, rfl⟩ := open_wn hf
  exact ⟨⟨a0, a1, a2, a3, a4, a5, a6⟩, rfl⟩

theorem list37 {α : Type} (l : List α) (h : l.length = 37) : ∃ c0 c1 c2 c3 c4 c5 c6 c7 c8 c9 c10 c11 c12 c13 c14 c15 c16 c17 c18 c19 c20 c21 c22 c23 c24 c25 c26 c27 c28 c29 c30 c31 c32 c33 c34 c35 c36, l = [c0, c1, c2, c3, c4, c5, c6, c7, c8, c9, c10, c11, c12, c13, c14, c15, c16, c17, c18, c19, c20, c21, c22, c23, c24, c25, c26, c27, c28, c29, c30, c31, c32, c33, c34, c35, c36] := by
  match l, h with
  | c0 :: c1 :: c2 :: c3 :: c4 :: c5 :: c6 :: c7 :: c8 :: c9 :: c10 :: c11 :: c12 :: c13 :: c14 :: c15 :: c16 :: c17 :: c18 :: c19 :: c20 :: c21 :: c22 :: c23 :: c24 :: c25 :: c26 :: c27 :: c28 :: c29 :: c30 :: c31 :: c32 :: c33 :: c34 :: c35 :: c36 :: [], _ => exact ⟨c0, c1, c2, c3, c4, c5, c6, c7, c8, c9, c10, c11, c12, c13, c14, c15, c16, c17, c18, c19, c20, c21, c22, c23, c24, c25, c26, c27, c28, c29, c30, c31, c32, c33, c34, c35, c36, rfl⟩

theorem open_cfg {r : Reach} {b0 : Nat} {v : Value} {d : DataW H} {p : List MemPlace} (hv : Value.okWide Tryz.prog w r b0 33 v) (h : DataW.Trod enc Tryz.prog w base spare held 33 v d p) :
    ∃ (c : Cg) (x y : Value), v = .agg (cc c x y) ∧ Sk .i64 w x c.st ∧ Wk w y c.ws := by
  obtain ⟨cs, rfl, hsz⟩ := okWide_struct Tryz.underlying33 hv
  obtain ⟨l⟩ := cs
  obtain ⟨c0, c1, c2, c3, c4, c5, c6, c7, c8, c9, c10, c11, c12, c13, c14, c15, c16, c17, c18, c19, c20, c21, c22, c23, c24, c25, c26, c27, c28, c29, c30, c31, c32, c33, c34, c35, c36, rfl⟩ := list37 l (hsz.trans cellsC)
  obtain ⟨fuel, hf⟩ := h
  obtain ⟨n0, y0, h0⟩ := part Tryz.underlying33 hf 0 _ rfl
  obtain ⟨n1, y1, h1⟩ := part Tryz.underlying33 hf 1 _ rfl
  obtain ⟨n2, y2, h2⟩ := part Tryz.underlying33 hf 2 _ rfl
  obtain ⟨n3, y3, h3⟩ := part Tryz.underlying33 hf 3 _ rfl
  obtain ⟨n4, y4, h4⟩ := part Tryz.underlying33 hf 4 _ rfl
  obtain ⟨n5, y5, h5⟩ := part Tryz.underlying33 hf 5 _ rfl
  obtain ⟨n6, y6, h6⟩ := part Tryz.underlying33 hf 6 _ rfl
  obtain ⟨n7, y7, h7⟩ := part Tryz.underlying33 hf 7 _ rfl
  obtain ⟨n8, y8, h8⟩ := part Tryz.underlying33 hf 8 _ rfl
  obtain ⟨n9, y9, h9⟩ := part Tryz.underlying33 hf 9 _ rfl
  obtain ⟨n10, y10, h10⟩ := part Tryz.underlying33 hf 10 _ rfl
  simp [cellsI, Value.cells] at h0
  simp [cellsI, Value.cells] at h1
  simp [cellsI, Value.cells] at h2
  simp [cellsL, Value.cells] at h3
  simp [cellsT, Value.cells] at h4
  simp [cellsI, Value.cells] at h5
  simp [cellsI, Value.cells] at h6
  simp [cellsZ, Value.cells] at h7
  simp [cellsS, Value.cells] at h8
  simp [cellsB, Value.cells] at h9
  simp [cellsV, Value.cells] at h10
  obtain ⟨a0, rfl⟩ := cell_int h0
  obtain ⟨a1, rfl⟩ := cell_int h1
  obtain ⟨a2, rfl⟩ := cell_int h2
  obtain ⟨st, hs⟩ := open_st h3
  obtain ⟨t0, t1, t2, t3, t4, t5, t6, rfl, rfl, rfl, rfl, rfl, rfl, rfl⟩ := open_times h4
  obtain ⟨a5, rfl⟩ := cell_int h5
  obtain ⟨a6, rfl⟩ := cell_int h6
  obtain ⟨z, rfl, rfl, rfl, rfl, rfl, rfl, rfl, rfl, rfl, rfl⟩ := open_zone h7
  obtain ⟨s, rfl, rfl, rfl, rfl, rfl, rfl, rfl, rfl, rfl, rfl, rfl, rfl⟩ := open_sn h8
  obtain ⟨ab, rfl⟩ := cell_bool h9
  obtain ⟨ws, hw⟩ := open_wins h10
  exact ⟨⟨a0, a1, a2, st, t0, t1, t2, t3, t4, t5, t6, a5, a6, z, s, ab, ws⟩, _, _, rfl, hs, hw⟩

end

end Go.Proofs.YtihdijkplmfhfaaGreatDoor.Conf
