/-
  Configurations by their cells: what the functions answer of them. Conditions: as each theorem states.
-/
import Derived.Test.YthbgllbbliijlaaDm
namespace Go.Proofs.Ythbgllbbliijlaa.Conf
open Go.ChangeShapes Go.WideShapes Go.ChangeAt Go.RowKit
open Go.Proofs.Ythbgllbbliijlaa.Divs Go.Proofs.Ythbgllbbliijlaa.Grow Go.Proofs.Ythbgllbbliijlaa.Zone
open Go.Proofs.Ythbgllbbliijlaa.By (Sk SL bool_no bool_yes)
open Go.Proofs.Ythbgllbbliijlaa.Each
open Go.Proofs.Ythbgllbbliijlaa.Zo Go.Proofs.Ythbgllbbliijlaa.Su Go.Proofs.Ythbgllbbliijlaa.Cf

/-- D are the cells of c. -/
def Is (W : World) (D : Array Value) (c : Cg) : Prop := ∃ u v, D = cc c u v ∧ Sk .i64 W u c.st ∧ Wk W v c.ws

theorem Is.later {W W' : World} {D : Array Value} {c : Cg} (h : Is W D c) (g : Later W W') : Is W' D c := by
  obtain ⟨u, v, rfl, hu, hv⟩ := h
  exact ⟨u, v, rfl, hu.later g, hv.later g⟩

theorem Is.size {W : World} {D : Array Value} {c : Cg} (h : Is W D c) : D.size = 37 := by
  obtain ⟨u, v, rfl, hu, hv⟩ := h
  rfl

theorem Is.one {W : World} {D : Array Value} {c : Cg} (h : Is W D c) : D.all (·.oneCell') = true := by
  obtain ⟨u, v, rfl, hu, hv⟩ := h
  obtain ⟨d0, q0, rfl, _, _⟩ := sk_form hu
  obtain ⟨d1, q1, rfl, _, _⟩ := wk_form hv
  exact cc_one _ _ _ _ _ _ _

/-- D are the cells of c, and its slices are owned from B on. -/
def Own (W : World) (B : Nat) (D : Array Value) (c : Cg) : Prop := ∃ u v, D = cc c u v ∧ SL .i64 3 W B u c.st ∧ WL W B v c.ws

theorem Own.is {W : World} {B : Nat} {D : Array Value} {c : Cg} (h : Own W B D c) : Is W D c := by
  obtain ⟨u, v, rfl, hu, hv⟩ := h
  exact ⟨u, v, rfl, By.SL.sk hu, WL.wk hv⟩

theorem Own.later {W W' : World} {B : Nat} {D : Array Value} {c : Cg} (h : Own W B D c) (g : Later W W') : Own W' B D c := by
  obtain ⟨u, v, rfl, hu, hv⟩ := h
  exact ⟨u, v, rfl, hu.later g, hv.later g⟩

theorem few_of {W : World} {D : Array Value} {c : Cg} (h : Is W D c) : Calls Try.prog 9 #[.agg D] W fun e w' => e = .returned (.bool (fw c)) ∧ Later W w' := by
  obtain ⟨u, v, rfl, hu, hv⟩ := h
  exact few_any c u v W hu hv

theorem check_of {W : World} {D : Array Value} {c : Cg} (h : Is W D c) : Calls Try.prog 12 #[.agg D] W fun e w' => e = .returned (.int .i64 (ce c)) ∧ Later W w' := by
  obtain ⟨u, v, rfl, hu, hv⟩ := h
  exact check_any c u v W hu hv

theorem rcheck_of {W : World} {D : Array Value} {c : Cg} (h : Is W D c) : Calls Try.prog 14 #[.agg D] W fun e w' => e = .returned (.int .i64 (ce c)) ∧ Later W w' := by
  obtain ⟨u, v, rfl, hu, hv⟩ := h
  exact rcfg_any c u v W hu hv

theorem same_of {W : World} {D E : Array Value} {c d : Cg} (h : Is W D c) (k : Is W E d) : Calls Try.prog 16 #[.agg D, .agg E] W fun e w' => e = .returned (.bool (sb c d && tt c d)) ∧ Later W w' := by
  obtain ⟨u, v, rfl, hu, hv⟩ := h
  obtain ⟨u', v', rfl, hu', hv'⟩ := k
  exact same_any c d u v u' v' W hu hu' hv hv'

theorem rsame_of {W : World} {D E : Array Value} {c d : Cg} (h : Is W D c) (k : Is W E d) : Calls Try.prog 17 #[.agg D, .agg E] W fun e w' => e = .returned (.bool (sb c d && tt c d)) ∧ Later W w' := by
  obtain ⟨u, v, rfl, hu, hv⟩ := h
  obtain ⟨u', v', rfl, hu', hv'⟩ := k
  exact rsame_any c d u v u' v' W hu hu' hv hv'

theorem fits_of {W : World} {D E : Array Value} {c d : Cg} (h : Is W D c) (k : Is W E d) : Calls Try.prog 18 #[.agg D, .agg E] W fun e w' => e = .returned (.bool (ft c d)) ∧ Later W w' := by
  obtain ⟨u, v, rfl, hu, hv⟩ := h
  obtain ⟨u', v', rfl, hu', hv'⟩ := k
  exact fits_any c d u v u' v' W hu hu' hv hv'

theorem own_of {W : World} {D : Array Value} {c : Cg} (h : Is W D c) (hf : fw c = true) : Calls Try.prog 13 #[.agg D] W fun e w' => ∃ E, e = .returned (.agg E) ∧ Own w' W.heap.size E c ∧ Later W w' := by
  obtain ⟨u, v, rfl, hu, hv⟩ := h
  obtain ⟨h1, h2⟩ := (fw_iff c).mp hf
  refine (own_any c u v W hu hv h1 h2).mono ?_
  rintro e w' ⟨u', v', rfl, hs, hw, hg⟩
  exact ⟨_, rfl, ⟨u', v', rfl, hs, hw⟩, hg⟩

theorem cc_lead (c : Cg) (u v : Value) (n : Int) : (cc c u v).setIfInBounds 8 (.int .i64 n) = cc (cl c n) u v := by simp [cc, cl]

theorem cc_floors (c : Cg) (u v : Value) (n : Int) : (cc c u v).setIfInBounds 0 (.int .i64 n) = cc (cf c n) u v := by simp [cc, cf]

set_option maxHeartbeats 2000000 in
theorem cc_place (c d : Cg) (u v : Value) : sets (sets (cc c u v) 13 (zc d.z).toList) 23 (Sun.sc d.s).toList = cc (cp c d) u v := by
  simp [sets, cc, cp, zc, Sun.sc]

theorem Is.lead {W : World} {D : Array Value} {c : Cg} (h : Is W D c) (n : Int) : Is W (D.setIfInBounds 8 (.int .i64 n)) (cl c n) := by
  obtain ⟨u, v, rfl, hu, hv⟩ := h
  exact ⟨u, v, cc_lead c u v n, hu, hv⟩

theorem Is.floors {W : World} {D : Array Value} {c : Cg} (h : Is W D c) (n : Int) : Is W (D.setIfInBounds 0 (.int .i64 n)) (cf c n) := by
  obtain ⟨u, v, rfl, hu, hv⟩ := h
  exact ⟨u, v, cc_floors c u v n, hu, hv⟩

theorem Is.place {W : World} {D : Array Value} {c : Cg} (h : Is W D c) (d : Cg) : Is W (sets (sets D 13 (zc d.z).toList) 23 (Sun.sc d.s).toList) (cp c d) := by
  obtain ⟨u, v, rfl, hu, hv⟩ := h
  exact ⟨u, v, cc_place c d u v, hu, hv⟩

end Go.Proofs.Ythbgllbbliijlaa.Conf
