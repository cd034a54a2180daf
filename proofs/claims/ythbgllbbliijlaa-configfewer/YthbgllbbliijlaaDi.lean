/-
  A configuration in memory of its own. Conditions: as each theorem states.
-/
import Derived.Test.YthbgllbbliijlaaDj
namespace Go.Proofs.Ythbgllbbliijlaa.Conf
open Go.ChangeShapes Go.WideShapes Go.ChangeAt Go.RowKit
open Go.Proofs.Ythbgllbbliijlaa.Divs Go.Proofs.Ythbgllbbliijlaa.Grow Go.Proofs.Ythbgllbbliijlaa.Zone
open Go.Proofs.Ythbgllbbliijlaa.By (Sk SL bool_no bool_yes)
open Go.Proofs.Ythbgllbbliijlaa.Each
open Go.Proofs.Ythbgllbbliijlaa.Zo Go.Proofs.Ythbgllbbliijlaa.Su Go.Proofs.Ythbgllbbliijlaa.Cf

theorem owns_base {W : World} {b c : Nat} {e : TypeId} {n m : Nat} {v : Value} {xs : List Value} (h : W.ownsRow b e n v m xs) (hb : c ≤ b) : W.ownsRow c e n v m xs := by
  refine ⟨h.1, ?_⟩
  rcases h.2 with h | ⟨g, cap, cur, hv, h1, h2⟩
  · exact .inl h
  · exact .inr ⟨g, cap, cur, hv, Nat.le_trans hb h1, h2⟩

theorem Row.apart {B : Nat} {t : TypeId} {cs : Array Value} {W : World} (h : Row B t cs W) (A i : Nat) (y : Value) (ha : B ≠ A) : Row B t cs (W.setCell ⟨A, i, none⟩ y) := by
  unfold Row at *
  rw [heap_set_other _ _ _ _ _ ha]
  exact h

set_option maxHeartbeats 2000000 in
theorem own_any (c : Cg) (u v : Value) (w : World) (hu : Sk .i64 w u c.st) (hv : Wk w v c.ws) (hs : c.st.length ≤ 80) (hw : c.ws.length ≤ 20) : Calls Try.prog 13 #[.agg (cc c u v)] w fun e w' =>
    ∃ u' v', e = .returned (.agg (cc c u' v')) ∧ SL .i64 3 w' w.heap.size u' c.st ∧ WL w' w.heap.size v' c.ws ∧ Later w w' := by
  obtain ⟨C, hC⟩ : ∃ C, C = cc c u v := ⟨_, rfl⟩
  rw [← hC]
  have f3 : C[3]? = some u := by rw [hC]; rfl
  have F36 : Hid (C[36]? = some v) := Lib.hid (by rw [hC]; rfl)
  have HZ : Hid (C.size = 37) := Lib.hid (by rw [hC]; rfl)
  have HU := Lib.hid hu
  have HV := Lib.hid hv
  have HC := Lib.hid hC
  obtain ⟨d0, q0, rfl, _, _⟩ := sk_form hu
  obtain ⟨d9, q9, rfl, _, _⟩ := wk_form hv
  clear hC hu hv
  go_enter Try.func13, Try.ntmps13
  go_wp2_with (first
    | (at_builtin; refine append_ints' rfl _ _ rfl _ ((Later.refl _).alloc _ _) (w.heap.size + 1 + 1) (by simp) _ [] rfl (ints_made' _ _ _ (by simp) (by simp)) _ c.st rfl (HU.out.later ((((Later.refl w).alloc _ _).alloc _ _).alloc _ _)) (by simp; omega) ?_; intro u' w1 hs1 hg1; rw [List.nil_append] at hs1; obtain ⟨d1, q1, rfl, _, _⟩ := sk_form (By.SL.sk hs1); have HA1 := Lib.hid (((Row.new w C 33).later ((Later.refl _).alloc _ _)).later hg1); have HR1 := Lib.hid ((Row.new _ _ _).later hg1); have HG1 := Lib.hid (gtrans (((Later.refl w).alloc _ _).alloc _ _) hg1); have HS1 := Lib.hid hs1; have HSZ : Hid (w.heap.size + 2 ≤ w1.heap.size) := Lib.hid (by have := hg1.size; simp at this; omega); clear hs1 hg1; have a3 := HA1.out.cell 3 f3; have a36 := ((HA1.out.set 3 (.slice d1 c.st.length q1)).later ((Later.refl _).alloc #[] 35)).cell 36 (v := .slice d9 c.ws.length q9) (by rw [Array.getElem?_setIfInBounds_ne (by omega)]; exact F36.out); have z3 := HA1.out.frozen 3)
    | (at_builtin; refine append_wins' rfl _ _ rfl _ ((Later.refl _).alloc _ _) _ rfl _ [] rfl (wins_made' _ _ _ (by simp) (by simp)) _ c.ws rfl (HV.out.later ((HG1.out.setCell (Nat.le_refl _) _).alloc _ _)) (by simp; omega) ?_; intro v' w2 hs2 hg2; rw [List.nil_append] at hs2; obtain ⟨d2, q2, rfl, _, _⟩ := wk_form (WL.wk hs2); have HA2 := Lib.hid ((HA1.out.set 3 _).later hg2); have b36 := HA2.out.cell 36 (v := .slice d9 c.ws.length q9) (by rw [Array.getElem?_setIfInBounds_ne (by omega)]; exact F36.out); have y36 := HA2.out.frozen 36; have HS2 := Lib.hid hs2; have HG2 := Lib.hid hg2; clear hs2 hg2; obtain ⟨D, hD⟩ : ∃ D, D = (cc c (.slice d1 c.st.length q1) (.slice d2 c.ws.length q2)) := ⟨_, rfl⟩; have HD := Lib.hid hD; have D37 : Hid (D.size = 37) := Lib.hid (by rw [hD]; rfl); have D1 : Hid (D.all (·.oneCell') = true) := Lib.hid (by rw [hD]; unfold cc; simp [Value.oneCell']); clear hD; have HA3 : Hid (At (w2.setCell ⟨w.heap.size, 36, none⟩ (.slice d2 c.ws.length q2)) w.heap.size D) := Lib.hid (by have h := (HA2.out.set 36 (.slice d2 c.ws.length q2)).at; rw [HC.out] at h; rw [HD.out]; exact h); have HR3 := Lib.hid (((HR1.out.apart w.heap.size 3 (.slice d1 c.st.length q1) (by simp)).later HG2.out).apart w.heap.size 36 (.slice d2 c.ws.length q2) (by simp)); have HT3 : Hid ((w2.setCell ⟨w.heap.size, 36, none⟩ (.slice d2 c.ws.length q2)).there (w.heap.size + 1) 0 D.size) := Lib.hid (by rw [D37.out]; have h := HR3.out.there; simp only [World.size_alloc] at h; exact h); clear HR3 HR1)
    | (refine load_at D D37.out rfl (.tmp 1) rfl w.heap.size rfl HA3.out ?_)
    | (refine wpList_store_mid rfl 33 (.tmp 2) (.tmp 13) rfl (w.heap.size + 1) 0 D rfl rfl HT3.out (by rw [D37.out]; kernel_rfl) D1.out ?_))
  have hAt : At ((w2.setCell ⟨w.heap.size, 36, none⟩ (.slice d2 c.ws.length q2)).setCells (w.heap.size + 1) 0 D.toList) (w.heap.size + 1) D := fun j x hx => by
    have := World.rangeAt_setCells_same (w2.setCell ⟨w.heap.size, 36, none⟩ (.slice d2 c.ws.length q2)) (w.heap.size + 1) 0 D.toList (by rw [Array.length_toList]; exact HT3.out) j x (by simpa using hx)
    rwa [Nat.zero_add] at this
  refine bodyPost_ret (v := .agg D) (results_at (fn := Try.f13) Try.results13 _ _ (w.heap.size + 1) D D37.out rfl hAt) rfl ?_
  refine ⟨.slice d1 c.st.length q1, .slice d2 c.ws.length q2, by rw [HD.out], ?_, ?_, ?_⟩
  · have h1 : By.SL .i64 3 (w1.setCell ⟨w.heap.size, 3, none⟩ (.slice d1 c.st.length q1)) (w.heap.size + 1 + 1) (.slice d1 c.st.length q1) c.st := owns_set HS1.out (by omega) _ _
    exact owns_base (owns_sets (by omega) _ _ _ (owns_set (h1.later HG2.out) (by omega) _ _)) (by omega)
  · have hsz : w.heap.size + 1 < (w1.setCell ⟨w.heap.size, 3, none⟩ (.slice d1 c.st.length q1)).heap.size := by
      have := HSZ.out
      simp
      omega
    exact owns_base (owns_sets hsz _ _ _ (owns_set HS2.out (by omega) _ _)) (by omega)
  · exact later_sets (by omega) _ _ _ ((gtrans (HG1.out.setCell (Nat.le_refl _) _) HG2.out).setCell (Nat.le_refl _) _)

end Go.Proofs.Ythbgllbbliijlaa.Conf
