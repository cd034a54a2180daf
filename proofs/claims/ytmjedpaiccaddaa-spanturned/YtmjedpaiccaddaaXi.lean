/-
  Plain facts on the order in which spans are put: the first one there that an instant is in is the weightiest.  Conditions: as each theorem states.
-/
import Derived.Test.YtmjedpaiccaddaaSt
import Derived.Test.YtmjedpaiccaddaaSr
import Derived.Lib.SlBy
import Derived.Shelf.SlGeneric
import Derived.Shelf.SlSortCmp.Insertion
namespace Go.Proofs.Ytmjedpaiccaddaa.Sp
open Go.Sort
open Go.Proofs.Ytmjedpaiccaddaa.Ss (sl sl_yes sl_no)

/-- A span and its place in the row. -/
abbrev Tg := Sp × Nat

instance : Inhabited Tg := ⟨(⟨0, 0, 0, 0⟩, 0)⟩

/-- Is one weightier than another, or does it begin later, of the same weight? -/
def hv (u v : Tg) : Bool := decide (v.1.p < u.1.p) || (decide (v.1.p = u.1.p) && decide (v.1.f < u.1.f))

theorem hv_iff (u v : Tg) : hv u v = true ↔ v.1.p < u.1.p ∨ (v.1.p = u.1.p ∧ v.1.f < u.1.f) := by simp [hv]
theorem hv_no (u v : Tg) : hv u v = false ↔ ¬ (v.1.p < u.1.p ∨ (v.1.p = u.1.p ∧ v.1.f < u.1.f)) := by rw [← hv_iff]; simp

theorem swo_hv : SWO hv where
  irrefl x := by rw [hv_no]; omega
  trans x y z h1 h2 := by rw [hv_iff] at *; omega
  ntrans x y z h1 h2 := by rw [hv_no] at *; omega

/-- Of N places the mark of one: the later it stands, the less. -/
def mk (N : Nat) (u : Tg) : Nat := N - u.2

theorem best_place (N : Nat) (x : Int) : ∀ (n : Nat) (l : List Sp), l.length = n → n ≤ N →
    (best l x = none ∧ ∀ v ∈ l.zipIdx, inn x v.1 = false) ∨ ∃ u ∈ l.zipIdx, best l x = some u.1 ∧ inn x u.1 = true ∧ ∀ v ∈ l.zipIdx, inn x v.1 = true → v = u ∨ sl hv (mk N) u v = true := by
  intro n
  induction n with
  | zero =>
    intro l hl _
    obtain rfl := List.length_eq_zero_iff.1 hl
    exact .inl ⟨rfl, by simp⟩
  | succ n ih =>
    intro l hl hN
    rcases List.eq_nil_or_concat l with rfl | ⟨o, s, rfl⟩
    · simp at hl
    · rw [List.concat_eq_append] at hl ⊢
      have ho : o.length = n := by simpa using hl
      have e : (o ++ [s]).zipIdx = o.zipIdx ++ [(s, n)] := by rw [List.zipIdx_append]; simp [ho]
      have low : ∀ v ∈ o.zipIdx, v.2 < n := fun v hv => by
        have := List.mem_zipIdx hv
        omega
      rw [best_snoc, e]
      by_cases c : s.f ≤ x ∧ x < s.t
      · have ci : inn x s = true := (inn_iff x s).2 c
        rw [if_pos c]
        right
        rcases ih o ho (by omega) with ⟨h1, h2⟩ | ⟨u, hu, h1, h2, h3⟩
        · refine ⟨(s, n), by simp, by rw [h1], ci, fun v hv hi => ?_⟩
          rcases List.mem_append.1 hv with hv | hv
          · rw [h2 v hv] at hi; cases hi
          · exact .inl (List.mem_singleton.1 hv)
        · rw [h1]
          simp only
          have un := low u hu
          by_cases q : ov s u.1 = true
          · rw [if_pos q]
            have qq := (ov_iff s u.1).1 q
            refine ⟨(s, n), by simp, rfl, ci, fun v hv hi => ?_⟩
            rcases List.mem_append.1 hv with hv | hv
            · right
              have vn := low v hv
              rw [sl_yes, hv_iff, hv_no]
              rcases h3 v hv hi with rfl | h4
              · unfold mk; simp only; omega
              · rw [sl_yes, hv_iff, hv_no] at h4
                unfold mk at *; simp only; omega
            · exact .inl (List.mem_singleton.1 hv)
          · rw [if_neg q]
            have qq : ¬ (s.p > u.1.p ∨ (s.p = u.1.p ∧ s.f ≥ u.1.f)) := fun h => q ((ov_iff s u.1).2 h)
            refine ⟨u, List.mem_append_left _ hu, rfl, h2, fun v hv hi => ?_⟩
            rcases List.mem_append.1 hv with hv | hv
            · exact h3 v hv hi
            · right
              rw [List.mem_singleton.1 hv, sl_yes, hv_iff]
              simp only
              omega
      · have ci : inn x s = false := (inn_no x s).2 (by omega)
        rw [if_neg c]
        rcases ih o ho (by omega) with ⟨h1, h2⟩ | ⟨u, hu, h1, h2, h3⟩
        · left
          refine ⟨h1, fun v hv => ?_⟩
          rcases List.mem_append.1 hv with hv | hv
          · exact h2 v hv
          · rw [List.mem_singleton.1 hv]; exact ci
        · right
          refine ⟨u, List.mem_append_left _ hu, h1, h2, fun v hv hi => ?_⟩
          rcases List.mem_append.1 hv with hv | hv
          · exact h3 v hv hi
          · rw [List.mem_singleton.1 hv] at hi; rw [ci] at hi; cases hi

/-- In a row that is put in order the first one that an instant is in is the weightiest one of all. -/
theorem order_best (N : Nat) (l : List Sp) (D : List Tg) (hN : l.length ≤ N) (hp : D.Perm l.zipIdx) (hs : D.Pairwise (fun u v => sl hv (mk N) v u = false)) (x : Int) : fi (D.map (·.1)) x = best l x := by
  have hf : fi (D.map (·.1)) x = (D.find? (fun u => inn x u.1)).map (·.1) := by unfold fi; rw [List.find?_map]; rfl
  rw [hf]
  rcases best_place N x l.length l rfl hN with ⟨h1, h2⟩ | ⟨u, hu, h1, h2, h3⟩
  · rw [h1, List.find?_eq_none.2]
    · rfl
    · intro v hv
      rw [h2 v (hp.mem_iff.1 hv)]; simp
  · rw [h1]
    cases hd : D.find? (fun u => inn x u.1) with
    | none =>
      have := List.find?_eq_none.1 hd u (hp.mem_iff.2 hu)
      rw [h2] at this; simp at this
    | some w =>
      obtain ⟨hw, ys, zs, e, ha⟩ := List.find?_eq_some_iff_append.1 hd
      have hwD : w ∈ D := by rw [e]; simp
      rcases h3 w (hp.mem_iff.1 hwD) hw with rfl | h4
      · rfl
      · exfalso
        have huD := hp.mem_iff.2 hu
        rw [e] at huD
        rcases List.mem_append.1 huD with k | k
        · have := ha u k; rw [h2] at this; simp at this
        · rcases List.mem_cons.1 k with k | k
          · subst k
            rw [(Ss.swo_sl swo_hv (mk N)).irrefl] at h4; cases h4
          · rw [e] at hs
            have := (List.pairwise_cons.1 (List.pairwise_append.1 hs).2.1).1 u k
            rw [this] at h4; cases h4

end Go.Proofs.Ytmjedpaiccaddaa.Sp
