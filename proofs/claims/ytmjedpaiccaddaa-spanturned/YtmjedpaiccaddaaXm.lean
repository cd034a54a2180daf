/-
  Plain facts on the beginnings and ends of spans, put in order, each once; and on the row that comes of them piece by piece.  Conditions: as each theorem states.
-/
import Derived.Test.YtmjedpaiccaddaaSr
import Derived.Lib.SlicesCompact
namespace Go.Proofs.Ytmjedpaiccaddaa.Sp
open Go.Lib

theorem compact_up (d : Array Int) (hs : ∀ i j, i ≤ j → j < d.size → d[i]! ≤ d[j]!) : ∀ m, m ≤ d.size → (compactUpTo d m).Pairwise (· < ·) ∧ ∀ e, e ∈ compactUpTo d m ↔ ∃ j, j < m ∧ d[j]! = e
  | 0, _ => ⟨by unfold compactUpTo; exact List.Pairwise.nil, by unfold compactUpTo; simp⟩
  | m + 1, hm => by
    obtain ⟨h1, h2⟩ := compact_up d hs m (by omega)
    rw [compactUpTo_succ]
    cases hk : keeps d m with
    | true =>
      rw [if_pos rfl]
      refine ⟨List.pairwise_append.2 ⟨h1, List.pairwise_singleton _ _, fun a ha b hb => ?_⟩, fun e => ?_⟩
      · rw [List.mem_singleton.1 hb]
        obtain ⟨j, hj, rfl⟩ := (h2 a).1 ha
        have k : m = 0 ∨ d[m]! ≠ d[m - 1]! := by unfold keeps at hk; exact of_decide_eq_true hk
        have a1 := hs j (m - 1) (by omega) (by omega)
        have a2 := hs (m - 1) m (by omega) (by omega)
        omega
      · rw [List.mem_append, List.mem_singleton, h2]
        constructor
        · rintro (⟨j, hj, e1⟩ | e1)
          · exact ⟨j, by omega, e1⟩
          · exact ⟨m, by omega, e1.symm⟩
        · rintro ⟨j, hj, e1⟩
          by_cases c : j = m
          · right; rw [← e1, c]
          · exact .inl ⟨j, by omega, e1⟩
    | false =>
      have k : ¬ (m = 0 ∨ d[m]! ≠ d[m - 1]!) := by unfold keeps at hk; exact of_decide_eq_false hk
      have k1 : d[m]! = d[m - 1]! := by
        by_cases c : d[m]! = d[m - 1]!
        · exact c
        · exact absurd (.inr c) k
      have k0 : m ≠ 0 := fun c => k (.inl c)
      simp only [Bool.false_eq_true, if_false, List.append_nil]
      refine ⟨h1, fun e => ?_⟩
      rw [h2]
      constructor
      · rintro ⟨j, hj, e1⟩; exact ⟨j, by omega, e1⟩
      · rintro ⟨j, hj, e1⟩
        by_cases c : j = m
        · exact ⟨m - 1, by omega, by rw [← e1, c, k1]⟩
        · exact ⟨j, by omega, e1⟩

/-- Where spans begin and end, in order, each once. -/
def so (l : List Sp) : List Int := (ends l).mergeSort fun x y => decide (x ≤ y)
def Es (l : List Sp) : List Int := compact (so l)

theorem so_perm (l : List Sp) : (so l).Perm (ends l) := List.mergeSort_perm _ _
theorem so_len (l : List Sp) : (so l).length = 2 * l.length := by rw [(so_perm l).length_eq, ends_len]

theorem es_both (l : List Sp) : (Es l).Pairwise (· < ·) ∧ ∀ e, e ∈ Es l ↔ e ∈ ends l := by
  have hp : (so l).Pairwise (fun x y => decide (x ≤ y) = true) := List.pairwise_mergeSort (fun a b c h1 h2 => by simp only [decide_eq_true_eq] at *; omega) (fun a b => by simp only [Bool.or_eq_true, decide_eq_true_eq]; omega) _
  have hs : ∀ i j, i ≤ j → j < (so l).toArray.size → (so l).toArray[i]! ≤ (so l).toArray[j]! := by
    intro i j hij hj
    have hj' : j < (so l).length := by simpa using hj
    rw [getElem!_pos _ i (by simp; omega), getElem!_pos _ j hj]
    simp only [List.getElem_toArray]
    by_cases c : i = j
    · subst c; exact Int.le_refl _
    · have := List.pairwise_iff_getElem.1 hp i j (by omega) hj' (by omega)
      simpa using this
  obtain ⟨h1, h2⟩ := compact_up (so l).toArray hs (so l).length (by simp)
  refine ⟨h1, fun e => ?_⟩
  rw [← (so_perm l).mem_iff]
  show e ∈ compactUpTo (so l).toArray (so l).length ↔ _
  rw [h2]
  constructor
  · rintro ⟨j, hj, rfl⟩
    rw [getElem!_pos _ j (by simpa using hj)]
    simp
  · intro he
    obtain ⟨j, hj, rfl⟩ := List.mem_iff_getElem.1 he
    exact ⟨j, hj, by rw [getElem!_pos _ j (by simpa using hj)]; simp⟩

/-- The k-th one. -/
def ei (l : List Sp) (k : Nat) : Int := (Es l).getD k 0

theorem ei_get {l : List Sp} {k : Nat} (h : k < (Es l).length) : (Es l)[k]? = some (ei l k) := by
  unfold ei; rw [List.getD_eq_getElem?_getD, List.getElem?_eq_getElem h]; rfl

theorem ei_lt {l : List Sp} {i j : Nat} (h : i < j) (hj : j < (Es l).length) : ei l i < ei l j := by
  have := List.pairwise_iff_getElem.1 (es_both l).1 i j (by omega) hj h
  have a := ei_get (l := l) (k := i) (by omega)
  have b := ei_get hj
  rw [List.getElem?_eq_getElem (by omega)] at a b
  rw [← Option.some.inj a, ← Option.some.inj b]
  exact this

theorem ei_le {l : List Sp} {i j : Nat} (h : i ≤ j) (hj : j < (Es l).length) : ei l i ≤ ei l j := by
  by_cases c : i = j
  · subst c; exact Int.le_refl _
  · have := ei_lt (l := l) (i := i) (by omega) hj; omega

theorem ei_mem {l : List Sp} {e : Int} (h : e ∈ ends l) : ∃ k, k < (Es l).length ∧ e = ei l k := by
  obtain ⟨k, hk, e1⟩ := List.mem_iff_getElem.1 ((es_both l).2 e |>.2 h)
  have a := ei_get hk
  rw [List.getElem?_eq_getElem hk, e1] at a
  exact ⟨k, hk, Option.some.inj a⟩

theorem ei_ends {l : List Sp} {k : Nat} (h : k < (Es l).length) : ei l k ∈ ends l := (es_both l).2 _ |>.1 (List.mem_of_getElem? (ei_get h))

theorem nx_ei {l : List Sp} {k : Nat} (h : k + 1 < (Es l).length) : Nx (ends l) (ei l k) (ei l (k + 1)) true := by
  refine ⟨ei_lt (by omega) h, ei_ends h, fun e he => ?_⟩
  obtain ⟨j, hj, rfl⟩ := ei_mem he
  rcases Nat.lt_or_ge k j with c | c
  · exact .inr (ei_le (by omega) hj)
  · exact .inl (ei_le c (by omega))

theorem nx_end {l : List Sp} {k : Nat} (h : k + 1 = (Es l).length) : Nx (ends l) (ei l k) 0 false := by
  intro e he
  obtain ⟨j, hj, rfl⟩ := ei_mem he
  exact ei_le (by omega) (by omega)

theorem ei_first {l : List Sp} : ∀ s ∈ l, ei l 0 ≤ s.f := by
  intro s hs
  obtain ⟨j, hj, e⟩ := ei_mem (f_ends hs)
  rw [e]
  exact ei_le (by omega) hj

theorem es_nil : Es [] = [] := by
  have h := (es_both []).2
  rcases List.eq_nil_or_concat (Es []) with e | ⟨o, s, e⟩
  · exact e
  · have := (h s).1 (by rw [e]; simp)
    simp [ends] at this

theorem es_pos {l : List Sp} (h : l ≠ []) : 0 < (Es l).length := by
  cases l with
  | nil => exact absurd rfl h
  | cons s l =>
    obtain ⟨k, hk, _⟩ := ei_mem (l := s :: l) (f_ends (List.mem_cons_self ..))
    omega

/-- The row behind k rounds. -/
def rk (l : List Sp) : Nat → List Sp
  | 0 => []
  | k + 1 => st l (rk l k) (ei l k) (ei l (k + 1))

theorem rk_len (l : List Sp) : ∀ k, (rk l k).length ≤ k
  | 0 => Nat.le_refl _
  | k + 1 => by
    have := rk_len l k
    unfold rk st
    split
    · rcases List.eq_nil_or_concat (rk l k) with e | ⟨o, s, e⟩
      · rw [e, push_nil]; simp
      · rw [e, List.concat_eq_append, push_last]
        rw [e] at this
        simp only [List.concat_eq_append, List.length_append, List.length_cons, List.length_nil] at this
        split <;> simp <;> omega
    · omega

theorem rk_good (l : List Sp) : ∀ k, k < (Es l).length → Good (rk l k) (md l) (ei l k)
  | 0, _ => st_start l _ ei_first
  | k + 1, h => st_good (rk_good l k (by omega)) (nx_ei h)

/-- Behind the last round it is told whole. -/
theorem rk_full (l : List Sp) : Full (rk l ((Es l).length - 1)) (md l) := by
  by_cases c : l = []
  · subst c
    rw [es_nil]
    exact full_nil
  · have h := es_pos c
    exact st_end 0 (rk_good l _ (by omega)) (nx_end (by omega))

end Go.Proofs.Ytmjedpaiccaddaa.Sp
