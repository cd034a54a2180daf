/-
  Plain facts on spans, more: what is between two instants; what no beginning and no end lies in; a piece that is put behind a row; how many there are.  Conditions: as each theorem states.
-/
import Derived.Test.YtmjedpaiccaddaaSp
namespace Go.Proofs.Ytmjedpaiccaddaa.Sp

/-! Between two instants. -/

def cl (a b : Int) (s : Sp) : Sp := ⟨max s.f a, min s.t b, s.m, s.p⟩
def cu (l : List Sp) (a b : Int) : List Sp := (l.map (cl a b)).filter (fun s => decide (s.f < s.t))
theorem cu_nil (a b : Int) : cu [] a b = [] := rfl
theorem cu_cons (s : Sp) (l : List Sp) (a b : Int) : cu (s :: l) a b = if (cl a b s).f < (cl a b s).t then cl a b s :: cu l a b else cu l a b := by
  unfold cu; rw [List.map_cons, List.filter_cons]; simp only [decide_eq_true_eq]
theorem cu_append (A B : List Sp) (a b : Int) : cu (A ++ B) a b = cu A a b ++ cu B a b := by simp [cu]
theorem cu_len (l : List Sp) (a b : Int) : (cu l a b).length ≤ l.length := by
  unfold cu; exact Nat.le_trans (List.length_filter_le _ _) (by simp)

theorem mem_cu {s : Sp} {l : List Sp} {a b : Int} (h : s ∈ cu l a b) : s.f < s.t ∧ ∃ u ∈ l, s = cl a b u := by
  unfold cu at h
  rw [List.mem_filter, List.mem_map] at h
  obtain ⟨⟨u, hu, rfl⟩, h2⟩ := h
  exact ⟨by simpa using h2, u, hu, rfl⟩

theorem te_cu (l : List Sp) (a b x : Int) : te (cu l a b) x = if a ≤ x ∧ x < b then te l x else none := by
  induction l with
  | nil => simp [cu_nil, te_nil]
  | cons s l ih =>
    rw [cu_cons, te_cons s l]
    have hi : inn x (cl a b s) = true ↔ (inn x s = true ∧ a ≤ x ∧ x < b) := by
      rw [inn_iff, inn_iff]; simp only [cl]; omega
    by_cases hc : (cl a b s).f < (cl a b s).t
    · rw [if_pos hc, te_cons, ih]
      by_cases h1 : a ≤ x ∧ x < b
      · simp only [if_pos h1]
        cases h2 : inn x s with
        | true => rw [if_pos (hi.2 ⟨h2, h1⟩)]; rfl
        | false => rw [if_neg (by rw [hi, h2]; simp)]; rfl
      · rw [if_neg (by rw [hi]; exact fun h => h1 h.2), if_neg h1, if_neg h1]
    · rw [if_neg hc, ih]
      by_cases h1 : a ≤ x ∧ x < b
      · simp only [if_pos h1]
        cases h2 : inn x s with
        | false => rfl
        | true =>
          have h3 := (inn_iff x (cl a b s)).1 (hi.2 ⟨h2, h1⟩)
          omega
      · rw [if_neg h1, if_neg h1]

theorem row_cu {R : List Sp} (h : Row R) (a b : Int) : Row (cu R a b) := by
  refine ⟨fun s hs => (mem_cu hs).1, ?_, ?_⟩
  · intro s hs
    obtain ⟨_, u, hu, rfl⟩ := mem_cu hs
    exact h.pri u hu
  · induction R with
    | nil => exact List.Pairwise.nil
    | cons s R ih =>
      rw [cu_cons]
      split
      · rename_i hc
        refine List.pairwise_cons.2 ⟨?_, ih (row_tail h)⟩
        intro u hu
        obtain ⟨hu0, v, hv, rfl⟩ := mem_cu hu
        have h1 := row_head h v hv
        have h2 := h.len s (List.mem_cons_self ..)
        simp only [cl, beh] at *
        refine ⟨by omega, fun e => h1.2.2 (by omega)⟩
      · exact ih (row_tail h)

theorem full_cu {R : List Sp} {g : Int → Option Int} (h : Full R g) (a b : Int) : Full (cu R a b) (fun x => if a ≤ x ∧ x < b then g x else none) :=
  ⟨row_cu h.row a b, fun x => by rw [te_cu, h.all]⟩

/-! What begins or ends. -/

def ends (l : List Sp) : List Int := l.flatMap (fun s => [s.f, s.t])
theorem ends_cons (s : Sp) (l : List Sp) : ends (s :: l) = s.f :: s.t :: ends l := rfl
theorem ends_append (A B : List Sp) : ends (A ++ B) = ends A ++ ends B := by simp [ends]
theorem mem_ends {e : Int} {l : List Sp} : e ∈ ends l ↔ ∃ s ∈ l, e = s.f ∨ e = s.t := by simp [ends]
theorem f_ends {s : Sp} {l : List Sp} (h : s ∈ l) : s.f ∈ ends l := mem_ends.2 ⟨s, h, .inl rfl⟩
theorem t_ends {s : Sp} {l : List Sp} (h : s ∈ l) : s.t ∈ ends l := mem_ends.2 ⟨s, h, .inr rfl⟩
theorem ends_len (l : List Sp) : (ends l).length = 2 * l.length := by
  induction l with
  | nil => rfl
  | cons s l ih => rw [ends_cons, List.length_cons, List.length_cons, List.length_cons, ih]; omega

theorem be_same (l : List Sp) (x y : Int) (b : Option Sp) (h : ∀ s ∈ l, inn x s = inn y s) : be x l b = be y l b := by
  induction l generalizing b with
  | nil => rfl
  | cons s l ih =>
    unfold be
    rw [h s (List.mem_cons_self ..)]
    exact ih _ (fun u hu => h u (List.mem_cons_of_mem _ hu))

theorem inn_same (x y : Int) (s : Sp) (hf : s.f ≤ x ↔ s.f ≤ y) (ht : x < s.t ↔ y < s.t) : inn x s = inn y s := by
  unfold inn; simp only [hf, ht]

/-- Where nothing begins or ends behind a and up to x, it is at x as it is at a. -/
theorem best_flat (l : List Sp) (a x : Int) (hx : a ≤ x) (h : ∀ e ∈ ends l, e ≤ a ∨ x < e) : best l x = best l a := by
  apply be_same
  intro s hs
  have h1 := h s.f (f_ends hs)
  have h2 := h s.t (t_ends hs)
  exact inn_same x a s (by omega) (by omega)
theorem md_flat (l : List Sp) (a x : Int) (hx : a ≤ x) (h : ∀ e ∈ ends l, e ≤ a ∨ x < e) : md l x = md l a := by unfold md; rw [best_flat l a x hx h]

theorem be_out (l : List Sp) (x : Int) (b : Option Sp) (h : ∀ s ∈ l, inn x s = false) : be x l b = b := by
  induction l generalizing b with
  | nil => rfl
  | cons s l ih =>
    unfold be
    rw [h s (List.mem_cons_self ..)]
    exact ih _ (fun u hu => h u (List.mem_cons_of_mem _ hu))
theorem best_out (l : List Sp) (x : Int) (h : ∀ s ∈ l, x < s.f ∨ s.t ≤ x) : best l x = none := be_out l x none (fun s hs => (inn_no x s).2 (h s hs))
theorem md_out (l : List Sp) (x : Int) (h : ∀ s ∈ l, x < s.f ∨ s.t ≤ x) : md l x = none := by unfold md; rw [best_out l x h]; rfl

/-! The weightiest. -/

theorem be_append (A B : List Sp) (x : Int) (b : Option Sp) : be x (A ++ B) b = be x B (be x A b) := by
  induction A generalizing b with
  | nil => rfl
  | cons s A ih => exact ih _

theorem be_mem (l : List Sp) (x : Int) (b : Option Sp) {s : Sp} (h : be x l b = some s) : b = some s ∨ (s ∈ l ∧ inn x s = true) := by
  induction l generalizing b with
  | nil => exact .inl h
  | cons u l ih =>
    unfold be at h
    rcases ih _ h with h1 | ⟨h1, h2⟩
    · by_cases hu : inn x u = true
      · rw [if_pos hu] at h1
        cases b with
        | none => exact .inr ⟨by rw [← Option.some.inj h1]; exact List.mem_cons_self .., by rw [← Option.some.inj h1]; exact hu⟩
        | some c =>
          simp only at h1
          split at h1
          · exact .inr ⟨by rw [← Option.some.inj h1]; exact List.mem_cons_self .., by rw [← Option.some.inj h1]; exact hu⟩
          · exact .inl h1
      · rw [if_neg hu] at h1; exact .inl h1
    · exact .inr ⟨List.mem_cons_of_mem _ h1, h2⟩
theorem best_mem {l : List Sp} {x : Int} {s : Sp} (h : best l x = some s) : s ∈ l ∧ inn x s = true := by
  rcases be_mem l x none h with h | h
  · cases h
  · exact h

/-- A span that goes ahead of all is the weightiest wherever it is, and changes nothing elsewhere: at the end of the row, -/
theorem best_top (l : List Sp) (s : Sp) (x : Int) (h : ∀ u ∈ l, u.p < s.p) : best (l ++ [s]) x = if inn x s then some s else best l x := by
  show be x (l ++ [s]) none = if inn x s then some s else be x l none
  rw [be_append]
  show (if inn x s then (match be x l none with | none => some s | some c => if ov s c then some s else some c) else be x l none) = _
  by_cases hi : inn x s = true
  · rw [if_pos hi, if_pos hi]
    cases hb : be x l none with
    | none => rfl
    | some c =>
      have hc := h c (best_mem hb).1
      have : ov s c = true := by unfold ov; rw [if_pos (by omega)]; simpa using hc
      simp [this]
  · rw [if_neg hi, if_neg hi]

theorem be_stay (l : List Sp) (s : Sp) (x : Int) (h : ∀ u ∈ l, u.p < s.p) : be x l (some s) = some s := by
  induction l with
  | nil => rfl
  | cons u l ih =>
    have hu := h u (List.mem_cons_self ..)
    have : ov u s = false := by unfold ov; rw [if_pos (by omega)]; simp; omega
    unfold be
    simp only [this]
    have := ih (fun v hv => h v (List.mem_cons_of_mem _ hv))
    simpa using this

/-- and at its beginning. -/
theorem best_top0 (l : List Sp) (s : Sp) (x : Int) (h : ∀ u ∈ l, u.p < s.p) : best (s :: l) x = if inn x s then some s else best l x := by
  show be x (s :: l) none = _
  unfold be
  by_cases hi : inn x s = true
  · rw [if_pos hi, if_pos hi]; exact be_stay l s x h
  · rw [if_neg hi, if_neg hi]; rfl

/-- Where no two lie over one another, the weightiest is the first. -/
theorem best_fi (l : List Sp) (x : Int) (h : l.Pairwise (fun s u => s.t ≤ u.f)) : best l x = fi l x := by
  induction l with
  | nil => rfl
  | cons s l ih =>
    have h1 := List.pairwise_cons.1 h
    show be x (s :: l) none = _
    unfold be fi
    rw [List.find?_cons]
    cases hi : inn x s with
    | false => exact ih h1.2
    | true =>
      have := (inn_iff x s).1 hi
      exact be_out l x (some s) (fun u hu => (inn_no x u).2 (by have := h1.1 u hu; omega))
theorem md_te (l : List Sp) (x : Int) (h : l.Pairwise (fun s u => s.t ≤ u.f)) : md l x = te l x := by unfold md te; rw [best_fi l x h]
theorem row_apart {R : List Sp} (h : Row R) : R.Pairwise (fun s u => s.t ≤ u.f) := h.ord.imp (fun h => h.1)

/-- What is resolved is resolved to itself. -/
theorem full_self {R : List Sp} (h : Row R) : Full R (md R) := ⟨h, fun x => (md_te R x (row_apart h)).symm⟩

theorem apart_append {A B : List Sp} {x : Int} (hA : A.Pairwise (fun s u => s.t ≤ u.f)) (hB : B.Pairwise (fun s u => s.t ≤ u.f)) (h1 : ∀ s ∈ A, s.t ≤ x) (h2 : ∀ u ∈ B, x ≤ u.f) : (A ++ B).Pairwise (fun s u => s.t ≤ u.f) := by
  refine List.pairwise_append.2 ⟨hA, hB, ?_⟩
  intro s hs u hu
  have := h1 s hs; have := h2 u hu; omega

/-- What is cut in two tells, put together, what the whole tells. -/
theorem md_two {R : List Sp} (h : Row R) (a b c : Int) (h1 : a ≤ b) (h2 : b ≤ c) (x : Int) : md (cu R a b ++ cu R b c) x = te (cu R a c) x := by
  rw [md_te, te_append, te_cu, te_cu, te_cu]
  · by_cases c1 : a ≤ x ∧ x < b
    · rw [if_pos c1, if_neg (by omega), if_pos (by omega)]; simp
    · rw [if_neg c1]
      by_cases c2 : b ≤ x ∧ x < c
      · rw [if_pos c2, if_pos (by omega)]; simp
      · rw [if_neg c2, if_neg (by omega)]; simp
  · refine apart_append (x := b) (row_apart (row_cu h a b)) (row_apart (row_cu h b c)) ?_ ?_
    · intro s hs; obtain ⟨_, u, _, rfl⟩ := mem_cu hs; simp only [cl]; omega
    · intro s hs; obtain ⟨_, u, _, rfl⟩ := mem_cu hs; simp only [cl]; omega

/-! How many. -/

theorem len_le : ∀ (R E : List Int), R.Pairwise (· < ·) → (∀ e ∈ R, e ∈ E) → R.length ≤ E.length
  | [], _, _, _ => Nat.zero_le _
  | e :: R, E, h, hm => by
    have h1 := List.pairwise_cons.1 h
    have h2 : e ∈ E := hm e (List.mem_cons_self ..)
    have h3 := len_le R (E.erase e) h1.2 (fun u hu => (List.mem_erase_of_ne (by have := h1.1 u hu; omega)).2 (hm u (List.mem_cons_of_mem _ hu)))
    rw [List.length_erase_of_mem h2] at h3
    have : 0 < E.length := List.length_pos_of_mem h2
    rw [List.length_cons]; omega

theorem row_begins {R : List Sp} (h : Row R) : (R.map (·.f)).Pairwise (· < ·) := by
  induction R with
  | nil => exact List.Pairwise.nil
  | cons s R ih =>
    rw [List.map_cons]
    refine List.pairwise_cons.2 ⟨?_, ih (row_tail h)⟩
    intro e he
    obtain ⟨u, hu, rfl⟩ := List.mem_map.1 he
    have := row_head h u hu; have := h.len s (List.mem_cons_self ..); omega

/-- A row's piece begins where the mode turns. -/
theorem begins_turn : ∀ (R : List Sp), Row R → ∀ s ∈ R, te R s.f = some s.m ∧ te R (s.f - 1) ≠ some s.m
  | [], _, _, hs => by cases hs
  | r :: R, h, s, hs => by
    rcases List.mem_cons.1 hs with rfl | hs
    · refine ⟨te_self s.f (Int.le_refl _) (h.len s (List.mem_cons_self ..)), ?_⟩
      rw [first_le h (s.f - 1) (by omega)]; simp
    · have a := row_head h s hs
      have lr := h.len r (List.mem_cons_self ..)
      obtain ⟨b, c⟩ := begins_turn R (row_tail h) s hs
      refine ⟨by rw [te_cons, if_neg (by rw [inn_iff]; omega)]; exact b, ?_⟩
      rw [te_cons]
      split
      · rename_i hi
        rw [inn_iff] at hi
        intro e
        exact a.2.2 (by omega) (Option.some.inj e)
      · exact c

theorem begins_ends {R l : List Sp} (h : Full R (md l)) : ∀ s ∈ R, s.f ∈ ends l := by
  intro s hs
  obtain ⟨a, b⟩ := begins_turn R h.row s hs
  rw [h.all] at a b
  by_cases he : s.f ∈ ends l
  · exact he
  · exact absurd ((md_flat l (s.f - 1) s.f (by omega) (fun e h1 => by have : e ≠ s.f := fun e1 => he (e1 ▸ h1); omega)).symm.trans a) b

theorem full_len {R l : List Sp} (h : Full R (md l)) : R.length ≤ 2 * l.length := by
  have := len_le (R.map (·.f)) (ends l) (row_begins h.row) (by intro e he; obtain ⟨s, hs, rfl⟩ := List.mem_map.1 he; exact begins_ends h s hs)
  rw [List.length_map, ends_len] at this
  exact this

end Go.Proofs.Ytmjedpaiccaddaa.Sp
