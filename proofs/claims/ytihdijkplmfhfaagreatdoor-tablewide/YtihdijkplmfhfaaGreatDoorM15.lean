/-
  Texts of mine, merged: each part says what it holds. Conditions: as each theorem states.
-/
import Derived.Lib.SlicesCompact
import Derived.Deep.MidRow
import Derived.Test.YtihdijkplmfhfaaGreatDoorM14

/- Plain facts on spans, more: what is between two instants; what no beginning and no end lies in; a piece that is put behind a row; how many there are. Conditions: as each theorem states. -/
namespace Go.Proofs.YtihdijkplmfhfaaGreatDoor.Sp
set_option maxRecDepth 100000

/-! Between two instants. -/

def cl (a b : Int) (s : Sp) : Sp := ⟨max s.f a, min s.t b, s.m, s.p⟩
def cu (l : List Sp) (a b : Int) : List Sp := (l.map (cl a b)).filter (fun s => decide (s.f < s.t))
theorem cu_nil (a b : Int) : cu [] a b = [] := rfl
theorem cu_cons (s : Sp) (l : List Sp) (a b : Int) : cu (s :: l) a b = if (cl a b s).f < (cl a b s).t then cl a b s :: cu l a b else cu l a b := by
  unfold cu; rw [List.map_cons, List.filter_cons]; simp only [decide_eq_true_eq]
theorem cu_append (A B : List Sp) (a b : Int) : cu (A ++ B) a b = cu A a b ++ cu B a b := by simp [cu]
theorem cu_len (l : List Sp) (a b : Int) : (cu l a b).length ≤ l.length := by
  unfold cu; exact Nat.le_trans (List.length_filter_le _ _) (by simp)

theorem mem_cu {s : Sp} {l : List Sp} {a b : Int} (h : s ∈ cu l a b) : s.f < s.t ∧ ∃ u ∈ l, s = cl a b u := by
  unfold cu at h
  rw [List.mem_filter, List.mem_map] at h
  obtain ⟨⟨u, hu, rfl⟩, h2⟩ := h
  exact ⟨by simpa using h2, u, hu, rfl⟩

theorem te_cu (l : List Sp) (a b x : Int) : te (cu l a b) x = if a ≤ x ∧ x < b then te l x else none := by
  induction l with
  | nil => simp [cu_nil, te_nil]
  | cons s l ih =>
    rw [cu_cons, te_cons s l]
    have hi : inn x (cl a b s) = true ↔ (inn x s = true ∧ a ≤ x ∧ x < b) := by
      rw [inn_iff, inn_iff]; simp only [cl]; omega
    by_cases hc : (cl a b s).f < (cl a b s).t
    · rw [if_pos hc, te_cons, ih]
      by_cases h1 : a ≤ x ∧ x < b
      · simp only [if_pos h1]
        cases h2 : inn x s with
        | true => rw [if_pos (hi.2 ⟨h2, h1⟩)]; rfl
        | false => rw [if_neg (by rw [hi, h2]; simp)]; rfl
      · rw [if_neg (by rw [hi]; exact fun h => h1 h.2), if_neg h1, if_neg h1]
    · rw [if_neg hc, ih]
      by_cases h1 : a ≤ x ∧ x < b
      · simp only [if_pos h1]
        cases h2 : inn x s with
        | false => rfl
        | true =>
          have h3 := (inn_iff x (cl a b s)).1 (hi.2 ⟨h2, h1⟩)
          omega
      · rw [if_neg h1, if_neg h1]

theorem row_cu {R : List Sp} (h : Row R) (a b : Int) : Row (cu R a b) := by
  refine ⟨fun s hs => (mem_cu hs).1, ?_, ?_⟩
  · intro s hs
    obtain ⟨_, u, hu, rfl⟩ := mem_cu hs
    exact h.pri u hu
  · induction R with
    | nil => exact List.Pairwise.nil
    | cons s R ih =>
      rw [cu_cons]
      split
      · rename_i hc
        refine List.pairwise_cons.2 ⟨?_, ih (row_tail h)⟩
        intro u hu
        obtain ⟨hu0, v, hv, rfl⟩ := mem_cu hu
        have h1 := row_head h v hv
        have h2 := h.len s (List.mem_cons_self ..)
        simp only [cl, beh] at *
        refine ⟨by omega, fun e => h1.2.2 (by omega)⟩
      · exact ih (row_tail h)

theorem full_cu {R : List Sp} {g : Int → Option Int} (h : Full R g) (a b : Int) : Full (cu R a b) (fun x => if a ≤ x ∧ x < b then g x else none) :=
  ⟨row_cu h.row a b, fun x => by rw [te_cu, h.all]⟩

/-! What begins or ends. -/

def ends (l : List Sp) : List Int := l.flatMap (fun s => [s.f, s.t])
theorem ends_cons (s : Sp) (l : List Sp) : ends (s :: l) = s.f :: s.t :: ends l := rfl
theorem ends_append (A B : List Sp) : ends (A ++ B) = ends A ++ ends B := by simp [ends]
theorem mem_ends {e : Int} {l : List Sp} : e ∈ ends l ↔ ∃ s ∈ l, e = s.f ∨ e = s.t := by simp [ends]
theorem f_ends {s : Sp} {l : List Sp} (h : s ∈ l) : s.f ∈ ends l := mem_ends.2 ⟨s, h, .inl rfl⟩
theorem t_ends {s : Sp} {l : List Sp} (h : s ∈ l) : s.t ∈ ends l := mem_ends.2 ⟨s, h, .inr rfl⟩
theorem ends_len (l : List Sp) : (ends l).length = 2 * l.length := by
  induction l with
  | nil => rfl
  | cons s l ih => rw [ends_cons, List.length_cons, List.length_cons, List.length_cons, ih]; omega

theorem be_same (l : List Sp) (x y : Int) (b : Option Sp) (h : ∀ s ∈ l, inn x s = inn y s) : be x l b = be y l b := by
  induction l generalizing b with
  | nil => rfl
  | cons s l ih =>
    unfold be
    rw [h s (List.mem_cons_self ..)]
    exact ih _ (fun u hu => h u (List.mem_cons_of_mem _ hu))

theorem inn_same (x y : Int) (s : Sp) (hf : s.f ≤ x ↔ s.f ≤ y) (ht : x < s.t ↔ y < s.t) : inn x s = inn y s := by
  unfold inn; simp only [hf, ht]

/-- Where nothing begins or ends behind a and up to x, it is at x as it is at a. -/
theorem best_flat (l : List Sp) (a x : Int) (hx : a ≤ x) (h : ∀ e ∈ ends l, e ≤ a ∨ x < e) : best l x = best l a := by
  apply be_same
  intro s hs
  have h1 := h s.f (f_ends hs)
  have h2 := h s.t (t_ends hs)
  exact inn_same x a s (by omega) (by omega)
theorem md_flat (l : List Sp) (a x : Int) (hx : a ≤ x) (h : ∀ e ∈ ends l, e ≤ a ∨ x < e) : md l x = md l a := by unfold md; rw [best_flat l a x hx h]

theorem be_out (l : List Sp) (x : Int) (b : Option Sp) (h : ∀ s ∈ l, inn x s = false) : be x l b = b := by
  induction l generalizing b with
  | nil => rfl
  | cons s l ih =>
    unfold be
    rw [h s (List.mem_cons_self ..)]
    exact ih _ (fun u hu => h u (List.mem_cons_of_mem _ hu))
theorem best_out (l : List Sp) (x : Int) (h : ∀ s ∈ l, x < s.f ∨ s.t ≤ x) : best l x = none := be_out l x none (fun s hs => (inn_no x s).2 (h s hs))
theorem md_out (l : List Sp) (x : Int) (h : ∀ s ∈ l, x < s.f ∨ s.t ≤ x) : md l x = none := by unfold md; rw [best_out l x h]; rfl

/-! The weightiest. -/

theorem be_append (A B : List Sp) (x : Int) (b : Option Sp) : be x (A ++ B) b = be x B (be x A b) := by
  induction A generalizing b with
  | nil => rfl
  | cons s A ih => exact ih _

theorem be_mem (l : List Sp) (x : Int) (b : Option Sp) {s : Sp} (h : be x l b = some s) : b = some s ∨ (s ∈ l ∧ inn x s = true) := by
  induction l generalizing b with
  | nil => exact .inl h
  | cons u l ih =>
    unfold be at h
    rcases ih _ h with h1 | ⟨h1, h2⟩
    · by_cases hu : inn x u = true
      · rw [if_pos hu] at h1
        cases b with
        | none => exact .inr ⟨by rw [← Option.some.inj h1]; exact List.mem_cons_self .., by rw [← Option.some.inj h1]; exact hu⟩
        | some c =>
          simp only at h1
          split at h1
          · exact .inr ⟨by rw [← Option.some.inj h1]; exact List.mem_cons_self .., by rw [← Option.some.inj h1]; exact hu⟩
          · exact .inl h1
      · rw [if_neg hu] at h1; exact .inl h1
    · exact .inr ⟨List.mem_cons_of_mem _ h1, h2⟩
theorem best_mem {l : List Sp} {x : Int} {s : Sp} (h : best l x = some s) : s ∈ l ∧ inn x s = true := by
  rcases be_mem l x none h with h | h
  · cases h
  · exact h

/-- A span that goes ahead of all is the weightiest wherever it is, and changes nothing elsewhere: at the end of the row, -/
theorem best_top (l : List Sp) (s : Sp) (x : Int) (h : ∀ u ∈ l, u.p < s.p) : best (l ++ [s]) x = if inn x s then some s else best l x := by
  show be x (l ++ [s]) none = if inn x s then some s else be x l none
  rw [be_append]
  show (if inn x s then (match be x l none with | none => some s | some c => if ov s c then some s else some c) else be x l none) = _
  by_cases hi : inn x s = true
  · rw [if_pos hi, if_pos hi]
    cases hb : be x l none with
    | none => rfl
    | some c =>
      have hc := h c (best_mem hb).1
      have : ov s c = true := by unfold ov; rw [if_pos (by omega)]; simpa using hc
      simp [this]
  · rw [if_neg hi, if_neg hi]

theorem be_stay (l : List Sp) (s : Sp) (x : Int) (h : ∀ u ∈ l, u.p < s.p) : be x l (some s) = some s := by
  induction l with
  | nil => rfl
  | cons u l ih =>
    have hu := h u (List.mem_cons_self ..)
    have : ov u s = false := by unfold ov; rw [if_pos (by omega)]; simp; omega
    unfold be
    simp only [this]
    have := ih (fun v hv => h v (List.mem_cons_of_mem _ hv))
    simpa using this

/-- and at its beginning. -/
theorem best_top0 (l : List Sp) (s : Sp) (x : Int) (h : ∀ u ∈ l, u.p < s.p) : best (s :: l) x = if inn x s then some s else best l x := by
  show be x (s :: l) none = _
  unfold be
  by_cases hi : inn x s = true
  · rw [if_pos hi, if_pos hi]; exact be_stay l s x h
  · rw [if_neg hi, if_neg hi]; rfl

/-- Where no two lie over one another, the weightiest is the first. -/
theorem best_fi (l : List Sp) (x : Int) (h : l.Pairwise (fun s u => s.t ≤ u.f)) : best l x = fi l x := by
  induction l with
  | nil => rfl
  | cons s l ih =>
    have h1 := List.pairwise_cons.1 h
    show be x (s :: l) none = _
    unfold be fi
    rw [List.find?_cons]
    cases hi : inn x s with
    | false => exact ih h1.2
    | true =>
      have := (inn_iff x s).1 hi
      exact be_out l x (some s) (fun u hu => (inn_no x u).2 (by have := h1.1 u hu; omega))
theorem md_te (l : List Sp) (x : Int) (h : l.Pairwise (fun s u => s.t ≤ u.f)) : md l x = te l x := by unfold md te; rw [best_fi l x h]
theorem row_apart {R : List Sp} (h : Row R) : R.Pairwise (fun s u => s.t ≤ u.f) := h.ord.imp (fun h => h.1)

/-- What is resolved is resolved to itself. -/
theorem full_self {R : List Sp} (h : Row R) : Full R (md R) := ⟨h, fun x => (md_te R x (row_apart h)).symm⟩

theorem apart_append {A B : List Sp} {x : Int} (hA : A.Pairwise (fun s u => s.t ≤ u.f)) (hB : B.Pairwise (fun s u => s.t ≤ u.f)) (h1 : ∀ s ∈ A, s.t ≤ x) (h2 : ∀ u ∈ B, x ≤ u.f) : (A ++ B).Pairwise (fun s u => s.t ≤ u.f) := by
  refine List.pairwise_append.2 ⟨hA, hB, ?_⟩
  intro s hs u hu
  have := h1 s hs; have := h2 u hu; omega

/-- What is cut in two tells, put together, what the whole tells. -/
theorem md_two {R : List Sp} (h : Row R) (a b c : Int) (h1 : a ≤ b) (h2 : b ≤ c) (x : Int) : md (cu R a b ++ cu R b c) x = te (cu R a c) x := by
  rw [md_te, te_append, te_cu, te_cu, te_cu]
  · by_cases c1 : a ≤ x ∧ x < b
    · rw [if_pos c1, if_neg (by omega), if_pos (by omega)]; simp
    · rw [if_neg c1]
      by_cases c2 : b ≤ x ∧ x < c
      · rw [if_pos c2, if_pos (by omega)]; simp
      · rw [if_neg c2, if_neg (by omega)]; simp
  · refine apart_append (x := b) (row_apart (row_cu h a b)) (row_apart (row_cu h b c)) ?_ ?_
    · intro s hs; obtain ⟨_, u, _, rfl⟩ := mem_cu hs; simp only [cl]; omega
    · intro s hs; obtain ⟨_, u, _, rfl⟩ := mem_cu hs; simp only [cl]; omega

/-! How many. -/

theorem len_le : ∀ (R E : List Int), R.Pairwise (· < ·) → (∀ e ∈ R, e ∈ E) → R.length ≤ E.length
  | [], _, _, _ => Nat.zero_le _
  | e :: R, E, h, hm => by
    have h1 := List.pairwise_cons.1 h
    have h2 : e ∈ E := hm e (List.mem_cons_self ..)
    have h3 := len_le R (E.erase e) h1.2 (fun u hu => (List.mem_erase_of_ne (by have := h1.1 u hu; omega)).2 (hm u (List.mem_cons_of_mem _ hu)))
    rw [List.length_erase_of_mem h2] at h3
    have : 0 < E.length := List.length_pos_of_mem h2
    rw [List.length_cons]; omega

theorem row_begins {R : List Sp} (h : Row R) : (R.map (·.f)).Pairwise (· < ·) := by
  induction R with
  | nil => exact List.Pairwise.nil
  | cons s R ih =>
    rw [List.map_cons]
    refine List.pairwise_cons.2 ⟨?_, ih (row_tail h)⟩
    intro e he
    obtain ⟨u, hu, rfl⟩ := List.mem_map.1 he
    have := row_head h u hu; have := h.len s (List.mem_cons_self ..); omega

/-- A row's piece begins where the mode turns. -/
theorem begins_turn : ∀ (R : List Sp), Row R → ∀ s ∈ R, te R s.f = some s.m ∧ te R (s.f - 1) ≠ some s.m
  | [], _, _, hs => by cases hs
  | r :: R, h, s, hs => by
    rcases List.mem_cons.1 hs with rfl | hs
    · refine ⟨te_self s.f (Int.le_refl _) (h.len s (List.mem_cons_self ..)), ?_⟩
      rw [first_le h (s.f - 1) (by omega)]; simp
    · have a := row_head h s hs
      have lr := h.len r (List.mem_cons_self ..)
      obtain ⟨b, c⟩ := begins_turn R (row_tail h) s hs
      refine ⟨by rw [te_cons, if_neg (by rw [inn_iff]; omega)]; exact b, ?_⟩
      rw [te_cons]
      split
      · rename_i hi
        rw [inn_iff] at hi
        intro e
        exact a.2.2 (by omega) (Option.some.inj e)
      · exact c

theorem begins_ends {R l : List Sp} (h : Full R (md l)) : ∀ s ∈ R, s.f ∈ ends l := by
  intro s hs
  obtain ⟨a, b⟩ := begins_turn R h.row s hs
  rw [h.all] at a b
  by_cases he : s.f ∈ ends l
  · exact he
  · exact absurd ((md_flat l (s.f - 1) s.f (by omega) (fun e h1 => by have : e ≠ s.f := fun e1 => he (e1 ▸ h1); omega)).symm.trans a) b

theorem full_len {R l : List Sp} (h : Full R (md l)) : R.length ≤ 2 * l.length := by
  have := len_le (R.map (·.f)) (ends l) (row_begins h.row) (by intro e he; obtain ⟨s, hs, rfl⟩ := List.mem_map.1 he; exact begins_ends h s hs)
  rw [List.length_map, ends_len] at this
  exact this

end Go.Proofs.YtihdijkplmfhfaaGreatDoor.Sp

/- Plain facts on spans, more: a row as it grows piece by piece; spans resolved. Conditions: as each theorem states. -/
namespace Go.Proofs.YtihdijkplmfhfaaGreatDoor.Sp
set_option maxRecDepth 100000

/-! A row that grows. -/

structure Good (R : List Sp) (g : Int → Option Int) (e : Int) : Prop where
  row : Row R
  low : ∀ s ∈ R, s.t ≤ e
  all : ∀ x, x < e → te R x = g x

/-- A piece put behind a row. -/
def push (o : List Sp) (a b m : Int) : List Sp :=
  match o.getLast? with
  | some s => if s.t = a ∧ s.m = m then o.dropLast ++ [⟨s.f, b, s.m, s.p⟩] else o ++ [⟨a, b, m, 0⟩]
  | none => [⟨a, b, m, 0⟩]

theorem push_nil (a b m : Int) : push [] a b m = [⟨a, b, m, 0⟩] := rfl
theorem push_last (o : List Sp) (s : Sp) (a b m : Int) : push (o ++ [s]) a b m = if s.t = a ∧ s.m = m then o ++ [⟨s.f, b, s.m, s.p⟩] else o ++ [s] ++ [⟨a, b, m, 0⟩] := by
  unfold push; rw [List.getLast?_concat]; simp only [List.dropLast_concat]

theorem row_one (s : Sp) (h : s.f < s.t) (hp : s.p = 0) : Row [s] :=
  ⟨fun u hu => by rw [List.mem_singleton.1 hu]; exact h, fun u hu => by rw [List.mem_singleton.1 hu]; exact hp, List.pairwise_singleton ..⟩

theorem row_append {A B : List Sp} : Row (A ++ B) ↔ Row A ∧ Row B ∧ ∀ s ∈ A, ∀ u ∈ B, beh s u := by
  constructor
  · intro h
    have h1 := List.pairwise_append.1 h.ord
    exact ⟨⟨fun s hs => h.len s (List.mem_append_left _ hs), fun s hs => h.pri s (List.mem_append_left _ hs), h1.1⟩, ⟨fun s hs => h.len s (List.mem_append_right _ hs), fun s hs => h.pri s (List.mem_append_right _ hs), h1.2.1⟩, h1.2.2⟩
  · rintro ⟨a, b, c⟩
    refine ⟨?_, ?_, List.pairwise_append.2 ⟨a.ord, b.ord, c⟩⟩
    · intro s hs; exact (List.mem_append.1 hs).elim (a.len s) (b.len s)
    · intro s hs; exact (List.mem_append.1 hs).elim (a.pri s) (b.pri s)

theorem te_one (s : Sp) (x : Int) : te [s] x = if s.f ≤ x ∧ x < s.t then some s.m else none := by
  rw [te_cons, te_nil]
  by_cases h : s.f ≤ x ∧ x < s.t
  · rw [if_pos ((inn_iff x s).2 h), if_pos h]
  · rw [if_neg (by rw [inn_iff]; exact h), if_neg h]

theorem good_nil (g : Int → Option Int) (e : Int) (h : ∀ x, x < e → g x = none) : Good [] g e :=
  ⟨⟨by simp, by simp, List.Pairwise.nil⟩, by simp, fun x hx => by rw [te_nil, h x hx]⟩

theorem good_gap {R : List Sp} {g : Int → Option Int} {a b : Int} (h : Good R g a) (hab : a ≤ b) (hg : ∀ x, a ≤ x → x < b → g x = none) : Good R g b := by
  refine ⟨h.row, fun s hs => by have := h.low s hs; omega, fun x hx => ?_⟩
  by_cases c : x < a
  · exact h.all x c
  · rw [hg x (by omega) hx]
    exact te_none R x (fun s hs => by have := h.low s hs; omega)

/-- A piece of one mode, where the row ends earlier, or ends there in another mode. -/
theorem good_new {R : List Sp} {g : Int → Option Int} {a b m : Int} (h : Good R g a) (hab : a < b) (hg : ∀ x, a ≤ x → x < b → g x = some m)
    (hl : ∀ s ∈ R, s.t = a → s.m ≠ m) : Good (R ++ [⟨a, b, m, 0⟩]) g b := by
  refine ⟨row_append.2 ⟨h.row, row_one _ hab rfl, ?_⟩, ?_, ?_⟩
  · intro s hs u hu
    rw [List.mem_singleton.1 hu]
    exact ⟨h.low s hs, fun e => hl s hs e⟩
  · intro s hs
    rcases List.mem_append.1 hs with hs | hs
    · have := h.low s hs; omega
    · rw [List.mem_singleton.1 hs]; exact Int.le_refl _
  · intro x hx
    rw [te_append, te_one]
    by_cases c : x < a
    · rw [if_neg (by simp only; omega), h.all x c]; simp
    · rw [te_none R x (fun s hs => by have := h.low s hs; omega), if_pos (by simp only; omega), hg x (by omega) hx]; rfl

/-- A piece of the mode in which the row ends. -/
theorem good_more {R : List Sp} {s : Sp} {g : Int → Option Int} {a b m : Int} (h : Good (R ++ [s]) g a) (hab : a < b) (hg : ∀ x, a ≤ x → x < b → g x = some m)
    (ht : s.t = a) (hm : s.m = m) : Good (R ++ [⟨s.f, b, s.m, s.p⟩]) g b := by
  obtain ⟨hR, hs, ho⟩ := row_append.1 h.row
  have l1 := hs.len s (List.mem_singleton.2 rfl)
  have lR : ∀ u ∈ R, u.t ≤ s.f := fun u hu => (ho u hu s (List.mem_singleton.2 rfl)).1
  refine ⟨row_append.2 ⟨hR, row_one _ (by simp only; omega) (hs.pri s (List.mem_singleton.2 rfl)), ?_⟩, ?_, ?_⟩
  · intro u hu v hv
    rw [List.mem_singleton.1 hv]
    exact ho u hu s (List.mem_singleton.2 rfl)
  · intro u hu
    rcases List.mem_append.1 hu with hu | hu
    · have := lR u hu; omega
    · rw [List.mem_singleton.1 hu]; exact Int.le_refl _
  · intro x hx
    rw [te_append, te_one]
    by_cases c : x < a
    · have h1 := h.all x c
      rw [te_append, te_one] at h1
      by_cases d : s.f ≤ x
      · rw [if_pos (by simp only; omega)]
        rw [if_pos (by omega)] at h1
        exact h1
      · rw [if_neg (by simp only; omega)]
        rw [if_neg (by omega)] at h1
        exact h1
    · rw [te_none R x (fun u hu => by have := lR u hu; omega), if_pos (by simp only; omega), hg x (by omega) hx, hm]; rfl

theorem good_push {R : List Sp} {g : Int → Option Int} {a b m : Int} (h : Good R g a) (hab : a < b) (hg : ∀ x, a ≤ x → x < b → g x = some m) : Good (push R a b m) g b := by
  rcases List.eq_nil_or_concat R with rfl | ⟨o, s, rfl⟩
  · exact good_new h hab hg (by simp)
  · rw [List.concat_eq_append] at h ⊢
    rw [push_last]
    by_cases c : s.t = a ∧ s.m = m
    · rw [if_pos c]; exact good_more h hab hg c.1 c.2
    · rw [if_neg c]
      refine good_new h hab hg ?_
      intro u hu e em
      rcases List.mem_append.1 hu with hu | hu
      · obtain ⟨hR, hs, ho⟩ := row_append.1 h.row
        have l1 := hs.len s (List.mem_singleton.2 rfl)
        have l2 := (ho u hu s (List.mem_singleton.2 rfl)).1
        have l3 := h.low s (List.mem_append_right _ (List.mem_singleton.2 rfl))
        omega
      · rw [List.mem_singleton.1 hu] at e em; exact c ⟨e, em⟩

theorem good_full {R : List Sp} {g : Int → Option Int} {a : Int} (h : Good R g a) (hg : ∀ x, a ≤ x → g x = none) : Full R g := by
  refine ⟨h.row, fun x => ?_⟩
  by_cases c : x < a
  · exact h.all x c
  · rw [hg x (by omega)]
    exact te_none R x (fun s hs => by have := h.low s hs; omega)

/-! Spans resolved. -/

/-- Is n the least beginning or end above an instant, and is there one? -/
def Nx (E : List Int) (a n : Int) (b : Bool) : Prop := if b then a < n ∧ n ∈ E ∧ ∀ e ∈ E, e ≤ a ∨ n ≤ e else ∀ e ∈ E, e ≤ a

/-- One step of resolving. -/
def st (l R : List Sp) (a b : Int) : List Sp := match md l a with | some m => push R a b m | none => R

theorem st_good {l R : List Sp} {a b : Int} (h : Good R (md l) a) (hn : Nx (ends l) a b true) : Good (st l R a b) (md l) b := by
  obtain ⟨h1, _, h2⟩ := hn
  have h3 : ∀ x, a ≤ x → x < b → md l x = md l a := fun x c d => md_flat l a x c (fun e he => by have := h2 e he; omega)
  unfold st
  cases hm : md l a with
  | some m => exact good_push h h1 (fun x c d => by rw [h3 x c d, hm])
  | none => exact good_gap h (by omega) (fun x c d => by rw [h3 x c d, hm])

theorem st_start (l : List Sp) (a : Int) (h : ∀ s ∈ l, a ≤ s.f) : Good [] (md l) a :=
  good_nil _ a (fun x hx => md_out l x (fun s hs => by have := h s hs; omega))

theorem st_end {l R : List Sp} {a : Int} (n : Int) (h : Good R (md l) a) (hn : Nx (ends l) a n false) : Full R (md l) := by
  refine good_full h (fun x hx => md_out l x (fun s hs => ?_))
  have := hn s.t (t_ends hs)
  omega

theorem full_nil : Full [] (md []) := ⟨⟨by simp, by simp, List.Pairwise.nil⟩, fun _ => rfl⟩

/-! What the promises say of rows. -/

/-- Spans that may be. -/
def May (l : List Sp) : Prop := ∀ s ∈ l, s.f < s.t

theorem row_may {R : List Sp} (h : Row R) : May R := h.len
theorem may_append {A B : List Sp} (a : May A) (b : May B) : May (A ++ B) := fun s hs => (List.mem_append.1 hs).elim (a s) (b s)

/-- What is resolved and resolved again stays. -/
theorem again {R S : List Sp} (h : Row R) (hS : Full S (md R)) : S = R := uniq hS (full_self h)

/-- What is cut in two and resolved together is what it was. -/
theorem cut_two {R S : List Sp} (h : Row R) (a b c : Int) (h1 : a ≤ b) (h2 : b ≤ c) (hS : Full S (md (cu R a b ++ cu R b c))) : S = cu R a c :=
  uniq hS ⟨row_cu h a c, fun x => (md_two h a b c h1 h2 x).symm⟩

theorem two_may {R : List Sp} (h : Row R) (a b c : Int) : May (cu R a b ++ cu R b c) := may_append (row_may (row_cu h a b)) (row_may (row_cu h b c))

theorem md_top (l : List Sp) (s : Sp) (x : Int) (h : ∀ u ∈ l, u.p < s.p) : md (l ++ [s]) x = if s.f ≤ x ∧ x < s.t then some s.m else md l x := by
  unfold md; rw [best_top l s x h]
  by_cases c : s.f ≤ x ∧ x < s.t
  · rw [if_pos ((inn_iff x s).2 c), if_pos c]; rfl
  · rw [if_neg (by rw [inn_iff]; exact c), if_neg c]
theorem md_top0 (l : List Sp) (s : Sp) (x : Int) (h : ∀ u ∈ l, u.p < s.p) : md (s :: l) x = if s.f ≤ x ∧ x < s.t then some s.m else md l x := by
  unfold md; rw [best_top0 l s x h]
  by_cases c : s.f ≤ x ∧ x < s.t
  · rw [if_pos ((inn_iff x s).2 c), if_pos c]; rfl
  · rw [if_neg (by rw [inn_iff]; exact c), if_neg c]

/-- One that is weightier than all: wherever it stands, -/
theorem top_same {l X Y : List Sp} {s : Sp} (h : ∀ u ∈ l, u.p < s.p) (hX : Full X (md (l ++ [s]))) (hY : Full Y (md (s :: l))) : X = Y :=
  uniq hX ⟨hY.row, fun x => by rw [hY.all, md_top0 l s x h, md_top l s x h]⟩

/-- it is there, whole, -/
theorem top_mid {l X : List Sp} {s : Sp} (hs : s.f < s.t) (h : ∀ u ∈ l, u.p < s.p) (hX : Full X (md (l ++ [s]))) : cu X s.f s.t = [⟨s.f, s.t, s.m, 0⟩] := by
  refine uniq (full_cu hX s.f s.t) ⟨row_one _ hs rfl, fun x => ?_⟩
  rw [te_one, md_top l s x h]
  simp only
  by_cases c : s.f ≤ x ∧ x < s.t
  · rw [if_pos c, if_pos c, if_pos c]
  · rw [if_neg c, if_neg c]

/-- and ahead of it nothing changes. -/
theorem top_low {l X R : List Sp} {s : Sp} (a : Int) (h : ∀ u ∈ l, u.p < s.p) (hX : Full X (md (l ++ [s]))) (hR : Full R (md l)) : cu X a s.f = cu R a s.f := by
  refine uniq (full_cu hX a s.f) ⟨row_cu hR.row a s.f, fun x => ?_⟩
  rw [te_cu, hR.all, md_top l s x h]
  by_cases c : a ≤ x ∧ x < s.f
  · rw [if_pos c, if_pos c, if_neg (by omega)]
  · rw [if_neg c, if_neg c]

theorem fi_mem {R : List Sp} {x : Int} {s : Sp} (h : fi R x = some s) : s ∈ R ∧ s.f ≤ x ∧ x < s.t := ⟨List.mem_of_find?_eq_some h, (inn_iff x s).1 (List.find?_some h)⟩

/-- At each instant the mode is the weightiest one's. -/
theorem each {l R : List Sp} (h : Full R (md l)) (x : Int) : (∀ s, fi R x = some s → ∃ u, best l x = some u ∧ s.m = u.m ∧ s.p = 0) ∧ (fi R x = none → best l x = none) := by
  have a := h.all x
  unfold te md at a
  constructor
  · intro s hs
    rw [hs] at a
    cases hb : best l x with
    | none => rw [hb] at a; cases a
    | some u =>
      rw [hb] at a
      exact ⟨u, rfl, by simpa using a, h.row.pri s (fi_mem hs).1⟩
  · intro hs
    rw [hs] at a
    cases hb : best l x with
    | none => rfl
    | some u => rw [hb] at a; cases a

/-- Two pieces of a row, one behind the other. -/
theorem row_at {R : List Sp} (h : Row R) (i : Nat) (hi : i + 1 < R.length) : R[i].t ≤ R[i + 1].f ∧ (R[i].t = R[i + 1].f → R[i].m ≠ R[i + 1].m) :=
  List.pairwise_iff_getElem.1 h.ord i (i + 1) (by omega) hi (by omega)

/-! The parts as they are walked through. -/

theorem cu_snoc (l : List Sp) (s : Sp) (a b : Int) : cu (l ++ [s]) a b = if (cl a b s).f < (cl a b s).t then cu l a b ++ [cl a b s] else cu l a b := by
  rw [cu_append, cu_cons, cu_nil]
  split
  · rfl
  · rw [List.append_nil]

theorem best_snoc (l : List Sp) (s : Sp) (x : Int) : best (l ++ [s]) x = if s.f ≤ x ∧ x < s.t then (match best l x with | none => some s | some c => if ov s c then some s else some c) else best l x := by
  show be x (l ++ [s]) none = _
  rw [be_append]
  show (if inn x s then (match be x l none with | none => some s | some c => if ov s c then some s else some c) else be x l none) = _
  by_cases c : s.f ≤ x ∧ x < s.t
  · rw [if_pos ((inn_iff x s).2 c), if_pos c]; rfl
  · rw [if_neg (by rw [inn_iff]; exact c), if_neg c]; rfl

theorem fi_snoc (l : List Sp) (s : Sp) (x : Int) : fi (l ++ [s]) x = (fi l x).or (if s.f ≤ x ∧ x < s.t then some s else none) := by
  unfold fi
  rw [List.find?_append, List.find?_cons, List.find?_nil]
  by_cases c : s.f ≤ x ∧ x < s.t
  · rw [(inn_iff x s).2 c, if_pos c]
  · have : inn x s = false := (inn_no x s).2 (by omega)
    rw [this, if_neg c]

/-- In a row that is told up to i, the place of the weightiest one at an instant: none, or one that is in it. -/
def Bi (l : List Sp) (x : Int) (k : Nat) (j : Int) : Prop := match best (l.take k) x with | none => j = -1 | some s => 0 ≤ j ∧ j < k ∧ l[j.toNat]? = some s

theorem take_more (l : List Sp) (k : Nat) (hk : k < l.length) : l.take (k + 1) = l.take k ++ [l[k]] := by
  rw [List.take_add_one, List.getElem?_eq_getElem hk]; rfl

theorem bi_nil (l : List Sp) (x : Int) : Bi l x 0 (-1) := by unfold Bi; rw [List.take_zero]; rfl

theorem bi_out (l : List Sp) (x : Int) (k : Nat) (j : Int) (hk : k < l.length) (h : Bi l x k j) (hx : x < l[k].f ∨ l[k].t ≤ x) : Bi l x (k + 1) j := by
  unfold Bi at h ⊢
  rw [take_more l k hk, best_snoc, if_neg (by omega)]
  cases hb : best (l.take k) x with
  | none => rw [hb] at h; exact h
  | some s => rw [hb] at h; exact ⟨h.1, by have := h.2.1; omega, h.2.2⟩

theorem bi_first (l : List Sp) (x : Int) (k : Nat) (hk : k < l.length) (h : Bi l x k (-1)) (hx : l[k].f ≤ x ∧ x < l[k].t) : Bi l x (k + 1) k := by
  unfold Bi at h ⊢
  rw [take_more l k hk, best_snoc, if_pos hx]
  cases hb : best (l.take k) x with
  | none => exact ⟨by omega, by omega, by simp [hk]⟩
  | some s => rw [hb] at h; have := h.1; omega

theorem bi_best {l : List Sp} {x : Int} {k : Nat} {j : Int} (h : Bi l x k j) (hj : 0 ≤ j) : ∃ (n : Nat) (hn : n < l.length), j = n ∧ n < k ∧ best (l.take k) x = some l[n] := by
  unfold Bi at h
  cases hb : best (l.take k) x with
  | none => rw [hb] at h; omega
  | some s =>
    rw [hb] at h
    obtain ⟨_, h1, h2⟩ := h
    obtain ⟨hn, h3⟩ := List.getElem?_eq_some_iff.1 h2
    exact ⟨j.toNat, hn, by omega, by omega, by rw [h3]⟩

theorem bi_over (l : List Sp) (x : Int) (k n : Nat) (hk : k < l.length) (hn : n < l.length) (h : Bi l x k n) (hx : l[k].f ≤ x ∧ x < l[k].t) (ho : ov l[k] l[n] = true) : Bi l x (k + 1) k := by
  obtain ⟨m, hm, e, _, hb⟩ := bi_best h (by omega)
  have : m = n := by omega
  subst this
  unfold Bi
  rw [take_more l k hk, best_snoc, if_pos hx, hb]
  simp only [ho]
  exact ⟨by omega, by omega, by simp [hk]⟩

theorem bi_stay (l : List Sp) (x : Int) (k n : Nat) (hk : k < l.length) (hn : n < l.length) (h : Bi l x k n) (hx : l[k].f ≤ x ∧ x < l[k].t) (ho : ov l[k] l[n] = false) : Bi l x (k + 1) n := by
  obtain ⟨m, hm, e, hmk, hb⟩ := bi_best h (by omega)
  have : m = n := by omega
  subst this
  unfold Bi
  rw [take_more l k hk, best_snoc, if_pos hx, hb]
  simp only [ho]
  exact ⟨by omega, by omega, by simp [hn]⟩

theorem ov_iff (a b : Sp) : ov a b = true ↔ a.p > b.p ∨ (a.p = b.p ∧ a.f ≥ b.f) := by
  unfold ov; split <;> simp <;> omega

theorem bi_all {l : List Sp} {x : Int} {j : Int} (h : Bi l x l.length j) : (j = -1 ∧ best l x = none) ∨ ∃ (n : Nat) (hn : n < l.length), j = n ∧ best l x = some l[n] := by
  by_cases c : 0 ≤ j
  · obtain ⟨n, hn, e, _, hb⟩ := bi_best h c
    rw [List.take_length] at hb
    exact .inr ⟨n, hn, e, hb⟩
  · unfold Bi at h
    rw [List.take_length] at h
    cases hb : best l x with
    | none => rw [hb] at h; exact .inl ⟨h, rfl⟩
    | some s => rw [hb] at h; exact absurd h.1 c

end Go.Proofs.YtihdijkplmfhfaaGreatDoor.Sp

/- Plain facts on the beginnings and ends of spans, put in order, each once; and on the row that comes of them piece by piece. Conditions: as each theorem states. -/
namespace Go.Proofs.YtihdijkplmfhfaaGreatDoor.Sp
set_option maxRecDepth 100000
open Go.Lib

theorem compact_up (d : Array Int) (hs : ∀ i j, i ≤ j → j < d.size → d[i]! ≤ d[j]!) : ∀ m, m ≤ d.size → (compactUpTo d m).Pairwise (· < ·) ∧ ∀ e, e ∈ compactUpTo d m ↔ ∃ j, j < m ∧ d[j]! = e
  | 0, _ => ⟨by unfold compactUpTo; exact List.Pairwise.nil, by unfold compactUpTo; simp⟩
  | m + 1, hm => by
    obtain ⟨h1, h2⟩ := compact_up d hs m (by omega)
    rw [compactUpTo_succ]
    cases hk : keeps d m with
    | true =>
      rw [if_pos rfl]
      refine ⟨List.pairwise_append.2 ⟨h1, List.pairwise_singleton _ _, fun a ha b hb => ?_⟩, fun e => ?_⟩
      · rw [List.mem_singleton.1 hb]
        obtain ⟨j, hj, rfl⟩ := (h2 a).1 ha
        have k : m = 0 ∨ d[m]! ≠ d[m - 1]! := by unfold keeps at hk; exact of_decide_eq_true hk
        have a1 := hs j (m - 1) (by omega) (by omega)
        have a2 := hs (m - 1) m (by omega) (by omega)
        omega
      · rw [List.mem_append, List.mem_singleton, h2]
        constructor
        · rintro (⟨j, hj, e1⟩ | e1)
          · exact ⟨j, by omega, e1⟩
          · exact ⟨m, by omega, e1.symm⟩
        · rintro ⟨j, hj, e1⟩
          by_cases c : j = m
          · right; rw [← e1, c]
          · exact .inl ⟨j, by omega, e1⟩
    | false =>
      have k : ¬ (m = 0 ∨ d[m]! ≠ d[m - 1]!) := by unfold keeps at hk; exact of_decide_eq_false hk
      have k1 : d[m]! = d[m - 1]! := by
        by_cases c : d[m]! = d[m - 1]!
        · exact c
        · exact absurd (.inr c) k
      have k0 : m ≠ 0 := fun c => k (.inl c)
      simp only [Bool.false_eq_true, if_false, List.append_nil]
      refine ⟨h1, fun e => ?_⟩
      rw [h2]
      constructor
      · rintro ⟨j, hj, e1⟩; exact ⟨j, by omega, e1⟩
      · rintro ⟨j, hj, e1⟩
        by_cases c : j = m
        · exact ⟨m - 1, by omega, by rw [← e1, c, k1]⟩
        · exact ⟨j, by omega, e1⟩

/-- Where spans begin and end, in order, each once. -/
def so (l : List Sp) : List Int := (ends l).mergeSort fun x y => decide (x ≤ y)
def Es (l : List Sp) : List Int := compact (so l)

theorem so_perm (l : List Sp) : (so l).Perm (ends l) := List.mergeSort_perm _ _
theorem so_len (l : List Sp) : (so l).length = 2 * l.length := by rw [(so_perm l).length_eq, ends_len]

theorem es_both (l : List Sp) : (Es l).Pairwise (· < ·) ∧ ∀ e, e ∈ Es l ↔ e ∈ ends l := by
  have hp : (so l).Pairwise (fun x y => decide (x ≤ y) = true) := List.pairwise_mergeSort (fun a b c h1 h2 => by simp only [decide_eq_true_eq] at *; omega) (fun a b => by simp only [Bool.or_eq_true, decide_eq_true_eq]; omega) _
  have hs : ∀ i j, i ≤ j → j < (so l).toArray.size → (so l).toArray[i]! ≤ (so l).toArray[j]! := by
    intro i j hij hj
    have hj' : j < (so l).length := by simpa using hj
    rw [getElem!_pos _ i (by simp; omega), getElem!_pos _ j hj]
    simp only [List.getElem_toArray]
    by_cases c : i = j
    · subst c; exact Int.le_refl _
    · have := List.pairwise_iff_getElem.1 hp i j (by omega) hj' (by omega)
      simpa using this
  obtain ⟨h1, h2⟩ := compact_up (so l).toArray hs (so l).length (by simp)
  refine ⟨h1, fun e => ?_⟩
  rw [← (so_perm l).mem_iff]
  show e ∈ compactUpTo (so l).toArray (so l).length ↔ _
  rw [h2]
  constructor
  · rintro ⟨j, hj, rfl⟩
    rw [getElem!_pos _ j (by simpa using hj)]
    simp
  · intro he
    obtain ⟨j, hj, rfl⟩ := List.mem_iff_getElem.1 he
    exact ⟨j, hj, by rw [getElem!_pos _ j (by simpa using hj)]; simp⟩

/-- The k-th one. -/
def ei (l : List Sp) (k : Nat) : Int := (Es l).getD k 0

theorem ei_get {l : List Sp} {k : Nat} (h : k < (Es l).length) : (Es l)[k]? = some (ei l k) := by
  unfold ei; rw [List.getD_eq_getElem?_getD, List.getElem?_eq_getElem h]; rfl

theorem ei_lt {l : List Sp} {i j : Nat} (h : i < j) (hj : j < (Es l).length) : ei l i < ei l j := by
  have := List.pairwise_iff_getElem.1 (es_both l).1 i j (by omega) hj h
  have a := ei_get (l := l) (k := i) (by omega)
  have b := ei_get hj
  rw [List.getElem?_eq_getElem (by omega)] at a b
  rw [← Option.some.inj a, ← Option.some.inj b]
  exact this

theorem ei_le {l : List Sp} {i j : Nat} (h : i ≤ j) (hj : j < (Es l).length) : ei l i ≤ ei l j := by
  by_cases c : i = j
  · subst c; exact Int.le_refl _
  · have := ei_lt (l := l) (i := i) (by omega) hj; omega

theorem ei_mem {l : List Sp} {e : Int} (h : e ∈ ends l) : ∃ k, k < (Es l).length ∧ e = ei l k := by
  obtain ⟨k, hk, e1⟩ := List.mem_iff_getElem.1 ((es_both l).2 e |>.2 h)
  have a := ei_get hk
  rw [List.getElem?_eq_getElem hk, e1] at a
  exact ⟨k, hk, Option.some.inj a⟩

theorem ei_ends {l : List Sp} {k : Nat} (h : k < (Es l).length) : ei l k ∈ ends l := (es_both l).2 _ |>.1 (List.mem_of_getElem? (ei_get h))

theorem nx_ei {l : List Sp} {k : Nat} (h : k + 1 < (Es l).length) : Nx (ends l) (ei l k) (ei l (k + 1)) true := by
  refine ⟨ei_lt (by omega) h, ei_ends h, fun e he => ?_⟩
  obtain ⟨j, hj, rfl⟩ := ei_mem he
  rcases Nat.lt_or_ge k j with c | c
  · exact .inr (ei_le (by omega) hj)
  · exact .inl (ei_le c (by omega))

theorem nx_end {l : List Sp} {k : Nat} (h : k + 1 = (Es l).length) : Nx (ends l) (ei l k) 0 false := by
  intro e he
  obtain ⟨j, hj, rfl⟩ := ei_mem he
  exact ei_le (by omega) (by omega)

theorem ei_first {l : List Sp} : ∀ s ∈ l, ei l 0 ≤ s.f := by
  intro s hs
  obtain ⟨j, hj, e⟩ := ei_mem (f_ends hs)
  rw [e]
  exact ei_le (by omega) hj

theorem es_nil : Es [] = [] := by
  have h := (es_both []).2
  rcases List.eq_nil_or_concat (Es []) with e | ⟨o, s, e⟩
  · exact e
  · have := (h s).1 (by rw [e]; simp)
    simp [ends] at this

theorem es_pos {l : List Sp} (h : l ≠ []) : 0 < (Es l).length := by
  cases l with
  | nil => exact absurd rfl h
  | cons s l =>
    obtain ⟨k, hk, _⟩ := ei_mem (l := s :: l) (f_ends (List.mem_cons_self ..))
    omega

/-- The row behind k rounds. -/
def rk (l : List Sp) : Nat → List Sp
  | 0 => []
  | k + 1 => st l (rk l k) (ei l k) (ei l (k + 1))

theorem rk_len (l : List Sp) : ∀ k, (rk l k).length ≤ k
  | 0 => Nat.le_refl _
  | k + 1 => by
    have := rk_len l k
    unfold rk st
    split
    · rcases List.eq_nil_or_concat (rk l k) with e | ⟨o, s, e⟩
      · rw [e, push_nil]; simp
      · rw [e, List.concat_eq_append, push_last]
        rw [e] at this
        simp only [List.concat_eq_append, List.length_append, List.length_cons, List.length_nil] at this
        split <;> simp <;> omega
    · omega

theorem rk_good (l : List Sp) : ∀ k, k < (Es l).length → Good (rk l k) (md l) (ei l k)
  | 0, _ => st_start l _ ei_first
  | k + 1, h => st_good (rk_good l k (by omega)) (nx_ei h)

/-- Behind the last round it is told whole. -/
theorem rk_full (l : List Sp) : Full (rk l ((Es l).length - 1)) (md l) := by
  by_cases c : l = []
  · subst c
    rw [es_nil]
    exact full_nil
  · have h := es_pos c
    exact st_end 0 (rk_good l _ (by omega)) (nx_end (by omega))

end Go.Proofs.YtihdijkplmfhfaaGreatDoor.Sp

/- The cells of spans, slices of spans wherever they lie, and slices that own them. No condition but those that each theorem states. -/
namespace Go.Proofs.YtihdijkplmfhfaaGreatDoor.Span
set_option maxRecDepth 100000
set_option maxRecDepth 100000
open Go.ChangeShapes Go.WideShapes Go.ChangeAt Go.RowKit
open Go.Proofs.YtihdijkplmfhfaaGreatDoor.Divs Go.Proofs.YtihdijkplmfhfaaGreatDoor.Grow
open Go.Proofs.YtihdijkplmfhfaaGreatDoor.By (Sk SL)
open Go.Proofs.YtihdijkplmfhfaaGreatDoor.Sp

/-- A span's cells. -/
def sc (x : Sp) : List Value := [.int .i64 x.f, .int .i64 x.t, .int .i64 x.m, .int .i64 x.p]

/-- The cells of spans in a row. -/
def sf (xs : List Sp) : List Value := xs.flatMap sc

theorem sf_len (xs : List Sp) : (sf xs).length = xs.length * 4 := by
  induction xs with
  | nil => rfl
  | cons x r ih =>
    have : sf (x :: r) = sc x ++ sf r := rfl
    rw [this, List.length_append, ih]
    simp only [sc, List.length_cons, List.length_nil]
    omega

theorem sf_app (xs ys : List Sp) : sf (xs ++ ys) = sf xs ++ sf ys := by simp [sf]

theorem sf_one (x : Sp) : sf [x] = sc x := by simp [sf]

theorem sf_drop (xs : List Sp) (k : Nat) : sf (xs.drop k) = (sf xs).drop (k * 4) := by
  induction xs generalizing k with
  | nil => simp [sf]
  | cons x r ih =>
    cases k with
    | zero => simp [sf]
    | succ j =>
      have e : sf (x :: r) = sc x ++ sf r := rfl
      have e' : sf ((x :: r).drop (j + 1)) = sf (r.drop j) := rfl
      have l : (sc x).length = 4 := rfl
      rw [e, e', ih, List.drop_append, l, List.drop_of_length_le (l := sc x) (by omega), show (j + 1) * 4 - 4 = j * 4 by omega, List.nil_append]

theorem sf_get {xs : List Sp} {i : Nat} {x : Sp} (h : xs[i]? = some x) {j : Nat} (hj : j < 4) : (sf xs)[i * 4 + j]? = (sc x)[j]? := by
  have e : xs.drop i = x :: xs.drop (i + 1) := by
    obtain ⟨hi, rfl⟩ := List.getElem?_eq_some_iff.1 h
    exact List.drop_eq_getElem_cons hi
  have d := sf_drop xs i
  rw [e] at d
  have e2 : sf (x :: xs.drop (i + 1)) = sc x ++ sf (xs.drop (i + 1)) := rfl
  rw [← List.getElem?_drop, ← d, e2, List.getElem?_append_left (by simpa [sc] using hj)]

theorem sf_cell (xs : List Sp) : ∀ u ∈ sf xs, u.oneCell' = true := by
  intro u hu
  obtain ⟨x, _, hx⟩ := List.mem_flatMap.1 hu
  simp only [sc, List.mem_cons, List.not_mem_nil, or_false] at hx
  rcases hx with rfl | rfl | rfl | rfl <;> rfl

/-- v is a slice of these spans. -/
def Ws (W : World) (v : Value) (xs : List Sp) : Prop :=
  ∃ (ad : Option Addr) (cap : Nat), v = .slice ad xs.length cap ∧ xs.length ≤ cap ∧ cap ≤ 9223372036854775807 ∧ (ad = none → cap = 0) ∧
    ∀ (i : Nat) (x : Value), (sf xs)[i]? = some x → ∃ b off, ad = some ⟨b, off, none⟩ ∧ W.cell? ⟨b, off + i, none⟩ = some x

theorem Ws.later {W W' : World} {v : Value} {xs : List Sp} (h : Ws W v xs) (g : Later W W') : Ws W' v xs := by
  obtain ⟨ad, cap, rfl, h1, h2, h3, h4⟩ := h
  refine ⟨ad, cap, rfl, h1, h2, h3, fun i x hx => ?_⟩
  obtain ⟨b, off, e, c⟩ := h4 i x hx
  exact ⟨b, off, e, gsome g c⟩

theorem ws_nil (W : World) : Ws W (.slice none 0 0) [] := ⟨none, 0, rfl, by simp, by omega, by simp, by simp [sf]⟩

theorem Ws.len {W : World} {v : Value} {xs : List Sp} (h : Ws W v xs) : ∃ ad cap, v = .slice ad xs.length cap ∧ xs.length ≤ 9223372036854775807 := by
  obtain ⟨ad, cap, rfl, h1, h2, _⟩ := h
  exact ⟨ad, cap, rfl, by omega⟩

theorem Ws.bare {W : World} {v : Value} (h : Ws W v []) : ∃ ad cap, v = .slice ad 0 cap ∧ (ad = none → cap = 0) ∧ cap ≤ 9223372036854775807 := by
  obtain ⟨ad, cap, rfl, _, h2, h3, _⟩ := h
  exact ⟨ad, cap, rfl, h3, h2⟩

/-- The cells of a slice of spans, one span's after the other's. -/
def At (W : World) (b off : Nat) (x : Sp) : Prop :=
  W.cell? ⟨b, off, none⟩ = some (.int .i64 x.f) ∧ W.cell? ⟨b, off + 1, none⟩ = some (.int .i64 x.t) ∧ W.cell? ⟨b, off + 2, none⟩ = some (.int .i64 x.m) ∧ W.cell? ⟨b, off + 3, none⟩ = some (.int .i64 x.p)

theorem At.later {W W' : World} {b off : Nat} {x : Sp} (h : At W b off x) (g : Later W W') : At W' b off x := ⟨gsome g h.1, gsome g h.2.1, gsome g h.2.2.1, gsome g h.2.2.2⟩

theorem Ws.has {W : World} {v : Value} {xs : List Sp} (h : Ws W v xs) (hp : 0 < xs.length) :
    ∃ b off cap, v = .slice (some ⟨b, off, none⟩) xs.length cap ∧ xs.length ≤ cap ∧ cap ≤ 9223372036854775807 ∧ b < W.heap.size ∧ ∀ i x, xs[i]? = some x → At W b (off + i * 4) x := by
  obtain ⟨ad, cap, rfl, h1, h2, h3, h4⟩ := h
  have hl := sf_len xs
  obtain ⟨c, hc⟩ : ∃ c, (sf xs)[0]? = some c := ⟨_, List.getElem?_eq_getElem (by omega)⟩
  obtain ⟨b, off, rfl, c0⟩ := h4 0 c hc
  refine ⟨b, off, cap, rfl, h1, h2, World.block_lt_of_cell? _ _ c0, fun i x hx => ?_⟩
  have go : ∀ j y, j < 4 → (sc x)[j]? = some y → W.cell? ⟨b, off + i * 4 + j, none⟩ = some y := fun j y hj hy => by
    obtain ⟨b', off', e, c⟩ := h4 (i * 4 + j) y (by rw [sf_get hx hj]; exact hy)
    simp only [Option.some.injEq, Addr.mk.injEq, and_true] at e
    obtain ⟨rfl, rfl⟩ := e
    rw [Nat.add_assoc]
    exact c
  exact ⟨go 0 _ (by omega) rfl, go 1 _ (by omega) rfl, go 2 _ (by omega) rfl, go 3 _ (by omega) rfl⟩

theorem Ws.src {W : World} {v : Value} {xs : List Sp} (h : Ws W v xs) :
    (v = .slice none 0 0 ∧ xs = []) ∨ ∃ a cap, v = .slice (some a) xs.length cap ∧ ∀ j u, (sf xs)[j]? = some u → W.cell? (a.add j) = some u := by
  obtain ⟨ad, cap, rfl, h1, h2, h3, h4⟩ := h
  cases ad with
  | none =>
    obtain rfl := h3 rfl
    obtain rfl := List.length_eq_zero_iff.1 (Nat.le_zero.1 h1)
    exact .inl ⟨rfl, rfl⟩
  | some a =>
    refine .inr ⟨a, cap, rfl, fun j u hu => ?_⟩
    obtain ⟨b, off, e, c⟩ := h4 j u hu
    obtain rfl := Option.some.inj e
    rw [Addr.add_mid]
    exact c

/-- A slice that owns these spans. -/
def WL (W : World) (b : Nat) (v : Value) (xs : List Sp) : Prop := W.ownsRow b 56 4 v xs.length (sf xs)

theorem WL.later {W W' : World} {b : Nat} {v : Value} {xs : List Sp} (h : WL W b v xs) (g : Later W W') : WL W' b v xs :=
  World.ownsRow.kept h g.grownBy (by cases v.ownBlock <;> simp)

theorem WL.base {W : World} {b c : Nat} {v : Value} {xs : List Sp} (h : WL W b v xs) (hb : c ≤ b) : WL W c v xs :=
  ⟨h.1, h.2.imp id (fun ⟨g, cap, cur, y1, y2, y3⟩ => ⟨g, cap, cur, y1, by omega, y3⟩)⟩

theorem own_later {w a b : World} {v : Value} {xs : List Sp} (g : Later w a) (f : WL a w.heap.size v xs) (h : a.grownBy b v.ownBlock) : Later w b :=
  Later.of_below (g.below.grown h g.size (fun j e => (World.ownsRow.lt f j e).1))

theorem WL.ws {W : World} {b : Nat} {v : Value} {xs : List Sp} (h : WL W b v xs) : Ws W v xs := by
  rcases h.2 with ⟨hv, h0⟩ | ⟨g, cap, cur, rfl, _, _, h1, h2, _⟩
  · obtain rfl : xs = [] := List.length_eq_zero_iff.1 h0
    exact ⟨none, 0, hv, by simp, by omega, by simp, by simp [sf]⟩
  · refine ⟨_, cap, rfl, h1, by simpa [maxLen] using h2, by simp, fun i x hx => ⟨g, 0, rfl, ?_⟩⟩
    have c := World.ownsRow.cells h (g := g) rfl i x hx
    rw [By.add_zero] at c
    rw [Nat.zero_add]
    exact c

theorem WL.nil (W : World) (b : Nat) : WL W b (.slice none 0 0) [] := World.ownsRow_nil _ _ _ _

theorem WL.made (W0 w : World) (h : Later W0 w) : WL (w.alloc (.cells #[] 56)) W0.heap.size (.slice (some ⟨w.heap.size, 0, none⟩) 0 0) [] := by
  refine ⟨rfl, .inr ⟨w.heap.size, 0, #[], rfl, h.size, heap_alloc_new _ _, by simp, by simp, by simp, by simp [sf]⟩⟩

theorem info_span : (Tryz.prog.info? 56).map (fun i => (i.zero, i.size, i.bytes)) = some (some (.agg #[.int .i64 0, .int .i64 0, .int .i64 0, .int .i64 0]), 4, 32) := by kernel_rfl

theorem append_spans {w : World} {ops : Array Oper} {rest : List Oper} {o : Oper} {a : Act} {Q : Exit → Act → World → Prop} (hgd : o.guard = none) (s x : Operand)
    (ho : o.op = .call { callee := .builtin .append, args := #[s, x], argTypes := #[36, 36] })
    (W0 : World) (hl : Later W0 w) (v : Value) (xs : List Sp) (hs : a.eval s = v) (hown : WL w W0.heap.size v xs)
    (u : Value) (ys : List Sp) (hx : a.eval x = u) (hy : Ws w u ys) (hb : xs.length + ys.length ≤ 100000)
    (h : ∀ v' w', WL w' W0.heap.size v' (xs ++ ys) → Later W0 w' → w.grownBy w' v.ownBlock → wpList Tryz.prog ops Q rest (a.put o.dst v') w') : wpList Tryz.prog ops Q (o :: rest) a w := by
  obtain ⟨i0, hi, hz0, hz1, hz2⟩ := info_parts info_span
  rcases hy.src with ⟨rfl, rfl⟩ | ⟨ad, cap, rfl, hc⟩
  · refine wpList_append_own_none hgd s x 36 ho W0.heap.size 56 i0 4 Tryz.underlying36 hi v _ _ hs hown hx ?_
    exact h v w (by rw [List.append_nil]; exact hown) hl ⟨rfl, rfl, rfl, Nat.le_refl _, fun _ _ _ => rfl⟩
  · refine wpList_append_own w hgd s x 36 ho W0.heap.size 56 i0 _ 4 32 Tryz.underlying36 hi hz0 hz1 hz2 rfl (by decide) v _ _ hs hown ad ys.length cap (sf ys) hx (sf_len ys) hc (sf_cell ys) (by simp only [maxLen]; omega) (by omega) hl.size ?_
    intro v' w' h1 h2 _
    refine h v' w' ?_ (own_later hl hown h2) h2
    unfold WL
    rw [List.length_append, sf_app]
    exact h1

end Go.Proofs.YtihdijkplmfhfaaGreatDoor.Span

/- Blocks whose cells are known, results that lie in one; what the calls on single spans and on slices of them answer: a copy, the first span that an instant is in, whether spans may be, whether two rows are the same. Conditions: as each theorem states. -/
namespace Go.Proofs.YtihdijkplmfhfaaGreatDoor.Span
set_option maxRecDepth 100000
set_option maxRecDepth 100000
open Go.ChangeShapes Go.WideShapes Go.ChangeAt Go.RowKit
open Go.Proofs.YtihdijkplmfhfaaGreatDoor.Divs Go.Proofs.YtihdijkplmfhfaaGreatDoor.Grow
open Go.Proofs.YtihdijkplmfhfaaGreatDoor.By (Sk SL bool_no bool_yes)
open Go.Proofs.YtihdijkplmfhfaaGreatDoor.Sp

/-- The block g has these cells. -/
def RA (W : World) (g : Nat) (cs : Array Value) (t : TypeId) : Prop := W.heap[g]? = some (.cells cs t (0, 0))

theorem RA.lt {W : World} {g : Nat} {cs : Array Value} {t : TypeId} (h : RA W g cs t) : g < W.heap.size := by
  rcases Nat.lt_or_ge g W.heap.size with k | k
  · exact k
  · unfold RA at h
    rw [Array.getElem?_eq_none k] at h
    simp at h

theorem RA.later {W W' : World} {g : Nat} {cs : Array Value} {t : TypeId} (h : RA W g cs t) (k : Later W W') : RA W' g cs t := (k.2.2.2 g h.lt).trans h

theorem RA.new (W : World) (cs : Array Value) (t : TypeId) : RA (W.alloc (.cells cs t)) W.heap.size cs t := heap_alloc_new _ _

theorem RA.cell {W : World} {g : Nat} {cs : Array Value} {t : TypeId} (h : RA W g cs t) (i : Nat) (v : Value) (hv : cs[i]? = some v) : W.cell? ⟨g, i, none⟩ = some v := by
  unfold RA at h
  simp [World.cell?, h, hv]

theorem RA.froz {W : World} {g : Nat} {cs : Array Value} {t : TypeId} (h : RA W g cs t) (i : Nat) : W.frozen? ⟨g, i, none⟩ = false := by
  unfold RA at h
  simp [World.frozen?, h]

theorem RA.set {W : World} {g : Nat} {cs : Array Value} {t : TypeId} (h : RA W g cs t) (k : Nat) (v : Value) : RA (W.setCell ⟨g, k, none⟩ v) g (cs.setIfInBounds k v) t := by
  unfold RA at *
  simp [World.setCell, Array.getElem?_modify, h]

theorem RA.set4 {W : World} {g : Nat} {t : TypeId} {u0 u1 u2 u3 : Value} (h : RA W g #[u0, u1, u2, u3] t) (v0 v1 v2 v3 : Value) :
    RA ((((W.setCell ⟨g, 0, none⟩ v0).setCell ⟨g, 1, none⟩ v1).setCell ⟨g, 2, none⟩ v2).setCell ⟨g, 3, none⟩ v3) g #[v0, v1, v2, v3] t := by
  have := (((h.set 0 v0).set 1 v1).set 2 v2).set 3 v3
  simpa using this

theorem RA.set2 {W : World} {g : Nat} {t : TypeId} {u0 u1 : Value} (h : RA W g #[u0, u1] t) (v0 v1 : Value) :
    RA ((W.setCell ⟨g, 0, none⟩ v0).setCell ⟨g, 1, none⟩ v1) g #[v0, v1] t := by
  have := (h.set 0 v0).set 1 v1
  simpa using this

/-- A new block's cells may be set. -/
theorem later_set {w W : World} (h : Later w W) {g : Nat} (hg : w.heap.size ≤ g) (k : Nat) (v : Value) : Later w (W.setCell ⟨g, k, none⟩ v) := h.setCell (by exact hg) v

theorem later_set4 {w W : World} (h : Later w W) {g : Nat} (hg : w.heap.size ≤ g) (v0 v1 v2 v3 : Value) : Later w ((((W.setCell ⟨g, 0, none⟩ v0).setCell ⟨g, 1, none⟩ v1).setCell ⟨g, 2, none⟩ v2).setCell ⟨g, 3, none⟩ v3) :=
  later_set (later_set (later_set (later_set h hg _ _) hg _ _) hg _ _) hg _ _

theorem later_set2 {w W : World} (h : Later w W) {g : Nat} (hg : w.heap.size ≤ g) (v0 v1 : Value) : Later w ((W.setCell ⟨g, 0, none⟩ v0).setCell ⟨g, 1, none⟩ v1) :=
  later_set (later_set h hg _ _) hg _ _

/-- Results: a struct in a block; with a slot behind it; with two. -/
theorem results_r {P : Program} {fn : Func} {p : Tmp} {ty : TypeId} (h : fn.results = #[.cell p ty]) (tmps : Array Value) (w : World) (g : Nat) (t : TypeId) (cs : Array Value) (d : TypeDesc)
    (hp : tmps.getD p undef = .pointer (some ⟨g, 0, none⟩)) (hg : RA w g cs t)
    (hu : P.underlying ty = some d) (hd : (match d with | .struct _ | .array _ _ => true | _ => false) = true) (hi : (P.info? ty).map (·.size) = some cs.size) :
    (results fn tmps).run P w = .ok (.agg cs) w := by
  have hp' : tmps[p]?.getD undef = .pointer (some ⟨g, 0, none⟩) := by simpa using hp
  simp [results, h, hp', asAddr, run_loadVar_row w g t ty cs (0, 0) d hg hu hd hi]

theorem results_rt {P : Program} {fn : Func} {p q : Tmp} {ty : TypeId} (h : fn.results = #[.cell p ty, .tmp q]) (tmps : Array Value) (w : World) (g : Nat) (t : TypeId) (cs : Array Value) (d : TypeDesc) (v : Value)
    (hp : tmps.getD p undef = .pointer (some ⟨g, 0, none⟩)) (hq : tmps.getD q undef = v) (hg : RA w g cs t)
    (hu : P.underlying ty = some d) (hd : (match d with | .struct _ | .array _ _ => true | _ => false) = true) (hi : (P.info? ty).map (·.size) = some cs.size) :
    (results fn tmps).run P w = .ok (.tuple #[.agg cs, v]) w := by
  have hp' : tmps[p]?.getD undef = .pointer (some ⟨g, 0, none⟩) := by simpa using hp
  have hq' : tmps[q]?.getD undef = v := by simpa using hq
  simp [results, h, hp', hq', asAddr, run_loadVar_row w g t ty cs (0, 0) d hg hu hd hi]

theorem results_rtt {P : Program} {fn : Func} {p q s : Tmp} {ty : TypeId} (h : fn.results = #[.cell p ty, .tmp q, .tmp s]) (tmps : Array Value) (w : World) (g : Nat) (t : TypeId) (cs : Array Value) (d : TypeDesc) (v u : Value)
    (hp : tmps.getD p undef = .pointer (some ⟨g, 0, none⟩)) (hq : tmps.getD q undef = v) (hs : tmps.getD s undef = u) (hg : RA w g cs t)
    (hu : P.underlying ty = some d) (hd : (match d with | .struct _ | .array _ _ => true | _ => false) = true) (hi : (P.info? ty).map (·.size) = some cs.size) :
    (results fn tmps).run P w = .ok (.tuple #[.agg cs, v, u]) w := by
  have hp' : tmps[p]?.getD undef = .pointer (some ⟨g, 0, none⟩) := by simpa using hp
  have hq' : tmps[q]?.getD undef = v := by simpa using hq
  have hs' : tmps[s]?.getD undef = u := by simpa using hs
  simp [results, h, hp', hq', hs', asAddr, run_loadVar_row w g t ty cs (0, 0) d hg hu hd hi]

/-- No span. -/
def z4 : Sp := ⟨0, 0, 0, 0⟩

/-- The first one that an instant is in, and whether there is one. -/
def av (l : List Sp) (t : Int) : Sp := (fi l t).getD z4
def ab (l : List Sp) (t : Int) : Bool := (fi l t).isSome

theorem take_at {l : List Sp} {k : Nat} {x : Sp} (h : l[k]? = some x) : l.take (k + 1) = l.take k ++ [x] := by
  obtain ⟨hk, rfl⟩ := List.getElem?_eq_some_iff.1 h
  exact take_more l k hk

theorem fi_out {l : List Sp} {t : Int} {k : Nat} {x : Sp} (hk : l[k]? = some x) (h : fi (l.take k) t = none) (hx : t < x.f ∨ x.t ≤ t) : fi (l.take (k + 1)) t = none := by
  rw [take_at hk, fi_snoc, h, if_neg (by omega)]; rfl

theorem fi_hit {l : List Sp} {t : Int} {k : Nat} {x : Sp} (hk : l[k]? = some x) (h : fi (l.take k) t = none) (hx : x.f ≤ t ∧ t < x.t) : fi l t = some x := by
  have e : l = l.take (k + 1) ++ l.drop (k + 1) := (List.take_append_drop _ _).symm
  have h1 : fi (l.take (k + 1)) t = some x := by rw [take_at hk, fi_snoc, h, if_pos hx]; rfl
  conv => lhs; rw [e]
  unfold fi at *
  rw [List.find?_append, h1]; rfl

theorem fi_miss {l : List Sp} {t : Int} {k : Nat} (hk : l.length ≤ k) (h : fi (l.take k) t = none) : fi l t = none := by rwa [List.take_of_length_le hk] at h

theorem at_post {l : List Sp} {t : Int} {o : Option Sp} (h : fi l t = o) : av l t = o.getD z4 ∧ ab l t = o.isSome := by unfold av ab; rw [h]; exact ⟨rfl, rfl⟩

set_option maxHeartbeats 2000000 in
theorem at_any (v : Value) (l : List Sp) (t : Int) (w : World) (h : Ws w v l) :
    Calls Tryz.prog 23 #[v, .int .i64 t] w fun e w' => e = .returned (.tuple #[.agg (sc (av l t)).toArray, .bool (ab l t)]) ∧ Later w w' := by
  obtain ⟨S, hS⟩ : ∃ S, S = av l t := ⟨_, rfl⟩
  obtain ⟨B, hB⟩ : ∃ B, B = ab l t := ⟨_, rfl⟩
  rw [← hS, ← hB]
  have HP : Hid (∀ o, fi l t = o → S = o.getD z4 ∧ B = o.isSome) := Lib.hid (fun o ho => by rw [hS, hB]; exact at_post ho)
  clear hS hB
  have HR0 := Lib.hid (RA.new w #[.int .i64 0, .int .i64 0, .int .i64 0, .int .i64 0] 56)
  have HG0 := Lib.hid ((Later.refl w).alloc #[.int .i64 0, .int .i64 0, .int .i64 0, .int .i64 0] 56)
  obtain ⟨n, hn⟩ : ∃ n, l.length = n := ⟨_, rfl⟩
  have HN := Lib.hid hn
  rcases Nat.eq_zero_or_pos n with h0 | h0
  · obtain ⟨ad, cap, rfl, hm⟩ := h.len
    rw [hn] at hm ⊢
    subst h0
    have HV := Lib.hid (HP.out none (fi_miss (k := 0) (by omega) rfl))
    clear h hn
    go_enter Tryz.func23, Tryz.ntmps23
    go_wp2_with fail
    refine wp_loop_rounds 1 ?_
    rw [rounds_succ]
    go_wp2
    refine bodyPost_ret (results_rt (P := Tryz.prog) (fn := Tryz.f23) Tryz.results23 _ _ w.heap.size 56 _ _ _ rfl rfl HR0.out Tryz.underlying56 rfl (by kernel_rfl)) rfl ?_
    rw [HV.out.1, HV.out.2]
    exact ⟨rfl, HG0.out⟩
  · obtain ⟨b, off, cap, rfl, hm1, hm2, hb, hc⟩ := h.has (by omega)
    rw [hn] at hm1 ⊢
    have HC := Lib.hid hc
    clear h hn hc
    have ad : ∀ j, (⟨b, off, none⟩ : Addr).add j = ⟨b, off + j, none⟩ := Addr.add_mid b off
    go_enter Tryz.func23, Tryz.ntmps23
    go_wp2_with fail
    go_loopw [10] (fun i wr => ∃ k : Nat, k ≤ n ∧ i = .int .i64 (k : Int) ∧ fi (l.take k) t = none ∧ RA wr w.heap.size #[.int .i64 0, .int .i64 0, .int .i64 0, .int .i64 0] 56 ∧ Later w wr) (fun i _ => n - (intOf i).toNat)
    case atStart => exact ⟨0, by omega, rfl, rfl, HR0.out, HG0.out⟩
    case round =>
      obtain ⟨k, hk, rfl, hj, hr, hg⟩ := hrel
      have HR := Lib.hid hr
      have HG := Lib.hid hg
      have HJ := Lib.hid hj
      clear hr hg hj
      by_cases hlt : k < n
      · obtain ⟨x, hx⟩ : ∃ x, l[k]? = some x := ⟨_, List.getElem?_eq_getElem (by rw [HN.out]; exact hlt)⟩
        have HX := Lib.hid hx
        obtain ⟨c0, c1, c2, c3⟩ := (HC.out k x hx).later HG.out
        clear hx
        have hkz : (k : Int) < (n : Int) := by omega
        have HR1 := Lib.hid (HR.out.later ((Later.refl wr).alloc #[.int .i64 x.f, .int .i64 x.t, .int .i64 x.m, .int .i64 x.p] 56))
        have HG1 := Lib.hid (HG.out.alloc #[.int .i64 x.f, .int .i64 x.t, .int .i64 x.m, .int .i64 x.p] 56)
        by_cases t1 : x.f ≤ t
        · by_cases t2 : t < x.t
          · have HV := Lib.hid (HP.out (some x) (fi_hit HX.out HJ.out ⟨t1, t2⟩))
            have r0 := HR1.out.cell 0 _ rfl
            have r1 := HR1.out.cell 1 _ rfl
            have r2 := HR1.out.cell 2 _ rfl
            have r3 := HR1.out.cell 3 _ rfl
            have f0 := HR1.out.froz 0
            have f1 := HR1.out.froz 1
            have f2 := HR1.out.froz 2
            have f3 := HR1.out.froz 3
            go_wp2
            refine bodyPost_ret (results_rt (P := Tryz.prog) (fn := Tryz.f23) Tryz.results23 _ _ w.heap.size 56 _ _ _ rfl rfl (HR1.out.set4 _ _ _ _) Tryz.underlying56 rfl (by kernel_rfl)) rfl ?_
            rw [HV.out.1, HV.out.2]
            exact ⟨rfl, later_set4 HG1.out (Nat.le_refl _) _ _ _ _⟩
          · have HV := Lib.hid (fi_out HX.out HJ.out (by omega))
            go_wp2
            go_roundw
            case rel => exact ⟨k + 1, by omega, by go_num, HV.out, HR1.out, HG1.out⟩
            case measure => simp [intOf]; omega
        · have HV := Lib.hid (fi_out HX.out HJ.out (by omega))
          go_wp2
          go_roundw
          case rel => exact ⟨k + 1, by omega, by go_num, HV.out, HR1.out, HG1.out⟩
          case measure => simp [intOf]; omega
      · have HV := Lib.hid (HP.out none (fi_miss (by rw [HN.out]; omega) HJ.out))
        have hkz : ¬ (k : Int) < (n : Int) := by omega
        have r0 := HR.out.cell 0 _ rfl
        have r1 := HR.out.cell 1 _ rfl
        have r2 := HR.out.cell 2 _ rfl
        have r3 := HR.out.cell 3 _ rfl
        have f0 := HR.out.froz 0
        have f1 := HR.out.froz 1
        have f2 := HR.out.froz 2
        have f3 := HR.out.froz 3
        go_wp2
        refine bodyPost_ret (results_rt (P := Tryz.prog) (fn := Tryz.f23) Tryz.results23 _ _ w.heap.size 56 _ _ _ rfl rfl (HR.out.set4 _ _ _ _) Tryz.underlying56 rfl (by kernel_rfl)) rfl ?_
        rw [HV.out.1, HV.out.2]
        exact ⟨rfl, later_set4 HG.out (Nat.le_refl _) _ _ _ _⟩

end Go.Proofs.YtihdijkplmfhfaaGreatDoor.Span
