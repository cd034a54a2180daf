/-
  Plain facts on spans, more: a row as it grows piece by piece; spans resolved.  Conditions: as each theorem states.
-/
import Derived.Test.YtmjedpaiccaddaaSq
namespace Go.Proofs.Ytmjedpaiccaddaa.Sp

/-! A row that grows. -/

structure Good (R : List Sp) (g : Int → Option Int) (e : Int) : Prop where
  row : Row R
  low : ∀ s ∈ R, s.t ≤ e
  all : ∀ x, x < e → te R x = g x

/-- A piece put behind a row. -/
def push (o : List Sp) (a b m : Int) : List Sp :=
  match o.getLast? with
  | some s => if s.t = a ∧ s.m = m then o.dropLast ++ [⟨s.f, b, s.m, s.p⟩] else o ++ [⟨a, b, m, 0⟩]
  | none => [⟨a, b, m, 0⟩]

theorem push_nil (a b m : Int) : push [] a b m = [⟨a, b, m, 0⟩] := rfl
theorem push_last (o : List Sp) (s : Sp) (a b m : Int) : push (o ++ [s]) a b m = if s.t = a ∧ s.m = m then o ++ [⟨s.f, b, s.m, s.p⟩] else o ++ [s] ++ [⟨a, b, m, 0⟩] := by
  unfold push; rw [List.getLast?_concat]; simp only [List.dropLast_concat]

theorem row_one (s : Sp) (h : s.f < s.t) (hp : s.p = 0) : Row [s] :=
  ⟨fun u hu => by rw [List.mem_singleton.1 hu]; exact h, fun u hu => by rw [List.mem_singleton.1 hu]; exact hp, List.pairwise_singleton ..⟩

theorem row_append {A B : List Sp} : Row (A ++ B) ↔ Row A ∧ Row B ∧ ∀ s ∈ A, ∀ u ∈ B, beh s u := by
  constructor
  · intro h
    have h1 := List.pairwise_append.1 h.ord
    exact ⟨⟨fun s hs => h.len s (List.mem_append_left _ hs), fun s hs => h.pri s (List.mem_append_left _ hs), h1.1⟩, ⟨fun s hs => h.len s (List.mem_append_right _ hs), fun s hs => h.pri s (List.mem_append_right _ hs), h1.2.1⟩, h1.2.2⟩
  · rintro ⟨a, b, c⟩
    refine ⟨?_, ?_, List.pairwise_append.2 ⟨a.ord, b.ord, c⟩⟩
    · intro s hs; exact (List.mem_append.1 hs).elim (a.len s) (b.len s)
    · intro s hs; exact (List.mem_append.1 hs).elim (a.pri s) (b.pri s)

theorem te_one (s : Sp) (x : Int) : te [s] x = if s.f ≤ x ∧ x < s.t then some s.m else none := by
  rw [te_cons, te_nil]
  by_cases h : s.f ≤ x ∧ x < s.t
  · rw [if_pos ((inn_iff x s).2 h), if_pos h]
  · rw [if_neg (by rw [inn_iff]; exact h), if_neg h]

theorem good_nil (g : Int → Option Int) (e : Int) (h : ∀ x, x < e → g x = none) : Good [] g e :=
  ⟨⟨by simp, by simp, List.Pairwise.nil⟩, by simp, fun x hx => by rw [te_nil, h x hx]⟩

theorem good_gap {R : List Sp} {g : Int → Option Int} {a b : Int} (h : Good R g a) (hab : a ≤ b) (hg : ∀ x, a ≤ x → x < b → g x = none) : Good R g b := by
  refine ⟨h.row, fun s hs => by have := h.low s hs; omega, fun x hx => ?_⟩
  by_cases c : x < a
  · exact h.all x c
  · rw [hg x (by omega) hx]
    exact te_none R x (fun s hs => by have := h.low s hs; omega)

/-- A piece of one mode, where the row ends earlier, or ends there in another mode. -/
theorem good_new {R : List Sp} {g : Int → Option Int} {a b m : Int} (h : Good R g a) (hab : a < b) (hg : ∀ x, a ≤ x → x < b → g x = some m)
    (hl : ∀ s ∈ R, s.t = a → s.m ≠ m) : Good (R ++ [⟨a, b, m, 0⟩]) g b := by
  refine ⟨row_append.2 ⟨h.row, row_one _ hab rfl, ?_⟩, ?_, ?_⟩
  · intro s hs u hu
    rw [List.mem_singleton.1 hu]
    exact ⟨h.low s hs, fun e => hl s hs e⟩
  · intro s hs
    rcases List.mem_append.1 hs with hs | hs
    · have := h.low s hs; omega
    · rw [List.mem_singleton.1 hs]; exact Int.le_refl _
  · intro x hx
    rw [te_append, te_one]
    by_cases c : x < a
    · rw [if_neg (by simp only; omega), h.all x c]; simp
    · rw [te_none R x (fun s hs => by have := h.low s hs; omega), if_pos (by simp only; omega), hg x (by omega) hx]; rfl

/-- A piece of the mode in which the row ends. -/
theorem good_more {R : List Sp} {s : Sp} {g : Int → Option Int} {a b m : Int} (h : Good (R ++ [s]) g a) (hab : a < b) (hg : ∀ x, a ≤ x → x < b → g x = some m)
    (ht : s.t = a) (hm : s.m = m) : Good (R ++ [⟨s.f, b, s.m, s.p⟩]) g b := by
  obtain ⟨hR, hs, ho⟩ := row_append.1 h.row
  have l1 := hs.len s (List.mem_singleton.2 rfl)
  have lR : ∀ u ∈ R, u.t ≤ s.f := fun u hu => (ho u hu s (List.mem_singleton.2 rfl)).1
  refine ⟨row_append.2 ⟨hR, row_one _ (by simp only; omega) (hs.pri s (List.mem_singleton.2 rfl)), ?_⟩, ?_, ?_⟩
  · intro u hu v hv
    rw [List.mem_singleton.1 hv]
    exact ho u hu s (List.mem_singleton.2 rfl)
  · intro u hu
    rcases List.mem_append.1 hu with hu | hu
    · have := lR u hu; omega
    · rw [List.mem_singleton.1 hu]; exact Int.le_refl _
  · intro x hx
    rw [te_append, te_one]
    by_cases c : x < a
    · have h1 := h.all x c
      rw [te_append, te_one] at h1
      by_cases d : s.f ≤ x
      · rw [if_pos (by simp only; omega)]
        rw [if_pos (by omega)] at h1
        exact h1
      · rw [if_neg (by simp only; omega)]
        rw [if_neg (by omega)] at h1
        exact h1
    · rw [te_none R x (fun u hu => by have := lR u hu; omega), if_pos (by simp only; omega), hg x (by omega) hx, hm]; rfl

theorem good_push {R : List Sp} {g : Int → Option Int} {a b m : Int} (h : Good R g a) (hab : a < b) (hg : ∀ x, a ≤ x → x < b → g x = some m) : Good (push R a b m) g b := by
  rcases List.eq_nil_or_concat R with rfl | ⟨o, s, rfl⟩
  · exact good_new h hab hg (by simp)
  · rw [List.concat_eq_append] at h ⊢
    rw [push_last]
    by_cases c : s.t = a ∧ s.m = m
    · rw [if_pos c]; exact good_more h hab hg c.1 c.2
    · rw [if_neg c]
      refine good_new h hab hg ?_
      intro u hu e em
      rcases List.mem_append.1 hu with hu | hu
      · obtain ⟨hR, hs, ho⟩ := row_append.1 h.row
        have l1 := hs.len s (List.mem_singleton.2 rfl)
        have l2 := (ho u hu s (List.mem_singleton.2 rfl)).1
        have l3 := h.low s (List.mem_append_right _ (List.mem_singleton.2 rfl))
        omega
      · rw [List.mem_singleton.1 hu] at e em; exact c ⟨e, em⟩

theorem good_full {R : List Sp} {g : Int → Option Int} {a : Int} (h : Good R g a) (hg : ∀ x, a ≤ x → g x = none) : Full R g := by
  refine ⟨h.row, fun x => ?_⟩
  by_cases c : x < a
  · exact h.all x c
  · rw [hg x (by omega)]
    exact te_none R x (fun s hs => by have := h.low s hs; omega)

/-! Spans resolved. -/

/-- Is n the least beginning or end above an instant, and is there one? -/
def Nx (E : List Int) (a n : Int) (b : Bool) : Prop := if b then a < n ∧ n ∈ E ∧ ∀ e ∈ E, e ≤ a ∨ n ≤ e else ∀ e ∈ E, e ≤ a

/-- One step of resolving. -/
def st (l R : List Sp) (a b : Int) : List Sp := match md l a with | some m => push R a b m | none => R

theorem st_good {l R : List Sp} {a b : Int} (h : Good R (md l) a) (hn : Nx (ends l) a b true) : Good (st l R a b) (md l) b := by
  obtain ⟨h1, _, h2⟩ := hn
  have h3 : ∀ x, a ≤ x → x < b → md l x = md l a := fun x c d => md_flat l a x c (fun e he => by have := h2 e he; omega)
  unfold st
  cases hm : md l a with
  | some m => exact good_push h h1 (fun x c d => by rw [h3 x c d, hm])
  | none => exact good_gap h (by omega) (fun x c d => by rw [h3 x c d, hm])

theorem st_start (l : List Sp) (a : Int) (h : ∀ s ∈ l, a ≤ s.f) : Good [] (md l) a :=
  good_nil _ a (fun x hx => md_out l x (fun s hs => by have := h s hs; omega))

theorem st_end {l R : List Sp} {a : Int} (n : Int) (h : Good R (md l) a) (hn : Nx (ends l) a n false) : Full R (md l) := by
  refine good_full h (fun x hx => md_out l x (fun s hs => ?_))
  have := hn s.t (t_ends hs)
  omega

theorem full_nil : Full [] (md []) := ⟨⟨by simp, by simp, List.Pairwise.nil⟩, fun _ => rfl⟩

/-! What the promises say of rows. -/

/-- Spans that may be. -/
def May (l : List Sp) : Prop := ∀ s ∈ l, s.f < s.t

theorem row_may {R : List Sp} (h : Row R) : May R := h.len
theorem may_append {A B : List Sp} (a : May A) (b : May B) : May (A ++ B) := fun s hs => (List.mem_append.1 hs).elim (a s) (b s)

/-- What is resolved and resolved again stays. -/
theorem again {R S : List Sp} (h : Row R) (hS : Full S (md R)) : S = R := uniq hS (full_self h)

/-- What is cut in two and resolved together is what it was. -/
theorem cut_two {R S : List Sp} (h : Row R) (a b c : Int) (h1 : a ≤ b) (h2 : b ≤ c) (hS : Full S (md (cu R a b ++ cu R b c))) : S = cu R a c :=
  uniq hS ⟨row_cu h a c, fun x => (md_two h a b c h1 h2 x).symm⟩

theorem two_may {R : List Sp} (h : Row R) (a b c : Int) : May (cu R a b ++ cu R b c) := may_append (row_may (row_cu h a b)) (row_may (row_cu h b c))

theorem md_top (l : List Sp) (s : Sp) (x : Int) (h : ∀ u ∈ l, u.p < s.p) : md (l ++ [s]) x = if s.f ≤ x ∧ x < s.t then some s.m else md l x := by
  unfold md; rw [best_top l s x h]
  by_cases c : s.f ≤ x ∧ x < s.t
  · rw [if_pos ((inn_iff x s).2 c), if_pos c]; rfl
  · rw [if_neg (by rw [inn_iff]; exact c), if_neg c]
theorem md_top0 (l : List Sp) (s : Sp) (x : Int) (h : ∀ u ∈ l, u.p < s.p) : md (s :: l) x = if s.f ≤ x ∧ x < s.t then some s.m else md l x := by
  unfold md; rw [best_top0 l s x h]
  by_cases c : s.f ≤ x ∧ x < s.t
  · rw [if_pos ((inn_iff x s).2 c), if_pos c]; rfl
  · rw [if_neg (by rw [inn_iff]; exact c), if_neg c]

/-- One that is weightier than all: wherever it stands, -/
theorem top_same {l X Y : List Sp} {s : Sp} (h : ∀ u ∈ l, u.p < s.p) (hX : Full X (md (l ++ [s]))) (hY : Full Y (md (s :: l))) : X = Y :=
  uniq hX ⟨hY.row, fun x => by rw [hY.all, md_top0 l s x h, md_top l s x h]⟩

/-- it is there, whole, -/
theorem top_mid {l X : List Sp} {s : Sp} (hs : s.f < s.t) (h : ∀ u ∈ l, u.p < s.p) (hX : Full X (md (l ++ [s]))) : cu X s.f s.t = [⟨s.f, s.t, s.m, 0⟩] := by
  refine uniq (full_cu hX s.f s.t) ⟨row_one _ hs rfl, fun x => ?_⟩
  rw [te_one, md_top l s x h]
  simp only
  by_cases c : s.f ≤ x ∧ x < s.t
  · rw [if_pos c, if_pos c, if_pos c]
  · rw [if_neg c, if_neg c]

/-- and ahead of it nothing changes. -/
theorem top_low {l X R : List Sp} {s : Sp} (a : Int) (h : ∀ u ∈ l, u.p < s.p) (hX : Full X (md (l ++ [s]))) (hR : Full R (md l)) : cu X a s.f = cu R a s.f := by
  refine uniq (full_cu hX a s.f) ⟨row_cu hR.row a s.f, fun x => ?_⟩
  rw [te_cu, hR.all, md_top l s x h]
  by_cases c : a ≤ x ∧ x < s.f
  · rw [if_pos c, if_pos c, if_neg (by omega)]
  · rw [if_neg c, if_neg c]

theorem fi_mem {R : List Sp} {x : Int} {s : Sp} (h : fi R x = some s) : s ∈ R ∧ s.f ≤ x ∧ x < s.t := ⟨List.mem_of_find?_eq_some h, (inn_iff x s).1 (List.find?_some h)⟩

/-- At each instant the mode is the weightiest one's. -/
theorem each {l R : List Sp} (h : Full R (md l)) (x : Int) : (∀ s, fi R x = some s → ∃ u, best l x = some u ∧ s.m = u.m ∧ s.p = 0) ∧ (fi R x = none → best l x = none) := by
  have a := h.all x
  unfold te md at a
  constructor
  · intro s hs
    rw [hs] at a
    cases hb : best l x with
    | none => rw [hb] at a; cases a
    | some u =>
      rw [hb] at a
      exact ⟨u, rfl, by simpa using a, h.row.pri s (fi_mem hs).1⟩
  · intro hs
    rw [hs] at a
    cases hb : best l x with
    | none => rfl
    | some u => rw [hb] at a; cases a

/-- Two pieces of a row, one behind the other. -/
theorem row_at {R : List Sp} (h : Row R) (i : Nat) (hi : i + 1 < R.length) : R[i].t ≤ R[i + 1].f ∧ (R[i].t = R[i + 1].f → R[i].m ≠ R[i + 1].m) :=
  List.pairwise_iff_getElem.1 h.ord i (i + 1) (by omega) hi (by omega)

/-! The parts as they are walked through. -/

theorem cu_snoc (l : List Sp) (s : Sp) (a b : Int) : cu (l ++ [s]) a b = if (cl a b s).f < (cl a b s).t then cu l a b ++ [cl a b s] else cu l a b := by
  rw [cu_append, cu_cons, cu_nil]
  split
  · rfl
  · rw [List.append_nil]

theorem best_snoc (l : List Sp) (s : Sp) (x : Int) : best (l ++ [s]) x = if s.f ≤ x ∧ x < s.t then (match best l x with | none => some s | some c => if ov s c then some s else some c) else best l x := by
  show be x (l ++ [s]) none = _
  rw [be_append]
  show (if inn x s then (match be x l none with | none => some s | some c => if ov s c then some s else some c) else be x l none) = _
  by_cases c : s.f ≤ x ∧ x < s.t
  · rw [if_pos ((inn_iff x s).2 c), if_pos c]; rfl
  · rw [if_neg (by rw [inn_iff]; exact c), if_neg c]; rfl

theorem fi_snoc (l : List Sp) (s : Sp) (x : Int) : fi (l ++ [s]) x = (fi l x).or (if s.f ≤ x ∧ x < s.t then some s else none) := by
  unfold fi
  rw [List.find?_append, List.find?_cons, List.find?_nil]
  by_cases c : s.f ≤ x ∧ x < s.t
  · rw [(inn_iff x s).2 c, if_pos c]
  · have : inn x s = false := (inn_no x s).2 (by omega)
    rw [this, if_neg c]

/-- In a row that is told up to i, the place of the weightiest one at an instant: none, or one that is in it. -/
def Bi (l : List Sp) (x : Int) (k : Nat) (j : Int) : Prop := match best (l.take k) x with | none => j = -1 | some s => 0 ≤ j ∧ j < k ∧ l[j.toNat]? = some s

theorem take_more (l : List Sp) (k : Nat) (hk : k < l.length) : l.take (k + 1) = l.take k ++ [l[k]] := by
  rw [List.take_add_one, List.getElem?_eq_getElem hk]; rfl

theorem bi_nil (l : List Sp) (x : Int) : Bi l x 0 (-1) := by unfold Bi; rw [List.take_zero]; rfl

theorem bi_out (l : List Sp) (x : Int) (k : Nat) (j : Int) (hk : k < l.length) (h : Bi l x k j) (hx : x < l[k].f ∨ l[k].t ≤ x) : Bi l x (k + 1) j := by
  unfold Bi at h ⊢
  rw [take_more l k hk, best_snoc, if_neg (by omega)]
  cases hb : best (l.take k) x with
  | none => rw [hb] at h; exact h
  | some s => rw [hb] at h; exact ⟨h.1, by have := h.2.1; omega, h.2.2⟩

theorem bi_first (l : List Sp) (x : Int) (k : Nat) (hk : k < l.length) (h : Bi l x k (-1)) (hx : l[k].f ≤ x ∧ x < l[k].t) : Bi l x (k + 1) k := by
  unfold Bi at h ⊢
  rw [take_more l k hk, best_snoc, if_pos hx]
  cases hb : best (l.take k) x with
  | none => exact ⟨by omega, by omega, by simp [hk]⟩
  | some s => rw [hb] at h; have := h.1; omega

theorem bi_best {l : List Sp} {x : Int} {k : Nat} {j : Int} (h : Bi l x k j) (hj : 0 ≤ j) : ∃ (n : Nat) (hn : n < l.length), j = n ∧ n < k ∧ best (l.take k) x = some l[n] := by
  unfold Bi at h
  cases hb : best (l.take k) x with
  | none => rw [hb] at h; omega
  | some s =>
    rw [hb] at h
    obtain ⟨_, h1, h2⟩ := h
    obtain ⟨hn, h3⟩ := List.getElem?_eq_some_iff.1 h2
    exact ⟨j.toNat, hn, by omega, by omega, by rw [h3]⟩

theorem bi_over (l : List Sp) (x : Int) (k n : Nat) (hk : k < l.length) (hn : n < l.length) (h : Bi l x k n) (hx : l[k].f ≤ x ∧ x < l[k].t) (ho : ov l[k] l[n] = true) : Bi l x (k + 1) k := by
  obtain ⟨m, hm, e, _, hb⟩ := bi_best h (by omega)
  have : m = n := by omega
  subst this
  unfold Bi
  rw [take_more l k hk, best_snoc, if_pos hx, hb]
  simp only [ho]
  exact ⟨by omega, by omega, by simp [hk]⟩

theorem bi_stay (l : List Sp) (x : Int) (k n : Nat) (hk : k < l.length) (hn : n < l.length) (h : Bi l x k n) (hx : l[k].f ≤ x ∧ x < l[k].t) (ho : ov l[k] l[n] = false) : Bi l x (k + 1) n := by
  obtain ⟨m, hm, e, hmk, hb⟩ := bi_best h (by omega)
  have : m = n := by omega
  subst this
  unfold Bi
  rw [take_more l k hk, best_snoc, if_pos hx, hb]
  simp only [ho]
  exact ⟨by omega, by omega, by simp [hn]⟩

theorem ov_iff (a b : Sp) : ov a b = true ↔ a.p > b.p ∨ (a.p = b.p ∧ a.f ≥ b.f) := by
  unfold ov; split <;> simp <;> omega

theorem bi_all {l : List Sp} {x : Int} {j : Int} (h : Bi l x l.length j) : (j = -1 ∧ best l x = none) ∨ ∃ (n : Nat) (hn : n < l.length), j = n ∧ best l x = some l[n] := by
  by_cases c : 0 ≤ j
  · obtain ⟨n, hn, e, _, hb⟩ := bi_best h c
    rw [List.take_length] at hb
    exact .inr ⟨n, hn, e, hb⟩
  · unfold Bi at h
    rw [List.take_length] at h
    cases hb : best l x with
    | none => rw [hb] at h; exact .inl ⟨h, rfl⟩
    | some s => rw [hb] at h; exact absurd h.1 c

end Go.Proofs.Ytmjedpaiccaddaa.Sp
