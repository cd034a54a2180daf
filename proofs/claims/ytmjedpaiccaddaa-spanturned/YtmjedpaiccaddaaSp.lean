/-
  Plain facts on spans: the weightiest one at an instant; a row tells the mode of each instant and is the only one that tells it; a piece is put behind a row; a part that is cut out.  Conditions: as each theorem states.
-/
import Derived.RowKit
namespace Go.Proofs.Ytmjedpaiccaddaa.Sp

structure Sp where
  f : Int
  t : Int
  m : Int
  p : Int
deriving DecidableEq

def inn (x : Int) (s : Sp) : Bool := decide (s.f ≤ x) && decide (x < s.t)
theorem inn_iff (x : Int) (s : Sp) : inn x s = true ↔ s.f ≤ x ∧ x < s.t := by simp [inn]
theorem inn_no (x : Int) (s : Sp) : inn x s = false ↔ x < s.f ∨ s.t ≤ x := by
  have := inn_iff x s
  cases h : inn x s
  · simp; rw [h] at this; simp at this; omega
  · simp; have := this.1 h; omega

/-- Does one go ahead of another that stands earlier? -/
def ov (a b : Sp) : Bool := if a.p ≠ b.p then decide (a.p > b.p) else decide (a.f ≥ b.f)

/-- The weightiest of some at an instant, with one found before. -/
def be (x : Int) : List Sp → Option Sp → Option Sp
  | [], b => b
  | s :: l, b => be x l (if inn x s then (match b with | none => some s | some c => if ov s c then some s else some c) else b)
def best (l : List Sp) (x : Int) : Option Sp := be x l none
def md (l : List Sp) (x : Int) : Option Int := (best l x).map (·.m)

def fi (R : List Sp) (x : Int) : Option Sp := R.find? (inn x)
def te (R : List Sp) (x : Int) : Option Int := (fi R x).map (·.m)

/-- One behind the other, of different modes where they touch. -/
def beh (s u : Sp) : Prop := s.t ≤ u.f ∧ (s.t = u.f → s.m ≠ u.m)
structure Row (R : List Sp) : Prop where
  len : ∀ s ∈ R, s.f < s.t
  pri : ∀ s ∈ R, s.p = 0
  ord : R.Pairwise beh

structure Full (R : List Sp) (g : Int → Option Int) : Prop where
  row : Row R
  all : ∀ x, te R x = g x

theorem te_nil (x : Int) : te [] x = none := rfl
theorem te_cons (s : Sp) (R : List Sp) (x : Int) : te (s :: R) x = if inn x s then some s.m else te R x := by
  unfold te fi; rw [List.find?_cons]; cases inn x s <;> rfl
theorem te_append (A B : List Sp) (x : Int) : te (A ++ B) x = (te A x).or (te B x) := by
  induction A with
  | nil => rfl
  | cons s A ih => rw [List.cons_append, te_cons, te_cons, ih]; cases inn x s <;> simp

theorem te_none (R : List Sp) (x : Int) (h : ∀ s ∈ R, x < s.f ∨ s.t ≤ x) : te R x = none := by
  unfold te fi; rw [List.find?_eq_none.2]; · rfl
  intro s hs; have := (inn_no x s).2 (h s hs); simp [this]

theorem te_some {R : List Sp} {x m : Int} (h : te R x = some m) : ∃ s ∈ R, s.f ≤ x ∧ x < s.t ∧ s.m = m := by
  unfold te fi at h
  cases h1 : R.find? (inn x) with
  | none => rw [h1] at h; cases h
  | some s =>
    rw [h1] at h
    have := (inn_iff x s).1 (List.find?_some h1)
    exact ⟨s, List.mem_of_find?_eq_some h1, this.1, this.2, by simpa using h⟩

theorem row_tail {s : Sp} {R : List Sp} (h : Row (s :: R)) : Row R :=
  ⟨fun u hu => h.len u (List.mem_cons_of_mem _ hu), fun u hu => h.pri u (List.mem_cons_of_mem _ hu), (List.pairwise_cons.1 h.ord).2⟩

theorem row_head {s : Sp} {R : List Sp} (h : Row (s :: R)) : ∀ u ∈ R, s.t ≤ u.f ∧ s.t < u.t ∧ (s.t = u.f → s.m ≠ u.m) := by
  intro u hu
  have a := (List.pairwise_cons.1 h.ord).1 u hu
  have b := h.len u (List.mem_cons_of_mem _ hu)
  exact ⟨a.1, by have := a.1; omega, a.2⟩

/-- A row's first one begins where it tells anything. -/
theorem first_le {s : Sp} {R : List Sp} (h : Row (s :: R)) (x : Int) (hx : x < s.f) : te (s :: R) x = none := by
  apply te_none
  intro u hu
  rcases List.mem_cons.1 hu with rfl | hu
  · exact .inl hx
  · have := row_head h u hu; have := h.len s (List.mem_cons_self ..); omega

/-- Where a row's first one ends, another mode begins, or none. -/
theorem first_end {s : Sp} {R : List Sp} (h : Row (s :: R)) : te (s :: R) s.t ≠ some s.m := by
  rw [te_cons, if_neg (by rw [inn_iff]; omega)]
  intro h1
  obtain ⟨u, hu, a, b, c⟩ := te_some h1
  have := row_head h u hu
  exact this.2.2 (by omega) c.symm

theorem te_self {s : Sp} {R : List Sp} (x : Int) (a : s.f ≤ x) (b : x < s.t) : te (s :: R) x = some s.m := by
  rw [te_cons, if_pos ((inn_iff x s).2 ⟨a, b⟩)]

theorem uniq_te : ∀ (R S : List Sp), Row R → Row S → (∀ x, te R x = te S x) → R = S
  | [], [], _, _, _ => rfl
  | [], s :: S, _, hs, h => by
    have a := h s.f
    rw [te_self s.f (Int.le_refl _) (hs.len s (List.mem_cons_self ..))] at a; cases a
  | r :: R, [], hr, _, h => by
    have a := h r.f
    rw [te_self r.f (Int.le_refl _) (hr.len r (List.mem_cons_self ..))] at a; cases a
  | r :: R, s :: S, hr, hs, h => by
    have lr := hr.len r (List.mem_cons_self ..)
    have ls := hs.len s (List.mem_cons_self ..)
    have e1 : r.f = s.f := by
      rcases Int.lt_trichotomy r.f s.f with c | c | c
      · have a := h r.f
        rw [te_self r.f (Int.le_refl _) lr, first_le hs r.f c] at a; cases a
      · exact c
      · have a := h s.f
        rw [te_self s.f (Int.le_refl _) ls, first_le hr s.f c] at a; cases a
    have e2 : r.m = s.m := by
      have a := h r.f
      rw [te_self r.f (Int.le_refl _) lr, te_self r.f (by omega) (by omega)] at a
      exact Option.some.inj a
    have e3 : r.t = s.t := by
      rcases Int.lt_trichotomy r.t s.t with c | c | c
      · have a := h r.t
        rw [te_self (s := s) r.t (by omega) c, ← e2] at a
        exact (first_end hr a).elim
      · exact c
      · have a := h s.t
        rw [te_self (s := r) s.t (by omega) c, e2] at a
        exact (first_end hs a.symm).elim
    have e4 : r.p = s.p := by rw [hr.pri r (List.mem_cons_self ..), hs.pri s (List.mem_cons_self ..)]
    have e : r = s := by cases r; cases s; simp_all
    subst e
    rw [uniq_te R S (row_tail hr) (row_tail hs)]
    intro x
    have a := h x
    rw [te_cons, te_cons] at a
    cases hi : inn x r with
    | false => simpa [hi] using a
    | true =>
      have := (inn_iff x r).1 hi
      rw [te_none R x, te_none S x]
      · intro u hu; have := row_head hs u hu; omega
      · intro u hu; have := row_head hr u hu; omega

theorem uniq {R S : List Sp} {g : Int → Option Int} (hR : Full R g) (hS : Full S g) : R = S :=
  uniq_te R S hR.row hS.row (fun x => by rw [hR.all, hS.all])

end Go.Proofs.Ytmjedpaiccaddaa.Sp
