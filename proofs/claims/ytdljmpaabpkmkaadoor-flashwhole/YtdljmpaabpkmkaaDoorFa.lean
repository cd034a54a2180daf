/-
  Plain facts on records as bytes: what is laid is read, what is read is laid in just those bytes, what was cut ends too early; which of two slots has the latest record, and that behind a write it is the new one or the old one. Conditions: as each theorem states.
-/
import Derived.Test.YtdljmpaabpkmkaaDoorWi
import Derived.Test.YtdljmpaabpkmkaaDoorKc
namespace Go.Proofs.YtdljmpaabpkmkaaDoor.Fa
open Go.Proofs.YtdljmpaabpkmkaaDoor.Wi

/-- A row that stands somewhere is read there. -/
theorem grow_at (bs l t : List Int) (p : Nat) (m : Int) (hl : ∀ n ∈ l, In n) (hm : (l.length : Int) ≤ m) (hn : l.length ≤ 1000) (hp : p ≤ bs.length) (e : bs.drop p = ro l ++ t) :
    grow bs p m = (l, ((p + (ro l).length : Nat) : Int), 0) ∧ bs.drop (p + (ro l).length) = t ∧ p + (ro l).length ≤ bs.length := by
  have e0 : bs.drop p = pu l.length ++ (l.flatMap pu ++ t) := by rw [e]; simp [ro]
  obtain ⟨a, b, c⟩ := g_at bs p l.length _ ⟨by omega, by omega⟩ hp e0
  have hlen : (ro l).length ≤ (bs.drop p).length := by rw [e]; simp
  rw [List.length_drop] at hlen
  have hro : (ro l).length = (pu l.length).length + (l.flatMap pu).length := by unfold ro; rw [List.length_append]
  have d : bs.drop (p + (pu l.length).length) = l.flatMap pu ++ t := by
    rw [← List.drop_drop, e0, List.drop_left]
  have i := gn_row bs l (p + (pu l.length).length) t hl (by omega) d
  refine ⟨?_, by rw [← List.drop_drop, e, List.drop_left], by omega⟩
  unfold grow
  rw [if_pos a, b, c, if_pos (by omega), Int.toNat_natCast, show ((p : Int) + ((pu l.length).length : Int)) = ((p + (pu l.length).length : Nat) : Int) by omega, i]
  congr 2
  omega

theorem gn_ok (bs : List Int) (hb : ∀ x ∈ bs, 0 ≤ x ∧ x ≤ 255) (k : Nat) (p : Nat) (hp : p ≤ bs.length) (h : (gn bs k p).2.2 = 0) :
    ∃ q : Nat, (gn bs k p).2.1 = q ∧ p ≤ q ∧ q ≤ bs.length ∧ (gn bs k p).1.length = k ∧ (bs.drop p).take (q - p) = (gn bs k p).1.flatMap pu ∧ ∀ n ∈ (gn bs k p).1, In n := by
  induction k generalizing p with
  | zero => exact ⟨p, rfl, Nat.le_refl _, hp, rfl, by simp [gn], by simp [gn]⟩
  | succ j ih =>
    by_cases he : gE bs p = 0
    · obtain ⟨g0, g1, g2, g3, g4⟩ := g_ok bs p hb he
      obtain ⟨r, hr⟩ : ∃ r : Nat, gP bs p = r := ⟨(gP bs p).toNat, by omega⟩
      rw [hr] at g1 g2 g3
      rw [gn, if_pos he, hr] at h ⊢
      by_cases h2 : (gn bs j r).2.2 = 0
      · rw [if_pos h2] at h ⊢
        obtain ⟨q, q1, q2, q3, q4, q5, q6⟩ := ih r (by omega) h2
        refine ⟨q, q1, by omega, q3, by simp [q4], ?_, ?_⟩
        · rw [show ((r : Int) - (p : Int)).toNat = r - p by omega, Int.toNat_natCast] at g3
          have e : (bs.drop p).take (q - p) = (bs.drop p).take (r - p) ++ (bs.drop r).take (q - r) := by
            rw [show q - p = (r - p) + (q - r) by omega, List.take_add, List.drop_drop, show p + (r - p) = r by omega]
          rw [e, g3, q5]
          rfl
        · intro n hn
          rcases List.mem_cons.1 hn with rfl | hn
          · exact g4
          · exact q6 n hn
      · rw [if_neg h2] at h
        exact absurd h h2
    · rw [gn, if_neg he] at h
      exact absurd h he

theorem grow_ok (bs : List Int) (hb : ∀ x ∈ bs, 0 ≤ x ∧ x ≤ 255) (p : Nat) (m : Int) (h : (grow bs p m).2.2 = 0) :
    ∃ q : Nat, (grow bs p m).2.1 = q ∧ p ≤ q ∧ q ≤ bs.length ∧ (((grow bs p m).1.length : Nat) : Int) ≤ m ∧ (bs.drop p).take (q - p) = ro (grow bs p m).1 ∧ ∀ n ∈ (grow bs p m).1, In n := by
  unfold grow at h ⊢
  by_cases he : gE bs p = 0
  · rw [if_pos he] at h ⊢
    by_cases hn : 0 ≤ gN bs p ∧ gN bs p ≤ m
    · rw [if_pos hn] at h ⊢
      obtain ⟨g0, g1, g2, g3, g4⟩ := g_ok bs p hb he
      obtain ⟨r, hr⟩ : ∃ r : Nat, gP bs p = r := ⟨(gP bs p).toNat, by omega⟩
      rw [hr] at g1 g2 g3 h ⊢
      obtain ⟨q, q1, q2, q3, q4, q5, q6⟩ := gn_ok bs hb _ r (by omega) h
      refine ⟨q, q1, by omega, q3, by omega, ?_, q6⟩
      rw [show ((r : Int) - (p : Int)).toNat = r - p by omega, Int.toNat_natCast] at g3
      have e : (bs.drop p).take (q - p) = (bs.drop p).take (r - p) ++ (bs.drop r).take (q - r) := by
        rw [show q - p = (r - p) + (q - r) by omega, List.take_add, List.drop_drop, show p + (r - p) = r by omega]
      rw [e, g3, q5]
      unfold ro
      rw [q4, show (((gN bs p).toNat : Nat) : Int) = gN bs p by omega]
    · rw [if_neg hn] at h
      simp at h
  · rw [if_neg he] at h
    exact absurd h he

/-- A record. -/
structure Rc where
  g : Int
  c : Int
  m : Int
  b : List Int

/-- May a record be? -/
def may (r : Rc) : Bool := decide (1 ≤ r.g) && decide (r.g ≤ 1099511627776) && decide (0 ≤ r.m) && decide (r.m ≤ 5) && decide (r.b.length ≤ 4096)

theorem may_iff (r : Rc) : may r = true ↔ 1 ≤ r.g ∧ r.g ≤ 1099511627776 ∧ 0 ≤ r.m ∧ r.m ≤ 5 ∧ r.b.length ≤ 4096 := by
  unfold may
  simp only [Bool.and_eq_true, decide_eq_true_eq, and_assoc]

/-- Its bytes, ahead of the sum, and with it. -/
def bo (r : Rc) : List Int := ro [r.g, r.c, r.m] ++ (pu (r.b.length : Int) ++ r.b)

def co (r : Rc) : List Int := Cr.se (bo r)

def r0 : Rc := ⟨0, 0, 0, []⟩

/-- What stands behind a row, and its error. -/
def rdc (bs l : List Int) (p : Int) : Rc × Int :=
  if gE bs p = 0 then
    (if 0 ≤ gN bs p ∧ gN bs p ≤ 4096 then
      (if (bs.length : Int) - gP bs p < gN bs p + 2 then (r0, 121)
      else if gN bs p + 2 < (bs.length : Int) - gP bs p then (r0, 122)
      else if (Cr.op bs).2 = 0 then (⟨l.getD 0 0, l.getD 1 0, l.getD 2 0, (bs.drop (gP bs p).toNat).take (gN bs p).toNat⟩, 0)
      else (r0, (Cr.op bs).2))
    else (r0, 120))
  else (r0, gE bs p)

/-- What a slot has, and its error. -/
def rd (bs : List Int) : Rc × Int :=
  if (grow bs 0 3).2.2 = 0 then
    (if (grow bs 0 3).1.length = 3 then
      (if may ⟨(grow bs 0 3).1.getD 0 0, (grow bs 0 3).1.getD 1 0, (grow bs 0 3).1.getD 2 0, []⟩ = true then rdc bs (grow bs 0 3).1 (grow bs 0 3).2.1
      else (r0, 120))
    else (r0, 120))
  else (r0, (grow bs 0 3).2.2)

def By (l : List Int) : Prop := ∀ x ∈ l, 0 ≤ x ∧ x ≤ 255

/-- Are the parts of a record such as the machine has? -/
def Fit (r : Rc) : Prop := In r.c ∧ By r.b

theorem nums_in {r : Rc} (h : may r = true) (hf : Fit r) : ∀ n ∈ [r.g, r.c, r.m], In n := by
  obtain ⟨h1, h2, h3, h4, h5⟩ := (may_iff r).1 h
  intro n hn
  simp only [List.mem_cons, List.not_mem_nil, or_false] at hn
  rcases hn with rfl | rfl | rfl
  · unfold In; omega
  · exact hf.1
  · unfold In; omega

theorem bo_byte {r : Rc} (h : may r = true) (hf : Fit r) : By (bo r) := by
  obtain ⟨h1, h2, h3, h4, h5⟩ := (may_iff r).1 h
  intro x hx
  rcases List.mem_append.1 hx with g | g
  · exact ro_byte _ (nums_in h hf) (by simp) x g
  · rcases List.mem_append.1 g with g | g
    · exact pu_byte _ ⟨by omega, by omega⟩ x g
    · exact hf.2 x g

theorem co_byte {r : Rc} (h : may r = true) (hf : Fit r) : By (co r) := Cr.se_byte _ (bo_byte h hf)

theorem bo_len {r : Rc} (h : may r = true) : (bo r).length ≤ 4146 := by
  obtain ⟨h1, h2, h3, h4, h5⟩ := (may_iff r).1 h
  have a := ro_len [r.g, r.c, r.m]
  have b := pu_len (r.b.length : Int)
  simp only [List.length_cons, List.length_nil] at a
  unfold bo
  rw [List.length_append, List.length_append]
  omega

theorem co_len {r : Rc} (h : may r = true) : (co r).length ≤ 4148 := by
  have := bo_len h
  unfold co
  rw [Cr.se_len]
  omega

theorem co_parts (r : Rc) : co r = ro [r.g, r.c, r.m] ++ (pu (r.b.length : Int) ++ (r.b ++ [Cr.sh (Cr.mo Cr.st (bo r)), Cr.sl (Cr.mo Cr.st (bo r))])) := by
  unfold co Cr.se
  conv => lhs; lhs; unfold bo
  simp only [List.append_assoc]

theorem may_num {r : Rc} (h : may r = true) : may ⟨r.g, r.c, r.m, []⟩ = true := by
  obtain ⟨h1, h2, h3, h4, h5⟩ := (may_iff r).1 h
  exact (may_iff _).2 ⟨h1, h2, h3, h4, by simp⟩

theorem rd_row {bs : List Int} {u v w p : Int} (h : grow bs 0 3 = ([u, v, w], p, 0)) (hm : may ⟨u, v, w, []⟩ = true) : rd bs = rdc bs [u, v, w] p := by
  unfold rd
  rw [h]
  have e : ([u, v, w] : List Int).length = 3 := rfl
  simp only [if_true]
  rw [if_pos e]
  exact if_pos hm

/-- What is laid is read. -/
theorem rd_co {r : Rc} (h : may r = true) (hf : Fit r) : rd (co r) = (r, 0) := by
  obtain ⟨h1, h2, h3, h4, h5⟩ := (may_iff r).1 h
  have e := co_parts r
  have g := grow_at (co r) [r.g, r.c, r.m] _ 0 3 (nums_in h hf) (by simp) (by simp) (by omega) (by rw [List.drop_zero]; exact e)
  obtain ⟨g1, g2, g3⟩ := g
  rw [Nat.zero_add] at g1 g2 g3
  rw [Int.natCast_zero] at g1
  obtain ⟨a, b, c⟩ := g_at (co r) _ (r.b.length : Int) _ ⟨by omega, by omega⟩ g3 g2
  have hl : (co r).length = (ro [r.g, r.c, r.m]).length + ((pu (r.b.length : Int)).length + (r.b.length + 2)) := by
    rw [e]
    simp only [List.length_append, List.length_cons, List.length_nil]
  rw [rd_row g1 (may_num h)]
  unfold rdc
  rw [if_pos a, b, c, if_pos (by omega), if_neg (by omega), if_neg (by omega), show Cr.op (co r) = (bo r, 0) from Cr.op_se _]
  have d : ((co r).drop (((ro [r.g, r.c, r.m]).length : Int) + ((pu (r.b.length : Int)).length : Int)).toNat).take (r.b.length : Int).toNat = r.b := by
    rw [show (((ro [r.g, r.c, r.m]).length : Int) + ((pu (r.b.length : Int)).length : Int)).toNat = (ro [r.g, r.c, r.m]).length + (pu (r.b.length : Int)).length by omega, ← List.drop_drop, g2, List.drop_left, Int.toNat_natCast, List.take_left]
  simp only [if_true]
  rw [d]
  rfl

theorem rdc_err (bs l : List Int) (p : Int) (h : (rdc bs l p).2 ≠ 0) : (rdc bs l p).1 = r0 := by
  unfold rdc at h ⊢
  split
  · split
    · split
      · rfl
      · split
        · rfl
        · split
          · rename_i a b c d f
            rw [if_pos a, if_pos b, if_neg c, if_neg d, if_pos f] at h
            exact absurd rfl h
          · rfl
    · rfl
  · rfl

theorem rd_err (bs : List Int) (h : (rd bs).2 ≠ 0) : (rd bs).1 = r0 := by
  unfold rd at h ⊢
  by_cases h1 : (grow bs 0 3).2.2 = 0
  · rw [if_pos h1] at h ⊢
    by_cases h2 : (grow bs 0 3).1.length = 3
    · rw [if_pos h2] at h ⊢
      by_cases h3 : may ⟨(grow bs 0 3).1.getD 0 0, (grow bs 0 3).1.getD 1 0, (grow bs 0 3).1.getD 2 0, []⟩ = true
      · rw [if_pos h3] at h ⊢
        exact rdc_err _ _ _ h
      · rw [if_neg h3]
    · rw [if_neg h2]
  · rw [if_neg h1]

/-- What is read may be, and is laid in just those bytes. -/
theorem co_rd (bs : List Int) (hb : By bs) (h : (rd bs).2 = 0) : may (rd bs).1 = true ∧ Fit (rd bs).1 ∧ co (rd bs).1 = bs := by
  unfold rd at h ⊢
  by_cases h1 : (grow bs 0 3).2.2 = 0
  · rw [if_pos h1] at h ⊢
    by_cases h2 : (grow bs 0 3).1.length = 3
    · rw [if_pos h2] at h ⊢
      by_cases h3 : may ⟨(grow bs 0 3).1.getD 0 0, (grow bs 0 3).1.getD 1 0, (grow bs 0 3).1.getD 2 0, []⟩ = true
      · rw [if_pos h3] at h ⊢
        have go := grow_ok bs hb 0 3 (by rw [Int.natCast_zero]; exact h1)
        rw [Int.natCast_zero] at go
        obtain ⟨q, q1, q2, q3, q4, q5, q6⟩ := go
        rw [q1] at h ⊢
        obtain ⟨m1, m2, m3, m4, m5⟩ := (may_iff _).1 h3
        generalize (grow bs 0 3).1 = l at *
        match l, h2 with
        | [u, v, w], _ =>
          have m1 : 1 ≤ u := m1
          have m2 : u ≤ 1099511627776 := m2
          have m3 : 0 ≤ w := m3
          have m4 : w ≤ 5 := m4
          unfold rdc at h ⊢
          by_cases e1 : gE bs q = 0
          · rw [if_pos e1] at h ⊢
            obtain ⟨g0, g1, g2, g3, g4⟩ := g_ok bs q hb e1
            by_cases e2 : 0 ≤ gN bs q ∧ gN bs q ≤ 4096
            · rw [if_pos e2] at h ⊢
              by_cases e3 : (bs.length : Int) - gP bs q < gN bs q + 2
              · rw [if_pos e3] at h; exact absurd h (by decide)
              · rw [if_neg e3] at h ⊢
                by_cases e4 : gN bs q + 2 < (bs.length : Int) - gP bs q
                · rw [if_pos e4] at h; exact absurd h (by decide)
                · rw [if_neg e4] at h ⊢
                  by_cases e5 : (Cr.op bs).2 = 0
                  · rw [if_pos e5]
                    obtain ⟨s, hs⟩ : ∃ s : Nat, gP bs q = s := ⟨(gP bs q).toNat, by omega⟩
                    obtain ⟨n, hn⟩ : ∃ n : Nat, gN bs q = n := ⟨(gN bs q).toNat, by omega⟩
                    rw [hs, hn] at g3
                    rw [hs] at g1 g2 e3 e4
                    rw [hn] at e2 e3 e4 g4
                    rw [hs, hn, Int.toNat_natCast, Int.toNat_natCast]
                    have hlen : bs.length = s + (n + 2) := by omega
                    have hbl : ((bs.drop s).take n).length = n := by rw [List.length_take, List.length_drop]; omega
                    refine ⟨(may_iff _).2 ⟨m1, m2, m3, m4, by show ((bs.drop s).take n).length ≤ 4096; omega⟩, ⟨q6 v (by simp), fun x hx => hb x (List.mem_of_mem_drop (List.mem_of_mem_take hx))⟩, ?_⟩
                    have hop : (Cr.op bs).1 = bs.take (s + n) := by
                      unfold Cr.op at e5 ⊢
                      by_cases k1 : bs.length < 2
                      · omega
                      · rw [if_neg k1] at e5 ⊢
                        by_cases k2 : Cr.mo Cr.st bs = 0#16
                        · rw [if_pos k2, show bs.length - 2 = s + n by omega]
                        · rw [if_neg k2] at e5
                          exact absurd e5 (by decide)
                    have hs2 := Cr.se_op bs hb e5
                    have hbo : bo ⟨u, v, w, (bs.drop s).take n⟩ = bs.take (s + n) := by
                      unfold bo
                      show ro [u, v, w] ++ (pu (((bs.drop s).take n).length : Int) ++ (bs.drop s).take n) = bs.take (s + n)
                      have p1 : bs.take q = ro [u, v, w] := by
                        have := q5
                        rw [List.drop_zero, Nat.sub_zero] at this
                        exact this
                      have p2 : (bs.drop q).take (s - q) = pu (n : Int) := by
                        rw [show ((s : Int) - (q : Int)).toNat = s - q by omega, Int.toNat_natCast] at g3
                        exact g3
                      rw [hbl, ← p1, ← p2, show s + n = q + ((s - q) + n) by omega, List.take_add, List.take_add, List.drop_drop, show q + (s - q) = s by omega]
                    show Cr.se (bo ⟨u, v, w, (bs.drop s).take n⟩) = bs
                    rw [hbo, ← hop]
                    exact hs2
                  · rw [if_neg e5] at h
                    exact absurd h e5
            · rw [if_neg e2] at h
              exact absurd h (by decide)
          · rw [if_neg e1] at h
            exact absurd h e1
      · rw [if_neg h3] at h
        exact absurd h (by decide)
    · rw [if_neg h2] at h
      exact absurd h (by decide)
  · rw [if_neg h1] at h
    exact absurd h h1

/-- What was cut ends too early. -/
theorem rd_cut {r : Rc} (h : may r = true) (hf : Fit r) (j : Nat) (hj : j < (co r).length) : (rd ((co r).take j)).2 = 81 ∨ (rd ((co r).take j)).2 = 121 := by
  obtain ⟨h1, h2, h3, h4, h5⟩ := (may_iff r).1 h
  have e := co_parts r
  have hl : (co r).length = (ro [r.g, r.c, r.m]).length + ((pu (r.b.length : Int)).length + (r.b.length + 2)) := by
    rw [e]
    simp only [List.length_append, List.length_cons, List.length_nil]
  by_cases c1 : j < (ro [r.g, r.c, r.m]).length
  · left
    have g := grow_cut [r.g, r.c, r.m] j 3 (nums_in h hf) (by simp) (by simp) c1
    have e1 : (co r).take j = (ro [r.g, r.c, r.m]).take j := by rw [e, List.take_append_of_le_length (by omega)]
    rw [e1]
    unfold rd
    rw [g]
    rfl
  · have e1 : ((co r).take j).drop 0 = ro [r.g, r.c, r.m] ++ (pu (r.b.length : Int) ++ (r.b ++ [Cr.sh (Cr.mo Cr.st (bo r)), Cr.sl (Cr.mo Cr.st (bo r))])).take (j - (ro [r.g, r.c, r.m]).length) := by
      rw [List.drop_zero]
      conv => lhs; rw [e]
      rw [List.take_append, List.take_of_length_le (by omega)]
    have hlt : ((co r).take j).length = j := by rw [List.length_take]; omega
    obtain ⟨g1, g2, g3⟩ := grow_at ((co r).take j) [r.g, r.c, r.m] _ 0 3 (nums_in h hf) (by simp) (by simp) (by omega) e1
    rw [Nat.zero_add] at g1 g2 g3
    rw [Int.natCast_zero] at g1
    rw [rd_row g1 (may_num h)]
    unfold rdc
    by_cases c2 : j - (ro [r.g, r.c, r.m]).length < (pu (r.b.length : Int)).length
    · left
      have g := g_short ((co r).take j) _ (r.b.length : Int) _ ⟨by omega, by omega⟩ g3 c2 (by rw [g2, List.take_append_of_le_length (by omega)])
      rw [if_neg (by omega), g]
    · right
      rw [List.take_append, List.take_of_length_le (l := pu (r.b.length : Int)) (by omega)] at g2
      obtain ⟨a, b, c⟩ := g_at ((co r).take j) _ (r.b.length : Int) _ ⟨by omega, by omega⟩ g3 g2
      rw [if_pos a, b, c, if_pos (by omega), if_pos (by omega)]

/-- The latest record of two slots, whether it is the second one's, whether there is one. -/
def lt (a b : List Int) : Rc × Bool × Bool :=
  if (rd a).2 = 0 ∧ ((rd b).2 ≠ 0 ∨ (rd b).1.g ≤ (rd a).1.g) then ((rd a).1, false, true)
  else if (rd b).2 = 0 then ((rd b).1, true, true)
  else (r0, false, false)

/-- What is written, and whether it is all. -/
def wc (r : Rc) (cut : Int) : List Int := (co r).take cut.toNat

def al (r : Rc) (cut : Int) : Bool := decide (((co r).length : Int) ≤ cut)

/-- Is the first slot the one that is written? -/
def fi (a b : List Int) : Bool := !((lt a b).2.2 && !(lt a b).2.1)

def wa (a b : List Int) (r : Rc) (cut : Int) : List Int := if fi a b = true then wc r cut else a

def wb (a b : List Int) (r : Rc) (cut : Int) : List Int := if fi a b = true then b else wc r cut

/-- The error of a write. -/
def wE (a b : List Int) (r : Rc) : Int := if may r = true then (if (lt a b).2.2 = true ∧ r.g ≤ (lt a b).1.g then 124 else 0) else 120

theorem wE_ok {a b : List Int} {r : Rc} (h : wE a b r = 0) : may r = true ∧ ((lt a b).2.2 = true → (lt a b).1.g < r.g) := by
  unfold wE at h
  by_cases h1 : may r = true
  · rw [if_pos h1] at h
    refine ⟨h1, fun h2 => ?_⟩
    by_cases h3 : r.g ≤ (lt a b).1.g
    · rw [if_pos ⟨h2, h3⟩] at h
      exact absurd h (by decide)
    · omega
  · rw [if_neg h1] at h
    exact absurd h (by decide)

theorem wc_all {r : Rc} {cut : Int} (h : al r cut = true) : wc r cut = co r := by
  have := of_decide_eq_true h
  unfold wc
  exact List.take_of_length_le (by omega)

theorem wc_cut {r : Rc} {cut : Int} (hm : may r = true) (hf : Fit r) (h : al r cut = false) : (rd (wc r cut)).2 ≠ 0 := by
  have h1 := of_decide_eq_false h
  have hl : 1 ≤ (co r).length := by unfold co; rw [Cr.se_len]; omega
  unfold wc
  rcases rd_cut hm hf cut.toNat (by omega) with e | e <;> rw [e] <;> decide

theorem wc_byte {r : Rc} {cut : Int} (hm : may r = true) (hf : Fit r) : By (wc r cut) := fun x hx => co_byte hm hf x (List.mem_of_mem_take hx)

theorem wa_byte {a b : List Int} {r : Rc} {cut : Int} (ha : By a) (hm : may r = true) (hf : Fit r) : By (wa a b r cut) := by
  unfold wa
  split
  · exact wc_byte hm hf
  · exact ha

theorem wb_byte {a b : List Int} {r : Rc} {cut : Int} (hb : By b) (hm : may r = true) (hf : Fit r) : By (wb a b r cut) := by
  unfold wb
  split
  · exact hb
  · exact wc_byte hm hf

/-- Behind a write of all the latest record is the new one. -/
theorem lt_all {a b : List Int} {r : Rc} {cut : Int} (hf : Fit r) (hw : wE a b r = 0) (h : al r cut = true) : (lt (wa a b r cut) (wb a b r cut)).1 = r ∧ (lt (wa a b r cut) (wb a b r cut)).2.2 = true := by
  obtain ⟨hm, hg⟩ := wE_ok hw
  have e := rd_co hm hf
  unfold wa wb fi
  rw [wc_all h]
  unfold lt at hg ⊢
  by_cases h1 : (rd a).2 = 0 ∧ ((rd b).2 ≠ 0 ∨ (rd b).1.g ≤ (rd a).1.g)
  · simp only [if_pos h1] at hg ⊢
    have hg := hg trivial
    simp only [Bool.not_false, Bool.and_true, Bool.not_true, Bool.false_eq_true, if_false, e]
    rw [if_neg (by rintro ⟨_, h2 | h2⟩; exact h2 rfl; exact absurd h2 (by omega))]
    exact ⟨rfl, rfl⟩
  · simp only [if_neg h1] at hg ⊢
    by_cases h2 : (rd b).2 = 0
    · simp only [if_pos h2] at hg ⊢
      have hg := hg trivial
      simp only [Bool.not_true, Bool.and_false, Bool.not_false, if_true, e]
      rw [if_pos ⟨trivial, .inr (by omega)⟩]
      exact ⟨rfl, rfl⟩
    · simp only [if_neg h2]
      simp only [Bool.not_false, Bool.and_true, if_true, e]
      rw [if_pos ⟨trivial, .inl h2⟩]
      exact ⟨rfl, rfl⟩

/-- Behind one that was cut it is the old one. -/
theorem lt_cut {a b : List Int} {r : Rc} {cut : Int} (hf : Fit r) (hw : wE a b r = 0) (h : al r cut = false) : (lt (wa a b r cut) (wb a b r cut)).1 = (lt a b).1 ∧ (lt (wa a b r cut) (wb a b r cut)).2.2 = (lt a b).2.2 := by
  obtain ⟨hm, hg⟩ := wE_ok hw
  have e := wc_cut (cut := cut) hm hf h
  unfold wa wb fi
  generalize wc r cut = x at *
  unfold lt
  by_cases h1 : (rd a).2 = 0 ∧ ((rd b).2 ≠ 0 ∨ (rd b).1.g ≤ (rd a).1.g)
  · simp only [if_pos h1]
    simp only [Bool.not_false, Bool.and_true, Bool.not_true, Bool.false_eq_true, if_false]
    rw [if_pos ⟨h1.1, .inl e⟩]
    exact ⟨rfl, rfl⟩
  · simp only [if_neg h1]
    by_cases h2 : (rd b).2 = 0
    · simp only [if_pos h2]
      simp only [Bool.not_true, Bool.and_false, Bool.not_false, if_true]
      rw [if_neg (fun k => e k.1), if_pos h2]
      exact ⟨rfl, rfl⟩
    · simp only [if_neg h2]
      simp only [Bool.not_false, Bool.and_true, if_true]
      rw [if_neg (fun k => e k.1), if_neg h2]
      exact ⟨rfl, rfl⟩

/-- What there is may be. -/
theorem lt_may {a b : List Int} (ha : By a) (hb : By b) (h : (lt a b).2.2 = true) : may (lt a b).1 = true ∧ Fit (lt a b).1 := by
  unfold lt at h ⊢
  by_cases h1 : (rd a).2 = 0 ∧ ((rd b).2 ≠ 0 ∨ (rd b).1.g ≤ (rd a).1.g)
  · simp only [if_pos h1]
    obtain ⟨k1, k2, _⟩ := co_rd a ha h1.1
    exact ⟨k1, k2⟩
  · simp only [if_neg h1] at h ⊢
    by_cases h2 : (rd b).2 = 0
    · simp only [if_pos h2]
      obtain ⟨k1, k2, _⟩ := co_rd b hb h2
      exact ⟨k1, k2⟩
    · simp only [if_neg h2] at h
      exact absurd h (by decide)

theorem lt_none {a b : List Int} (h : (lt a b).2.2 = false) : lt a b = (r0, false, false) := by
  unfold lt at h ⊢
  by_cases h1 : (rd a).2 = 0 ∧ ((rd b).2 ≠ 0 ∨ (rd b).1.g ≤ (rd a).1.g)
  · simp only [if_pos h1] at h
    exact absurd h (by decide)
  · simp only [if_neg h1] at h ⊢
    by_cases h2 : (rd b).2 = 0
    · simp only [if_pos h2] at h
      exact absurd h (by decide)
    · simp only [if_neg h2]

end Go.Proofs.YtdljmpaabpkmkaaDoor.Fa
