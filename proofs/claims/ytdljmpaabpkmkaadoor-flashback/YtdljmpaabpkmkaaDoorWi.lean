/-
  Plain numbers and bytes: a number's code, its digits by 128, the number that begins in bytes, rows of numbers; that what is put is got, and that what is got is put in just those bytes. No condition but those that each theorem states.
-/
import Derived.RowKit
namespace Go.Proofs.YtdljmpaabpkmkaaDoor.Wi

/-- A number's code. -/
def cd (n : Int) : Int := if 0 ≤ n then 2 * n else -2 * n - 1

/-- A code's number. -/
def nu (c : Int) : Int := if c % 2 = 1 then -1 - c / 2 else c / 2

theorem nu_cd (n : Int) : nu (cd n) = n := by
  unfold nu cd
  split <;> split <;> omega

theorem cd_nu (c : Int) (h : 0 ≤ c) : cd (nu c) = c := by
  unfold nu cd
  split <;> split <;> omega

theorem cd_nn (n : Int) : 0 ≤ cd n := by
  unfold cd
  split <;> omega

theorem cd_lt (n : Int) (h0 : -9223372036854775808 ≤ n) (h1 : n ≤ 9223372036854775807) : cd n < 18446744073709551616 := by
  unfold cd
  split <;> omega

/-- A code's bytes, at most f and one. -/
def dgs : Nat → Int → List Int
  | 0, c => [c]
  | f + 1, c => if 128 ≤ c then (c % 128 + 128) :: dgs f (c / 128) else [c]

/-- A number's bytes. -/
def pu (n : Int) : List Int := dgs 9 (cd n)

/-- What f digits and one more can hold. -/
def bd : Nat → Int
  | 0 => 2
  | f + 1 => 128 * bd f

theorem bd_nine : bd 9 = 18446744073709551616 := by decide

theorem dgs_pos (f : Nat) (c : Int) : 1 ≤ (dgs f c).length := by
  cases f with
  | zero => simp [dgs]
  | succ f => rw [dgs]; split <;> simp

theorem dgs_len (f : Nat) (c : Int) : (dgs f c).length ≤ f + 1 := by
  induction f generalizing c with
  | zero => simp [dgs]
  | succ f ih =>
    rw [dgs]
    split
    · have := ih (c / 128)
      simp; omega
    · simp

theorem dgs_byte (f : Nat) (c : Int) (h0 : 0 ≤ c) (h1 : c < bd f) : ∀ x ∈ dgs f c, 0 ≤ x ∧ x ≤ 255 := by
  induction f generalizing c with
  | zero =>
    intro x hx
    simp [dgs] at hx
    simp [bd] at h1
    omega
  | succ f ih =>
    intro x hx
    rw [dgs] at hx
    rw [bd] at h1
    split at hx
    · rcases List.mem_cons.1 hx with rfl | hx
      · omega
      · exact ih (c / 128) (by omega) (by omega) x hx
    · simp at hx
      omega

/-- The code whose bytes begin here, how many bytes it has, and an error; f more bytes may follow the first. -/
def gc : Nat → List Int → Int × Nat × Int
  | _, [] => (0, 0, 81)
  | f, x :: r =>
    if f = 0 ∧ 1 < x then (0, 0, 82)
    else if 128 ≤ x then (if (gc (f - 1) r).2.2 = 0 then (x - 128 + 128 * (gc (f - 1) r).1, (gc (f - 1) r).2.1 + 1, 0) else (0, 0, (gc (f - 1) r).2.2))
    else if f < 9 ∧ x = 0 then (0, 0, 82)
    else (x, 1, 0)

/-- What is put is got, whatever stands behind. -/
theorem gc_dgs (f : Nat) (c : Int) (t : List Int) (hf : f ≤ 9) (h0 : 0 ≤ c) (h1 : c < bd f) (hp : f < 9 → 0 < c) : gc f (dgs f c ++ t) = (c, (dgs f c).length, 0) := by
  induction f generalizing c with
  | zero =>
    simp only [bd] at h1
    have := hp (by omega)
    simp only [dgs, List.cons_append, List.nil_append, gc]
    rw [if_neg (by omega), if_neg (by omega), if_neg (by omega)]
    rfl
  | succ f ih =>
    rw [bd] at h1
    rw [dgs]
    by_cases h : 128 ≤ c
    · rw [if_pos h]
      have e := ih (c / 128) (by omega) (by omega) (by omega) (by omega)
      rw [List.cons_append, gc, if_neg (by omega), if_pos (by omega), show f + 1 - 1 = f from rfl, e]
      simp only [if_true, List.length_cons]
      rw [show c % 128 + 128 - 128 + 128 * (c / 128) = c by omega]
    · rw [if_neg h, List.cons_append, gc, if_neg (by omega), if_neg h, if_neg (by rintro ⟨a, b⟩; have := hp a; omega)]
      rfl

/-- What is got is put in just those bytes. -/
theorem dgs_gc (f : Nat) (bs : List Int) (hf : f ≤ 9) (hb : ∀ x ∈ bs, 0 ≤ x ∧ x ≤ 255) (he : (gc f bs).2.2 = 0) :
    0 ≤ (gc f bs).1 ∧ (gc f bs).1 < bd f ∧ (f < 9 → 0 < (gc f bs).1) ∧ 1 ≤ (gc f bs).2.1 ∧ (gc f bs).2.1 ≤ bs.length ∧ bs.take (gc f bs).2.1 = dgs f (gc f bs).1 := by
  induction bs generalizing f with
  | nil => simp [gc] at he
  | cons x r ih =>
    have hx := hb x (by simp)
    rw [gc] at he ⊢
    by_cases h1 : f = 0 ∧ 1 < x
    · rw [if_pos h1] at he; simp at he
    · rw [if_neg h1] at he ⊢
      by_cases h2 : 128 ≤ x
      · rw [if_pos h2] at he ⊢
        by_cases h3 : (gc (f - 1) r).2.2 = 0
        · rw [if_pos h3]
          obtain ⟨g, rfl⟩ : ∃ g, f = g + 1 := ⟨f - 1, by omega⟩
          rw [show g + 1 - 1 = g from rfl] at h3 ⊢
          obtain ⟨a, b, c, d, e, k⟩ := ih g (by omega) (fun y hy => hb y (by simp [hy])) h3
          refine ⟨?_, ?_, ?_, ?_, ?_, ?_⟩
          · show 0 ≤ x - 128 + 128 * (gc g r).1
            omega
          · show x - 128 + 128 * (gc g r).1 < 128 * bd g
            omega
          · intro _
            show 0 < x - 128 + 128 * (gc g r).1
            have := c (by omega)
            omega
          · show 1 ≤ (gc g r).2.1 + 1
            omega
          · show (gc g r).2.1 + 1 ≤ r.length + 1
            omega
          · show List.take ((gc g r).2.1 + 1) (x :: r) = dgs (g + 1) (x - 128 + 128 * (gc g r).1)
            have hp := c (by omega)
            rw [List.take_succ_cons, k, dgs, if_pos (by omega), show (x - 128 + 128 * (gc g r).1) % 128 + 128 = x by omega, show (x - 128 + 128 * (gc g r).1) / 128 = (gc g r).1 by omega]
        · rw [if_neg h3] at he
          exact absurd he h3
      · rw [if_neg h2] at he ⊢
        by_cases h3 : f < 9 ∧ x = 0
        · rw [if_pos h3] at he; simp at he
        · rw [if_neg h3]
          refine ⟨hx.1, ?_, ?_, Nat.le_refl _, by simp, ?_⟩
          · show x < bd f
            cases f with
            | zero => simp only [bd]; omega
            | succ f =>
              have : 2 ≤ bd f := by
                clear hf ih h1 h3 he
                induction f with
                | zero => simp [bd]
                | succ f ih => rw [bd]; omega
              rw [bd]; omega
          · intro hf9
            show 0 < x
            omega
          · show [x] = dgs f x
            cases f with
            | zero => rfl
            | succ f => rw [dgs, if_neg h2]

/-- An error comes with nothing. -/
theorem gc_err (f : Nat) (bs : List Int) (he : (gc f bs).2.2 ≠ 0) : (gc f bs).1 = 0 ∧ (gc f bs).2.1 = 0 := by
  cases bs with
  | nil => simp [gc]
  | cons x r =>
    rw [gc] at he ⊢
    split
    · simp
    · split
      · split
        · rename_i h1 h2 h3
          rw [if_neg h1, if_pos h2, if_pos h3] at he
          simp at he
        · simp
      · split
        · simp
        · rename_i h1 h2 h3
          rw [if_neg h1, if_neg h2, if_neg h3] at he
          simp at he

/-- Bytes that are cut end too early. -/
theorem gc_cut (f : Nat) (c : Int) (k : Nat) (hf : f ≤ 9) (h0 : 0 ≤ c) (h1 : c < bd f) (hk : k < (dgs f c).length) : gc f ((dgs f c).take k) = (0, 0, 81) := by
  induction f generalizing c k with
  | zero =>
    simp [dgs] at hk
    subst hk
    simp [dgs, gc]
  | succ f ih =>
    rw [bd] at h1
    rw [dgs] at hk ⊢
    by_cases h : 128 ≤ c
    · rw [if_pos h] at hk ⊢
      cases k with
      | zero => simp [gc]
      | succ k =>
        have e := ih (c / 128) k (by omega) (by omega) (by omega) (by simpa using hk)
        rw [List.take_succ_cons, gc, if_neg (by omega), if_pos (by omega), show f + 1 - 1 = f from rfl, e]
        simp
    · rw [if_neg h] at hk ⊢
      simp at hk
      subst hk
      simp [gc]

/-- An int. -/
def In (n : Int) : Prop := -9223372036854775808 ≤ n ∧ n ≤ 9223372036854775807

theorem gc_pu (n : Int) (t : List Int) (h : In n) : gc 9 (pu n ++ t) = (cd n, (pu n).length, 0) :=
  gc_dgs 9 (cd n) t (by omega) (cd_nn n) (by rw [bd_nine]; exact cd_lt n h.1 h.2) (by omega)

theorem pu_byte (n : Int) (h : In n) : ∀ x ∈ pu n, 0 ≤ x ∧ x ≤ 255 :=
  dgs_byte 9 (cd n) (cd_nn n) (by rw [bd_nine]; exact cd_lt n h.1 h.2)

theorem pu_len (n : Int) : (pu n).length ≤ 10 := dgs_len 9 (cd n)

theorem pu_pos (n : Int) : 1 ≤ (pu n).length := dgs_pos 9 (cd n)

theorem gc_pu_cut (n : Int) (k : Nat) (h : In n) (hk : k < (pu n).length) : gc 9 ((pu n).take k) = (0, 0, 81) :=
  gc_cut 9 (cd n) k (by omega) (cd_nn n) (by rw [bd_nine]; exact cd_lt n h.1 h.2) hk

/-- What Get answers: the number, the place behind it, the error. -/
def gN (bs : List Int) (p : Int) : Int := if 0 ≤ p ∧ p ≤ bs.length then (if (gc 9 (bs.drop p.toNat)).2.2 = 0 then nu (gc 9 (bs.drop p.toNat)).1 else 0) else 0

def gP (bs : List Int) (p : Int) : Int := if 0 ≤ p ∧ p ≤ bs.length then (if (gc 9 (bs.drop p.toNat)).2.2 = 0 then p + (gc 9 (bs.drop p.toNat)).2.1 else 0) else 0

def gE (bs : List Int) (p : Int) : Int := if 0 ≤ p ∧ p ≤ bs.length then (gc 9 (bs.drop p.toNat)).2.2 else 80

theorem g_ok (bs : List Int) (p : Int) (hb : ∀ x ∈ bs, 0 ≤ x ∧ x ≤ 255) (he : gE bs p = 0) :
    0 ≤ p ∧ p < gP bs p ∧ gP bs p ≤ bs.length ∧ (bs.drop p.toNat).take (gP bs p - p).toNat = pu (gN bs p) ∧ In (gN bs p) := by
  unfold gE at he
  by_cases h : 0 ≤ p ∧ p ≤ bs.length
  · rw [if_pos h] at he
    obtain ⟨a, b, _, d, e, k⟩ := dgs_gc 9 (bs.drop p.toNat) (by omega) (fun x hx => hb x (List.mem_of_mem_drop hx)) he
    have hP : gP bs p = p + (gc 9 (bs.drop p.toNat)).2.1 := by unfold gP; rw [if_pos h, if_pos he]
    have hN : gN bs p = nu (gc 9 (bs.drop p.toNat)).1 := by unfold gN; rw [if_pos h, if_pos he]
    rw [List.length_drop] at e
    rw [bd_nine] at b
    refine ⟨h.1, by omega, by omega, ?_, ?_⟩
    · rw [hP, hN, show (p + ((gc 9 (bs.drop p.toNat)).2.1 : Int) - p).toNat = (gc 9 (bs.drop p.toNat)).2.1 by omega, k]
      unfold pu
      rw [cd_nu _ a]
    · rw [hN]
      unfold nu In
      split <;> omega
  · rw [if_neg h] at he
    omega

theorem g_err (bs : List Int) (p : Int) (he : gE bs p ≠ 0) : gN bs p = 0 ∧ gP bs p = 0 := by
  unfold gE at he
  unfold gN gP
  by_cases h : 0 ≤ p ∧ p ≤ bs.length
  · rw [if_pos h] at he ⊢
    rw [if_pos h, if_neg he, if_neg he]
    exact ⟨rfl, rfl⟩
  · rw [if_neg h, if_neg h]
    exact ⟨rfl, rfl⟩

theorem g_at (bs : List Int) (k : Nat) (n : Int) (t : List Int) (h : In n) (hk : k ≤ bs.length) (e : bs.drop k = pu n ++ t) :
    gE bs k = 0 ∧ gN bs k = n ∧ gP bs k = k + (pu n).length := by
  have g := gc_pu n t h
  unfold gE gN gP
  have hp : (0 : Int) ≤ (k : Int) ∧ (k : Int) ≤ bs.length := by omega
  rw [if_pos hp, if_pos hp, if_pos hp, Int.toNat_natCast, e, g]
  simp [nu_cd]

theorem g_short (bs : List Int) (k : Nat) (n : Int) (j : Nat) (h : In n) (hk : k ≤ bs.length) (hj : j < (pu n).length) (e : bs.drop k = (pu n).take j) : gE bs k = 81 := by
  unfold gE
  rw [if_pos (by omega), Int.toNat_natCast, e, gc_pu_cut n j h hj]

/-- A row's bytes. -/
def ro (l : List Int) : List Int := pu l.length ++ l.flatMap pu

/-- So many numbers, from a place on: the numbers, the place behind them, the error. -/
def gn (bs : List Int) : Nat → Int → List Int × Int × Int
  | 0, p => ([], p, 0)
  | k + 1, p => if gE bs p = 0 then (if (gn bs k (gP bs p)).2.2 = 0 then (gN bs p :: (gn bs k (gP bs p)).1, (gn bs k (gP bs p)).2.1, 0) else ([], 0, (gn bs k (gP bs p)).2.2)) else ([], 0, gE bs p)

/-- What GetRow answers. -/
def grow (bs : List Int) (p m : Int) : List Int × Int × Int :=
  if gE bs p = 0 then (if 0 ≤ gN bs p ∧ gN bs p ≤ m then gn bs (gN bs p).toNat (gP bs p) else ([], 0, 83)) else ([], 0, gE bs p)

theorem gn_row (bs : List Int) (l : List Int) (k : Nat) (t : List Int) (hl : ∀ n ∈ l, In n) (hk : k ≤ bs.length) (e : bs.drop k = l.flatMap pu ++ t) :
    gn bs l.length k = (l, ((k : Int) + ((l.flatMap pu).length : Int)), 0) := by
  induction l generalizing k with
  | nil => simp [gn]
  | cons n l ih =>
    rw [List.flatMap_cons, List.append_assoc] at e
    obtain ⟨a, b, c⟩ := g_at bs k n _ (hl n (by simp)) hk e
    have hlen : (pu n).length ≤ (bs.drop k).length := by rw [e]; simp
    rw [List.length_drop] at hlen
    have d : bs.drop (k + (pu n).length) = l.flatMap pu ++ t := by
      rw [← List.drop_drop, e, List.drop_left]
    have i := ih (k + (pu n).length) (fun m hm => hl m (by simp [hm])) (by omega) d
    rw [List.length_cons, gn, if_pos a, b, c, show ((k : Int) + ((pu n).length : Int)) = ((k + (pu n).length : Nat) : Int) by omega, i]
    simp only [if_true, List.flatMap_cons, List.length_append]
    congr 2
    omega

theorem grow_row (l : List Int) (t : List Int) (m : Int) (hl : ∀ n ∈ l, In n) (hn : (l.length : Int) ≤ 9223372036854775807) (hm : (l.length : Int) ≤ m) :
    grow (ro l ++ t) 0 m = (l, ((ro l).length : Int), 0) := by
  have e0 : (ro l ++ t).drop 0 = pu l.length ++ (l.flatMap pu ++ t) := by simp [ro]
  obtain ⟨a, b, c⟩ := g_at (ro l ++ t) 0 l.length _ ⟨by omega, hn⟩ (by omega) e0
  rw [Int.natCast_zero] at a b c
  have d : (ro l ++ t).drop (0 + (pu l.length).length) = l.flatMap pu ++ t := by
    rw [← List.drop_drop, e0, List.drop_left]
  have hlen : 0 + (pu l.length).length ≤ (ro l ++ t).length := by simp [ro]
  have i := gn_row (ro l ++ t) l _ t hl hlen d
  unfold grow
  rw [if_pos a, b, c, if_pos (by omega), Int.toNat_natCast, show ((0 : Int) + ((pu l.length).length : Int)) = ((0 + (pu l.length).length : Nat) : Int) by omega, i]
  simp [ro]

theorem grow_many (l : List Int) (t : List Int) (m : Int) (hn : (l.length : Int) ≤ 9223372036854775807) (hm : m < (l.length : Int)) :
    grow (ro l ++ t) 0 m = ([], 0, 83) := by
  have e0 : (ro l ++ t).drop 0 = pu l.length ++ (l.flatMap pu ++ t) := by simp [ro]
  obtain ⟨a, b, _⟩ := g_at (ro l ++ t) 0 l.length _ ⟨by omega, hn⟩ (by omega) e0
  rw [Int.natCast_zero] at a b
  unfold grow
  rw [if_pos a, b, if_neg (by omega)]

theorem gn_cut (bs : List Int) (l : List Int) (k j : Nat) (hl : ∀ n ∈ l, In n) (hk : k ≤ bs.length) (hj : j < (l.flatMap pu).length) (e : bs.drop k = (l.flatMap pu).take j) :
    gn bs l.length k = ([], 0, 81) := by
  induction l generalizing k j with
  | nil => simp at hj
  | cons n l ih =>
    rw [List.flatMap_cons] at e hj
    rw [List.length_append] at hj
    have hn := hl n (by simp)
    rw [List.length_cons, gn]
    by_cases hlt : j < (pu n).length
    · have g := g_short bs k n j hn hk hlt (by rw [e, List.take_append_of_le_length (by omega)])
      rw [if_neg (by omega), g]
    · have e' : bs.drop k = pu n ++ (l.flatMap pu).take (j - (pu n).length) := by rw [e, List.take_append, List.take_of_length_le (by omega)]
      obtain ⟨a, b, c⟩ := g_at bs k n _ hn hk e'
      have hlen : (pu n).length ≤ (bs.drop k).length := by rw [e']; simp
      rw [List.length_drop] at hlen
      have d : bs.drop (k + (pu n).length) = (l.flatMap pu).take (j - (pu n).length) := by
        rw [← List.drop_drop, e', List.drop_left]
      have i := ih (k + (pu n).length) (j - (pu n).length) (fun m hm => hl m (by simp [hm])) (by omega) (by omega) d
      rw [if_pos a, c, show ((k : Int) + ((pu n).length : Int)) = ((k + (pu n).length : Nat) : Int) by omega, i]
      simp

theorem grow_cut (l : List Int) (j : Nat) (m : Int) (hl : ∀ n ∈ l, In n) (hn : (l.length : Int) ≤ 9223372036854775807) (hm : (l.length : Int) ≤ m) (hj : j < (ro l).length) :
    grow ((ro l).take j) 0 m = ([], 0, 81) := by
  have hi : In (l.length : Int) := ⟨by omega, hn⟩
  unfold grow
  by_cases hlt : j < (pu l.length).length
  · have g := g_short ((ro l).take j) 0 l.length j hi (by omega) hlt (by unfold ro; rw [List.drop_zero, List.take_append_of_le_length (by omega)])
    rw [Int.natCast_zero] at g
    rw [if_neg (by omega), g]
  · have e0 : ((ro l).take j).drop 0 = pu l.length ++ (l.flatMap pu).take (j - (pu l.length).length) := by
      unfold ro
      rw [List.drop_zero, List.take_append, List.take_of_length_le (by omega)]
    obtain ⟨a, b, c⟩ := g_at ((ro l).take j) 0 l.length _ hi (by omega) e0
    rw [Int.natCast_zero] at a b c
    have d : ((ro l).take j).drop (0 + (pu l.length).length) = (l.flatMap pu).take (j - (pu l.length).length) := by
      rw [← List.drop_drop, e0, List.drop_left]
    have hr : (ro l).length = (pu l.length).length + (l.flatMap pu).length := by unfold ro; rw [List.length_append]
    have hlen : 0 + (pu l.length).length ≤ ((ro l).take j).length := by rw [List.length_take]; omega
    have i := gn_cut ((ro l).take j) l _ _ hl hlen (by omega) d
    rw [if_pos a, b, c, if_pos (by omega), Int.toNat_natCast, show ((0 : Int) + ((pu l.length).length : Int)) = ((0 + (pu l.length).length : Nat) : Int) by omega, i]

/-- No number's bytes begin another one's. -/
theorem pu_apart (m n : Int) (hm : In m) (hn : In n) (k : Nat) (h : pu m = (pu n).take k) : m = n := by
  have e1 : pu n = pu m ++ (pu n).drop k := by rw [h, List.take_append_drop]
  have g1 := gc_pu n [] hn
  have g2 := gc_pu m ((pu n).drop k) hm
  rw [List.append_nil] at g1
  rw [← e1, g1] at g2
  have : cd n = cd m := by simpa using congrArg Prod.fst g2
  rw [← nu_cd m, ← nu_cd n, this]

theorem fm_len (l : List Int) : (l.flatMap pu).length ≤ 10 * l.length := by
  induction l with
  | nil => simp
  | cons n l ih =>
    have := pu_len n
    rw [List.flatMap_cons, List.length_append, List.length_cons]
    omega

theorem ro_len (l : List Int) : (ro l).length ≤ 10 * l.length + 10 := by
  have := fm_len l
  have := pu_len l.length
  unfold ro
  rw [List.length_append]
  omega

theorem ro_byte (l : List Int) (hl : ∀ n ∈ l, In n) (hn : (l.length : Int) ≤ 9223372036854775807) : ∀ x ∈ ro l, 0 ≤ x ∧ x ≤ 255 := by
  intro x hx
  unfold ro at hx
  rcases List.mem_append.1 hx with h | h
  · exact pu_byte _ ⟨by omega, hn⟩ x h
  · obtain ⟨n, h1, h2⟩ := List.mem_flatMap.1 h
    exact pu_byte n (hl n h1) x h2

end Go.Proofs.YtdljmpaabpkmkaaDoor.Wi
