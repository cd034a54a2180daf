/-
  Texts of mine, merged: each part says what it holds. Conditions: as each theorem states.
-/
import Derived.Sort.LotA
import Derived.Lib.SlBy
import Derived.Shelf.SlGeneric
import Derived.Shelf.SlSortCmp.Insertion
import Derived.Test.YtihdijkplmfhfaaGreatDoorRows
import Derived.Shelf.SlSortCmp.KitK
import Derived.Sort.WalkB2
import Derived.Sort.WalkB12
import Derived.Deep.LoopGhost
import Derived.Test.YtihdijkplmfhfaaGreatDoorM17

/- Plain facts on sorting that keeps the order of equals: an order in which equals are told apart by marks; insertion; runs of an array exchanged; two sorted runs merged in place. Conditions: as each theorem states. -/
namespace Go.Proofs.YtihdijkplmfhfaaGreatDoor.Ss
set_option maxRecDepth 100000
open Go.Sort
variable {α : Type} [Inhabited α]

/-! An order, and one in which equals are told apart. -/

def sl (lt : α → α → Bool) (tg : α → Nat) (x y : α) : Bool := lt x y || (!lt y x && decide (tg x < tg y))

omit [Inhabited α] in
theorem sl_yes {lt : α → α → Bool} {tg : α → Nat} {x y : α} : sl lt tg x y = true ↔ lt x y = true ∨ (lt y x = false ∧ tg x < tg y) := by
  unfold sl; simp
omit [Inhabited α] in
theorem sl_no {lt : α → α → Bool} {tg : α → Nat} {x y : α} : sl lt tg x y = false ↔ lt x y = false ∧ (lt y x = true ∨ tg y ≤ tg x) := by
  unfold sl; simp
  intro _
  cases lt y x <;> simp

omit [Inhabited α] in
/-- Where the second one has no greater mark, the two orders say the same. -/
theorem sl_lt {lt : α → α → Bool} {tg : α → Nat} {x y : α} (h : ¬ tg x < tg y) : sl lt tg x y = lt x y := by
  unfold sl; simp [h]

omit [Inhabited α] in
theorem swo_sl {lt : α → α → Bool} (h : SWO lt) (tg : α → Nat) : SWO (sl lt tg) where
  irrefl x := sl_no.2 ⟨h.irrefl x, .inr (Nat.le_refl _)⟩
  trans x y z h1 h2 := by
    rw [sl_yes] at h1 h2 ⊢
    cases hxz : lt x z with
    | true => exact .inl rfl
    | false =>
      right
      rcases h1 with h1 | ⟨h1, t1⟩
      · rcases h2 with h2 | ⟨h2, t2⟩
        · have := h.trans x y z h1 h2; rw [hxz] at this; cases this
        · have := h.ntrans x z y hxz h2; rw [h1] at this; cases this
      · rcases h2 with h2 | ⟨h2, t2⟩
        · have := h.ntrans y x z h1 hxz; rw [h2] at this; cases this
        · exact ⟨h.ntrans z y x h2 h1, by omega⟩
  ntrans x y z h1 h2 := by
    rw [sl_no] at h1 h2 ⊢
    obtain ⟨a1, b1⟩ := h1
    obtain ⟨a2, b2⟩ := h2
    refine ⟨h.ntrans x y z a1 a2, ?_⟩
    cases hzx : lt z x with
    | true => exact .inl rfl
    | false =>
      right
      rcases b1 with b1 | b1
      · have := h.ntrans y z x a2 hzx; rw [b1] at this; cases this
      · rcases b2 with b2 | b2
        · have := h.ntrans z x y hzx a1; rw [b2] at this; cases this
        · omega

variable {lt s : α → α → Bool} {tg : α → Nat}

/-! Insertion. -/

theorem inn_perm (a b i : Nat) (hi : i < b) : ∀ (j : Nat) (d : Array α), a ≤ j → j ≤ i → b ≤ d.size → PermIn a b d (insInner lt a j d)
  | 0, d, _, _, _ => by unfold insInner; exact permIn_refl d a b
  | j + 1, d, haj, hji, hb => by
    unfold insInner
    split
    · rename_i hc
      simp only [Bool.and_eq_true, decide_eq_true_eq] at hc
      exact permIn_trans _ _ _ a b (swp_permIn d a b (j + 1) j haj (by omega) (by omega) (by omega) hb) (inn_perm a b i hi j _ (by omega) (by omega) (by rw [size_swp]; exact hb))
    · exact permIn_refl d a b

theorem inn_same (a : Nat) : ∀ (j : Nat) (d : Array α), j < d.size → (∀ p, a ≤ p → p < j → ¬ tg d[j]! < tg d[p]!) → insInner lt a j d = insInner (sl lt tg) a j d
  | 0, d, _, _ => by unfold insInner; rfl
  | j + 1, d, hj, h => by
    unfold insInner
    by_cases ha : j + 1 > a
    · have e : sl lt tg d[j + 1]! d[j]! = lt d[j + 1]! d[j]! := sl_lt (h j (by omega) (by omega))
      rw [e]
      split
      · apply inn_same a j
        · rw [size_swp]; omega
        · intro p hp hpj
          rw [swp_get d hj (by omega), swp_get d hj (by omega), if_pos rfl, if_neg (by omega), if_neg (by omega)]
          exact h p hp (by omega)
      · rfl
    · rw [if_neg (by simp; omega), if_neg (by simp; omega)]

theorem out_eq (f : α → α → Bool) (a b i : Nat) (d : Array α) : insOuter f a b i d = if i < b then insOuter f a b (i + 1) (insInner f a i d) else d := by rw [insOuter]

theorem out_same (a b : Nat) : ∀ (n i : Nat) (d : Array α), b - i = n → a < i → b ≤ d.size → (∀ p q, a ≤ p → p < q → i ≤ q → q < b → tg d[p]! < tg d[q]!) → insOuter lt a b i d = insOuter (sl lt tg) a b i d
  | 0, i, d, hn, _, _, _ => by rw [out_eq lt, out_eq (sl lt tg), if_neg (by omega), if_neg (by omega)]
  | n + 1, i, d, hn, hai, hb, h => by
    have hi : i < b := by omega
    rw [out_eq lt, out_eq (sl lt tg), if_pos hi, if_pos hi]
    have e : insInner lt a i d = insInner (sl lt tg) a i d := inn_same a i d (by omega) (fun p hp hpi => by have := h p i hp hpi (Nat.le_refl _) hi; omega)
    have pm : PermIn a (i + 1) d (insInner lt a i d) := inn_perm a (i + 1) i (by omega) i d (by omega) (Nat.le_refl _) (by omega)
    rw [← e]
    apply out_same a b n (i + 1) _ (by omega) (by omega) (by rw [pm.1]; exact hb)
    intro p q hp hpq hq hqb
    rw [pm.2.1 q (.inr (by omega))]
    by_cases c : p < i + 1
    · exact permIn_all d _ a (i + 1) (fun x => tg x < tg d[q]!) (by omega) pm (fun k hk hki => h k q hk (by omega) (by omega) hqb) p hp c
    · rw [pm.2.1 p (.inr (by omega))]
      exact h p q hp hpq (by omega) hqb

theorem ins_sort (hS : SWO lt) (d : Array α) (a b : Nat) (hab : a ≤ b) (hb : b ≤ d.size) (h : ∀ p q, a ≤ p → p < q → q < b → tg d[p]! < tg d[q]!) :
    PermIn a b d (insertionSort lt d a b) ∧ SortedIn (sl lt tg) a b (insertionSort lt d a b) := by
  have e : insertionSort lt d a b = insertionSort (sl lt tg) d a b := out_same a b (b - (a + 1)) (a + 1) d rfl (by omega) hb (fun p q hp hpq _ hq => h p q hp hpq hq)
  rw [e]
  exact insertionSort_holds (swo_sl hS tg) d a b hab hb

/-! Runs exchanged. -/

/-- Two runs of n, one at a and one at b, exchanged. -/
def IsSw (d : Array α) (a b n : Nat) (d' : Array α) : Prop := d'.size = d.size ∧ ∀ t, d'[t]! = if a ≤ t ∧ t < a + n then d[b + (t - a)]! else if b ≤ t ∧ t < b + n then d[a + (t - b)]! else d[t]!

theorem sw_nil (d : Array α) (a b : Nat) : IsSw d a b 0 d := ⟨rfl, fun t => by rw [if_neg (by omega), if_neg (by omega)]⟩

theorem sw_more {d dk : Array α} {a b i : Nat} (h : IsSw d a b i dk) (hab : a + i < b) (hb : b + i < d.size) : IsSw d a b (i + 1) (swp dk (a + i) (b + i)) := by
  refine ⟨by rw [size_swp]; exact h.1, fun t => ?_⟩
  rw [swp_get dk (by rw [h.1]; omega) (by rw [h.1]; omega)]
  by_cases c1 : t = b + i
  · rw [if_pos c1, h.2, if_neg (by omega), if_neg (by omega), if_neg (by omega), if_pos (by omega)]
    congr 1 <;> omega
  · rw [if_neg c1]
    by_cases c2 : t = a + i
    · rw [if_pos c2, h.2, if_neg (by omega), if_neg (by omega), if_pos (by omega)]
      congr 1 <;> omega
    · rw [if_neg c2, h.2]
      by_cases c3 : a ≤ t ∧ t < a + i
      · rw [if_pos c3, if_pos (by omega)]
      · rw [if_neg c3]
        by_cases c4 : b ≤ t ∧ t < b + i
        · rw [if_pos c4, if_neg (by omega), if_pos (by omega)]
        · rw [if_neg c4, if_neg (by omega), if_neg (by omega)]

/-- The run from m to b stands ahead of the one from a to m. -/
def IsRot (d : Array α) (a m b : Nat) (d' : Array α) : Prop := d'.size = d.size ∧ ∀ t, d'[t]! = if a ≤ t ∧ t < a + (b - m) then d[m + (t - a)]! else if a + (b - m) ≤ t ∧ t < b then d[t - (b - m)]! else d[t]!

theorem rot_left (d : Array α) (a b : Nat) : IsRot d a a b d := ⟨rfl, fun t => by
  by_cases c : a ≤ t ∧ t < a + (b - a)
  · rw [if_pos c]; congr 1 <;> omega
  · rw [if_neg c, if_neg (by omega)]⟩
theorem rot_right (d : Array α) (a m : Nat) : IsRot d a m m d := ⟨rfl, fun t => by
  rw [if_neg (by omega)]
  split
  · congr 1 <;> omega
  · rfl⟩

theorem rot_long {d dk d' : Array α} {m i j : Nat} (hi : j < i) (hm : i ≤ m) (h : IsSw d (m - i) m j dk) (h' : IsRot dk (m - (i - j)) m (m + j) d') : IsRot d (m - i) m (m + j) d' := by
  refine ⟨h'.1.trans h.1, fun t => ?_⟩
  rw [h'.2]
  by_cases c1 : m - i ≤ t ∧ t < m - i + j
  · rw [if_neg (by omega), if_neg (by omega), h.2, if_pos c1, if_pos (by omega)]
  · by_cases c2 : m - (i - j) ≤ t ∧ t < m - (i - j) + j
    · rw [if_pos (by omega), h.2, if_neg (by omega), if_pos (by omega), if_neg (by omega), if_pos (by omega)]
      first | rfl | (congr 1 <;> omega)
    · by_cases c3 : m - (i - j) + j ≤ t ∧ t < m + j
      · rw [if_neg (by omega), if_pos (by omega), h.2, if_neg (by omega), if_neg (by omega), if_neg (by omega), if_pos (by omega)]
      · rw [if_neg (by omega), if_neg (by omega), h.2, if_neg (by omega), if_neg (by omega), if_neg (by omega), if_neg (by omega)]

theorem rot_short {d dk d' : Array α} {m i j : Nat} (hi : i < j) (hm : i ≤ m) (h : IsSw d (m - i) (m + j - i) i dk) (h' : IsRot dk (m - i) m (m + (j - i)) d') : IsRot d (m - i) m (m + j) d' := by
  refine ⟨h'.1.trans h.1, fun t => ?_⟩
  rw [h'.2]
  by_cases c0 : t < m - i ∨ m + j ≤ t
  · rw [if_neg (by omega), if_neg (by omega), h.2, if_neg (by omega), if_neg (by omega), if_neg (by omega), if_neg (by omega)]
  by_cases c1 : m + j - i ≤ t
  · rw [if_neg (by omega), if_neg (by omega), h.2, if_neg (by omega), if_pos (by omega), if_neg (by omega), if_pos (by omega)]
    congr 1 <;> omega
  by_cases c2 : t < m - i + (j - i)
  · rw [if_pos (by omega), h.2, if_neg (by omega), if_neg (by omega), if_pos (by omega)]
  · rw [if_neg (by omega), if_pos (by omega), h.2]
    by_cases c3 : t - (m + (j - i) - m) < m
    · rw [if_pos (by omega), if_pos (by omega)]
      congr 1 <;> omega
    · omega

theorem rot_even {d d' : Array α} {m i : Nat} (hm : i ≤ m) (h : IsSw d (m - i) m i d') : IsRot d (m - i) m (m + i) d' := by
  refine ⟨h.1, fun t => ?_⟩
  rw [h.2]
  by_cases c1 : m - i ≤ t ∧ t < m - i + i
  · rw [if_pos c1, if_pos (by omega)]
  · rw [if_neg c1]
    by_cases c2 : m ≤ t ∧ t < m + i
    · rw [if_pos c2, if_neg (by omega), if_pos (by omega)]; congr 1 <;> omega
    · rw [if_neg c2, if_neg (by omega), if_neg (by omega)]

/-- One place is moved up. -/
theorem rot_up {d dk : Array α} {a k : Nat} (hk : k + 1 < d.size) (ha : a ≤ k) (h : IsRot d a (a + 1) (k + 1) dk) : IsRot d a (a + 1) (k + 2) (swp dk k (k + 1)) := by
  refine ⟨by rw [size_swp]; exact h.1, fun t => ?_⟩
  rw [swp_get dk (by rw [h.1]; omega) (by rw [h.1]; omega)]
  by_cases c1 : t = k + 1
  · rw [if_pos c1, h.2, if_neg (by omega), if_pos (by omega), if_neg (by omega), if_pos (by omega)]
    congr 1 <;> omega
  · rw [if_neg c1]
    by_cases c2 : t = k
    · rw [if_pos c2, h.2, if_neg (by omega), if_neg (by omega), if_pos (by omega)]
      congr 1 <;> omega
    · rw [if_neg c2, h.2]
      by_cases c3 : a ≤ t ∧ t < k
      · rw [if_pos (by omega), if_pos (by omega)]
      · rw [if_neg (by omega), if_neg (by omega), if_neg (by omega), if_neg (by omega)]

theorem rot_down {d dk : Array α} {k m : Nat} (hm : m < d.size) (hk : k < m) (h : IsRot d (k + 1) m (m + 1) dk) : IsRot d k m (m + 1) (swp dk (k + 1) k) := by
  refine ⟨by rw [size_swp]; exact h.1, fun t => ?_⟩
  rw [swp_get dk (by rw [h.1]; omega) (by rw [h.1]; omega)]
  by_cases c1 : t = k
  · rw [if_pos c1, h.2, if_pos (by omega), if_pos (by omega)]
    congr 1 <;> omega
  · rw [if_neg c1]
    by_cases c2 : t = k + 1
    · rw [if_pos c2, h.2, if_neg (by omega), if_neg (by omega), if_neg (by omega), if_pos (by omega)]
      congr 1 <;> omega
    · rw [if_neg c2, h.2, if_neg (by omega)]
      by_cases c3 : k + 2 ≤ t ∧ t < m + 1
      · rw [if_pos (by omega), if_neg (by omega), if_pos (by omega)]
      · rw [if_neg (by omega), if_neg (by omega), if_neg (by omega)]

end Go.Proofs.YtihdijkplmfhfaaGreatDoor.Ss

/- Plain facts on two sorted runs that are merged in place. Conditions: as each theorem states. -/
namespace Go.Proofs.YtihdijkplmfhfaaGreatDoor.Ss
set_option maxRecDepth 100000
open Go.Sort
variable {α : Type} [Inhabited α] {lt s : α → α → Bool} {tg : α → Nat}

/-- All marks of a run are less than those of the one behind it. -/
def Lo (tg : α → Nat) (a m b : Nat) (d : Array α) : Prop := ∀ i j, a ≤ i → i < m → m ≤ j → j < b → tg d[i]! < tg d[j]!

theorem lo_lt {a m b i j : Nat} {d : Array α} (h : Lo tg a m b d) (h1 : a ≤ i) (h2 : i < m) (h3 : m ≤ j) (h4 : j < b) : sl lt tg d[j]! d[i]! = lt d[j]! d[i]! := sl_lt (by have := h i j h1 h2 h3 h4; omega)

theorem sorted_le (hS : SWO s) {a b i j : Nat} {d : Array α} (h : SortedIn s a b d) (h1 : a ≤ i) (h2 : i ≤ j) (h3 : j < b) : s d[j]! d[i]! = false := by
  by_cases c : i = j
  · subst c; exact hS.irrefl _
  · exact h i j h1 (by omega) h3

theorem sorted_part {a b x y : Nat} {d : Array α} (h : SortedIn s a b d) (hx : a ≤ x) (hy : y ≤ b) : SortedIn s x y d := fun i j h1 h2 h3 => h i j (by omega) h2 (by omega)

theorem mono_no (hS : SWO s) {a m b p c c' : Nat} {d : Array α} (hA : SortedIn s a m d) (hB : SortedIn s m b d) (h0 : a ≤ c') (h1 : c' ≤ c) (h2 : c < m) (h3 : m ≤ p - c) (h4 : p - c' < b)
    (h : s d[p - c]! d[c]! = false) : s d[p - c']! d[c']! = false := by
  have e1 := sorted_le hS hB (i := p - c) (j := p - c') h3 (by omega) h4
  have e2 := sorted_le hS hA (i := c') (j := c) h0 h1 h2
  exact hS.ntrans _ _ _ (hS.ntrans _ _ _ e1 h) e2

theorem mono_yes (hS : SWO s) {a m b p c c' : Nat} {d : Array α} (hA : SortedIn s a m d) (hB : SortedIn s m b d) (h0 : a ≤ c) (h1 : c ≤ c') (h2 : c' < m) (h3 : m ≤ p - c') (h4 : p - c < b)
    (h : s d[p - c]! d[c]! = true) : s d[p - c']! d[c']! = true := by
  cases e : s d[p - c']! d[c']! with
  | true => rfl
  | false =>
    have := mono_no hS hA hB h0 h1 h2 h3 h4 e
    rw [h] at this; cases this

/-- Where a run of the left and one of the right are cut so that what stands in the lower halves goes ahead of what stands in the upper ones. -/
structure Cutp (s : α → α → Bool) (a st m en b : Nat) (d : Array α) : Prop where
  h1 : a ≤ st
  h2 : st ≤ m
  h3 : m ≤ en
  h4 : en ≤ b
  no : a < st → en < b → s d[en]! d[st - 1]! = false
  yes : st < m → m < en → s d[en - 1]! d[st]! = true

theorem cutp_cross (hS : SWO s) {a st m en b : Nat} {d : Array α} (hA : SortedIn s a m d) (hB : SortedIn s m b d) (h : Cutp s a st m en b d) {i j : Nat}
    (hi : (a ≤ i ∧ i < st) ∨ (m ≤ i ∧ i < en)) (hj : (st ≤ j ∧ j < m) ∨ (en ≤ j ∧ j < b)) : s d[j]! d[i]! = false := by
  obtain ⟨q1, q2, q3, q4, no, yes⟩ := h
  rcases hi with ⟨i1, i2⟩ | ⟨i1, i2⟩
  · rcases hj with ⟨j1, j2⟩ | ⟨j1, j2⟩
    · exact hA i j i1 (by omega) j2
    · have e := no (by omega) (by omega)
      have e1 := sorted_le hS hB (i := en) (j := j) q3 j1 j2
      have e2 := sorted_le hS hA (i := i) (j := st - 1) i1 (by omega) (by omega)
      exact hS.ntrans _ _ _ (hS.ntrans _ _ _ e1 e) e2
  · rcases hj with ⟨j1, j2⟩ | ⟨j1, j2⟩
    · have e := hS.asymmA (yes (by omega) (by omega))
      have e1 := sorted_le hS hA (i := st) (j := j) q1 j1 j2
      have e2 := sorted_le hS hB (i := i) (j := en - 1) i1 (by omega) (by omega)
      exact hS.ntrans _ _ _ (hS.ntrans _ _ _ e1 e) e2
    · exact hB i j i1 (by omega) j2

variable {a st m en b mid : Nat} {d d1 d2 d3 : Array α}

theorem rot_low (h : IsRot d st m en d1) {t : Nat} (ht : t < st) : d1[t]! = d[t]! := by rw [h.2, if_neg (by omega), if_neg (by omega)]
theorem rot_high (h : IsRot d st m en d1) (h1 : st ≤ m) (h2 : m ≤ en) {t : Nat} (ht : en ≤ t) : d1[t]! = d[t]! := by rw [h.2, if_neg (by omega), if_neg (by omega)]
theorem rot_fst (h : IsRot d st m en d1) {t : Nat} (h1 : st ≤ t) (h2 : t < st + (en - m)) : d1[t]! = d[m + (t - st)]! := by rw [h.2, if_pos ⟨h1, h2⟩]
theorem rot_snd (h : IsRot d st m en d1) {t : Nat} (h1 : st + (en - m) ≤ t) (h2 : t < en) : d1[t]! = d[t - (en - m)]! := by rw [h.2, if_neg (by omega), if_pos ⟨h1, h2⟩]

/-- What lies where, when the two middle runs have been exchanged. -/
structure Halves (s : α → α → Bool) (tg : α → Nat) (a st mid en b : Nat) (d1 : Array α) : Prop where
  s1 : SortedIn s a st d1
  s2 : SortedIn s st mid d1
  s3 : SortedIn s mid en d1
  s4 : SortedIn s en b d1
  l1 : Lo tg a st mid d1
  l2 : Lo tg mid en b d1
  x : ∀ i j, a ≤ i → i < mid → mid ≤ j → j < b → s d1[j]! d1[i]! = false

theorem halves (hS : SWO s) (hA : SortedIn s a m d) (hB : SortedIn s m b d) (hL : Lo tg a m b d) (h : Cutp s a st m en b d) (hr : IsRot d st m en d1) (hm : mid = st + (en - m)) : Halves s tg a st mid en b d1 := by
  have q := h
  obtain ⟨q1, q2, q3, q4, -, -⟩ := q
  subst hm
  have lo : ∀ t, t < st → d1[t]! = d[t]! := fun t ht => rot_low hr ht
  have hi : ∀ t, en ≤ t → d1[t]! = d[t]! := fun t ht => rot_high hr q2 q3 ht
  have f : ∀ t, st ≤ t → t < st + (en - m) → d1[t]! = d[m + (t - st)]! := fun t u v => rot_fst hr u v
  have g : ∀ t, st + (en - m) ≤ t → t < en → d1[t]! = d[t - (en - m)]! := fun t u v => rot_snd hr u v
  refine ⟨?_, ?_, ?_, ?_, ?_, ?_, ?_⟩
  · intro i j h1 h2 h3
    rw [lo i (by omega), lo j h3]
    exact hA i j h1 h2 (by omega)
  · intro i j h1 h2 h3
    rw [f i h1 (by omega), f j (by omega) h3]
    exact hB _ _ (by omega) (by omega) (by omega)
  · intro i j h1 h2 h3
    rw [g i h1 (by omega), g j (by omega) h3]
    exact hA _ _ (by omega) (by omega) (by omega)
  · intro i j h1 h2 h3
    rw [hi i h1, hi j (by omega)]
    exact hB _ _ (by omega) h2 h3
  · intro i j h1 h2 h3 h4
    rw [lo i h2, f j h3 h4]
    exact hL _ _ h1 (by omega) (by omega) (by omega)
  · intro i j h1 h2 h3 h4
    rw [g i h1 h2, hi j h3]
    exact hL _ _ (by omega) (by omega) (by omega) h4
  · intro i j h1 h2 h3 h4
    by_cases c : i < st
    · rw [lo i c]
      by_cases e : j < en
      · rw [g j h3 e]
        exact cutp_cross hS hA hB h (.inl ⟨h1, c⟩) (.inl ⟨by omega, by omega⟩)
      · rw [hi j (by omega)]
        exact cutp_cross hS hA hB h (.inl ⟨h1, c⟩) (.inr ⟨by omega, h4⟩)
    · rw [f i (by omega) h2]
      by_cases e : j < en
      · rw [g j h3 e]
        exact cutp_cross hS hA hB h (.inr ⟨by omega, by omega⟩) (.inl ⟨by omega, by omega⟩)
      · rw [hi j (by omega)]
        exact cutp_cross hS hA hB h (.inr ⟨by omega, by omega⟩) (.inr ⟨by omega, h4⟩)

theorem sorted_congr {x y : Nat} (h : SortedIn s x y d) (e : ∀ t, x ≤ t → t < y → d1[t]! = d[t]!) : SortedIn s x y d1 := fun i j h1 h2 h3 => by
  rw [e i h1 (by omega), e j (by omega) h3]; exact h i j h1 h2 h3
theorem lo_congr {x y z : Nat} (h : Lo tg x y z d) (e : ∀ t, x ≤ t → t < z → d1[t]! = d[t]!) : Lo tg x y z d1 := fun i j h1 h2 h3 h4 => by
  rw [e i h1 (by omega), e j (by omega) h4]; exact h i j h1 h2 h3 h4

/-- Behind the first half's sorting the second half is as it was. -/
theorem halves_next (hm : mid ≤ en) (h : Halves s tg a st mid en b d1) (p : PermIn a mid d1 d2) : SortedIn s mid en d2 ∧ SortedIn s en b d2 ∧ Lo tg mid en b d2 :=
  ⟨sorted_congr h.s3 (fun t h1 _ => p.2.1 t (.inr h1)), sorted_congr h.s4 (fun t h1 _ => p.2.1 t (.inr (by omega))), lo_congr h.l2 (fun t h1 _ => p.2.1 t (.inr h1))⟩

theorem glue (ha : a ≤ mid) (hb : mid ≤ b) (hz : b ≤ d1.size) (h : Halves s tg a st mid en b d1) (p1 : PermIn a mid d1 d2) (s1 : SortedIn s a mid d2) (p2 : PermIn mid b d2 d3) (s2 : SortedIn s mid b d3) :
    SortedIn s a b d3 ∧ PermIn a b d1 d3 := by
  have z2 : d2.size = d1.size := p1.1
  have x2 : ∀ i j, a ≤ i → i < mid → mid ≤ j → j < b → s d2[j]! d2[i]! = false := by
    intro i j h1 h2 h3 h4
    rw [p1.2.1 j (.inr h3)]
    exact permIn_all d1 d2 a mid (fun u => s d1[j]! u = false) (by omega) p1 (fun k k1 k2 => h.x k j k1 k2 h3 h4) i h1 h2
  have x3 : ∀ i j, a ≤ i → i < mid → mid ≤ j → j < b → s d3[j]! d3[i]! = false := by
    intro i j h1 h2 h3 h4
    rw [p2.2.1 i (.inl h2)]
    exact permIn_all d2 d3 mid b (fun u => s u d2[i]! = false) (by omega) p2 (fun k k1 k2 => x2 i k h1 h2 k1 k2) j h3 h4
  refine ⟨fun i j h1 h2 h3 => ?_, ?_⟩
  · by_cases c : j < mid
    · rw [p2.2.1 i (.inl (by omega)), p2.2.1 j (.inl c)]
      exact s1 i j h1 h2 c
    · by_cases e : mid ≤ i
      · exact s2 i j e h2 h3
      · exact x3 i j h1 (by omega) (by omega) h3
  · exact permIn_trans _ _ _ a b (permIn_mono _ _ a mid a b (by omega) hb (by omega) p1) (permIn_mono _ _ mid b a b ha (by omega) (by omega) p2)

/-- A run of one, moved up among the right. -/
theorem one_up (hS : SWO s) {q : Nat} (hB : SortedIn s (a + 1) b d) (h1 : a + 1 ≤ q) (h2 : q ≤ b) (hy : ∀ h, a + 1 ≤ h → h < q → s d[h]! d[a]! = true) (hn : ∀ h, q ≤ h → h < b → s d[h]! d[a]! = false) (hr : IsRot d a (a + 1) q d1) : SortedIn s a b d1 := by
  intro i j i1 i2 i3
  by_cases c1 : j < q - 1
  · rw [rot_fst hr i1 (by omega), rot_fst hr (by omega) (by omega)]
    exact hB _ _ (by omega) (by omega) (by omega)
  by_cases c2 : j = q - 1
  · rw [rot_fst hr i1 (by omega), rot_snd hr (t := j) (by omega) (by omega)]
    have e := hS.asymmA (hy (a + 1 + (i - a)) (by omega) (by omega))
    have : j - (q - (a + 1)) = a := by omega
    rw [this]; exact e
  · rw [rot_high hr (by omega) h1 (t := j) (by omega)]
    by_cases c3 : i < q - 1
    · rw [rot_fst hr i1 (by omega)]
      exact hB _ _ (by omega) (by omega) (by omega)
    by_cases c4 : i = q - 1
    · rw [rot_snd hr (t := i) (by omega) (by omega)]
      have : i - (q - (a + 1)) = a := by omega
      rw [this]; exact hn j (by omega) i3
    · rw [rot_high hr (by omega) h1 (t := i) (by omega)]
      exact hB _ _ (by omega) i2 i3

/-- A run of one, moved down among the left. -/
theorem one_down (hS : SWO s) {q : Nat} (hA : SortedIn s a m d) (h1 : a ≤ q) (h2 : q ≤ m) (hn : ∀ h, a ≤ h → h < q → s d[m]! d[h]! = false) (hy : ∀ h, q ≤ h → h < m → s d[m]! d[h]! = true) (hr : IsRot d q m (m + 1) d1) : SortedIn s a (m + 1) d1 := by
  intro i j i1 i2 i3
  by_cases c1 : j < q
  · rw [rot_low hr (t := i) (by omega), rot_low hr c1]
    exact hA _ _ i1 i2 (by omega)
  by_cases c2 : j = q
  · rw [rot_low hr (t := i) (by omega), rot_fst hr (t := j) (by omega) (by omega)]
    have : m + (j - q) = m := by omega
    rw [this]; exact hn i i1 (by omega)
  · rw [rot_snd hr (t := j) (by omega) i3]
    by_cases c3 : i < q
    · rw [rot_low hr c3]
      exact hA _ _ i1 (by omega) (by omega)
    by_cases c4 : i = q
    · rw [rot_fst hr (t := i) (by omega) (by omega)]
      have : m + (i - q) = m := by omega
      rw [this]; exact hS.asymmA (hy _ (by omega) (by omega))
    · rw [rot_snd hr (t := i) (by omega) (by omega)]
      exact hA _ _ (by omega) (by omega) (by omega)

end Go.Proofs.YtihdijkplmfhfaaGreatDoor.Ss

/- Plain facts on the order in which spans are put: the first one there that an instant is in is the weightiest. Conditions: as each theorem states. -/
namespace Go.Proofs.YtihdijkplmfhfaaGreatDoor.Sp
set_option maxRecDepth 100000
open Go.Sort
open Go.Proofs.YtihdijkplmfhfaaGreatDoor.Ss (sl sl_yes sl_no)

/-- A span and its place in the row. -/
abbrev Tg := Sp × Nat

instance : Inhabited Tg := ⟨(⟨0, 0, 0, 0⟩, 0)⟩

/-- Is one weightier than another, or does it begin later, of the same weight? -/
def hv (u v : Tg) : Bool := decide (v.1.p < u.1.p) || (decide (v.1.p = u.1.p) && decide (v.1.f < u.1.f))

theorem hv_iff (u v : Tg) : hv u v = true ↔ v.1.p < u.1.p ∨ (v.1.p = u.1.p ∧ v.1.f < u.1.f) := by simp [hv]
theorem hv_no (u v : Tg) : hv u v = false ↔ ¬ (v.1.p < u.1.p ∨ (v.1.p = u.1.p ∧ v.1.f < u.1.f)) := by rw [← hv_iff]; simp

theorem swo_hv : SWO hv where
  irrefl x := by rw [hv_no]; omega
  trans x y z h1 h2 := by rw [hv_iff] at *; omega
  ntrans x y z h1 h2 := by rw [hv_no] at *; omega

/-- Of N places the mark of one: the later it stands, the less. -/
def mk (N : Nat) (u : Tg) : Nat := N - u.2

theorem best_place (N : Nat) (x : Int) : ∀ (n : Nat) (l : List Sp), l.length = n → n ≤ N →
    (best l x = none ∧ ∀ v ∈ l.zipIdx, inn x v.1 = false) ∨ ∃ u ∈ l.zipIdx, best l x = some u.1 ∧ inn x u.1 = true ∧ ∀ v ∈ l.zipIdx, inn x v.1 = true → v = u ∨ sl hv (mk N) u v = true := by
  intro n
  induction n with
  | zero =>
    intro l hl _
    obtain rfl := List.length_eq_zero_iff.1 hl
    exact .inl ⟨rfl, by simp⟩
  | succ n ih =>
    intro l hl hN
    rcases List.eq_nil_or_concat l with rfl | ⟨o, s, rfl⟩
    · simp at hl
    · rw [List.concat_eq_append] at hl ⊢
      have ho : o.length = n := by simpa using hl
      have e : (o ++ [s]).zipIdx = o.zipIdx ++ [(s, n)] := by rw [List.zipIdx_append]; simp [ho]
      have low : ∀ v ∈ o.zipIdx, v.2 < n := fun v hv => by
        have := List.mem_zipIdx hv
        omega
      rw [best_snoc, e]
      by_cases c : s.f ≤ x ∧ x < s.t
      · have ci : inn x s = true := (inn_iff x s).2 c
        rw [if_pos c]
        right
        rcases ih o ho (by omega) with ⟨h1, h2⟩ | ⟨u, hu, h1, h2, h3⟩
        · refine ⟨(s, n), by simp, by rw [h1], ci, fun v hv hi => ?_⟩
          rcases List.mem_append.1 hv with hv | hv
          · rw [h2 v hv] at hi; cases hi
          · exact .inl (List.mem_singleton.1 hv)
        · rw [h1]
          simp only
          have un := low u hu
          by_cases q : ov s u.1 = true
          · rw [if_pos q]
            have qq := (ov_iff s u.1).1 q
            refine ⟨(s, n), by simp, rfl, ci, fun v hv hi => ?_⟩
            rcases List.mem_append.1 hv with hv | hv
            · right
              have vn := low v hv
              rw [sl_yes, hv_iff, hv_no]
              rcases h3 v hv hi with rfl | h4
              · unfold mk; simp only; omega
              · rw [sl_yes, hv_iff, hv_no] at h4
                unfold mk at *; simp only; omega
            · exact .inl (List.mem_singleton.1 hv)
          · rw [if_neg q]
            have qq : ¬ (s.p > u.1.p ∨ (s.p = u.1.p ∧ s.f ≥ u.1.f)) := fun h => q ((ov_iff s u.1).2 h)
            refine ⟨u, List.mem_append_left _ hu, rfl, h2, fun v hv hi => ?_⟩
            rcases List.mem_append.1 hv with hv | hv
            · exact h3 v hv hi
            · right
              rw [List.mem_singleton.1 hv, sl_yes, hv_iff]
              simp only
              omega
      · have ci : inn x s = false := (inn_no x s).2 (by omega)
        rw [if_neg c]
        rcases ih o ho (by omega) with ⟨h1, h2⟩ | ⟨u, hu, h1, h2, h3⟩
        · left
          refine ⟨h1, fun v hv => ?_⟩
          rcases List.mem_append.1 hv with hv | hv
          · exact h2 v hv
          · rw [List.mem_singleton.1 hv]; exact ci
        · right
          refine ⟨u, List.mem_append_left _ hu, h1, h2, fun v hv hi => ?_⟩
          rcases List.mem_append.1 hv with hv | hv
          · exact h3 v hv hi
          · rw [List.mem_singleton.1 hv] at hi; rw [ci] at hi; cases hi

/-- In a row that is put in order the first one that an instant is in is the weightiest one of all. -/
theorem order_best (N : Nat) (l : List Sp) (D : List Tg) (hN : l.length ≤ N) (hp : D.Perm l.zipIdx) (hs : D.Pairwise (fun u v => sl hv (mk N) v u = false)) (x : Int) : fi (D.map (·.1)) x = best l x := by
  have hf : fi (D.map (·.1)) x = (D.find? (fun u => inn x u.1)).map (·.1) := by unfold fi; rw [List.find?_map]; rfl
  rw [hf]
  rcases best_place N x l.length l rfl hN with ⟨h1, h2⟩ | ⟨u, hu, h1, h2, h3⟩
  · rw [h1, List.find?_eq_none.2]
    · rfl
    · intro v hv
      rw [h2 v (hp.mem_iff.1 hv)]; simp
  · rw [h1]
    cases hd : D.find? (fun u => inn x u.1) with
    | none =>
      have := List.find?_eq_none.1 hd u (hp.mem_iff.2 hu)
      rw [h2] at this; simp at this
    | some w =>
      obtain ⟨hw, ys, zs, e, ha⟩ := List.find?_eq_some_iff_append.1 hd
      have hwD : w ∈ D := by rw [e]; simp
      rcases h3 w (hp.mem_iff.1 hwD) hw with rfl | h4
      · rfl
      · exfalso
        have huD := hp.mem_iff.2 hu
        rw [e] at huD
        rcases List.mem_append.1 huD with k | k
        · have := ha u k; rw [h2] at this; simp at this
        · rcases List.mem_cons.1 k with k | k
          · subst k
            rw [(Ss.swo_sl swo_hv (mk N)).irrefl] at h4; cases h4
          · rw [e] at hs
            have := (List.pairwise_cons.1 (List.pairwise_append.1 hs).2.1).1 u k
            rw [this] at h4; cases h4

end Go.Proofs.YtihdijkplmfhfaaGreatDoor.Sp

/- What two library functions that exchange runs of a slice do, over any program that holds their texts: at elements of k cells, from a world of the sort's to a world of the sort's. Conditions: as each theorem states. -/
namespace Go.Proofs.YtihdijkplmfhfaaGreatDoor.Ss
set_option maxRecDepth 100000
set_option maxRecDepth 1000000
open Go.Shelf Go.RowKit Go.Lib Go.Sort

/-- What is asked of the program. -/
structure Has (P : Program) (k : Nat) : Prop where
  mixed : P.follows .mixedOrders = true
  swapR : P.funcs[178]? = some Tryz.f178
  rot : P.funcs[170]? = some Tryz.f170
  sym : P.funcs[153]? = some Tryz.f153
  sta : P.funcs[139]? = some Tryz.f139
  srt : P.funcs[117]? = some Tryz.f117
  ins : ∀ args w, (callFunc 152 args).run P w = .ok (.enter 152 args) w
  eswapR : ∀ args w, (callFunc 178 args).run P w = .ok (.enter 178 args) w
  erot : ∀ args w, (callFunc 170 args).run P w = .ok (.enter 170 args) w
  esym : ∀ args w, (callFunc 153 args).run P w = .ok (.enter 153 args) w
  esta : ∀ args w, (callFunc 139 args).run P w = .ok (.enter 139 args) w
  t0 : P.underlying 0 = some (.tuple #[])
  a0 : ∀ w, (isAgg 0).run P w = .ok false w
  z0 : ∀ w, (Go.sizeOf 0).run P w = .ok 1 w
  t3 : P.underlying 3 = some (.int .i64)
  a3 : ∀ w, (isAgg 3).run P w = .ok false w
  z3 : ∀ w, (Go.sizeOf 3).run P w = .ok 1 w
  v3 : ∀ w, (zeroValue 3).run P w = .ok (.int .i64 0) w
  t4 : P.underlying 4 = some .bool
  a4 : ∀ w, (isAgg 4).run P w = .ok false w
  z4 : ∀ w, (Go.sizeOf 4).run P w = .ok 1 w
  v4 : ∀ w, (zeroValue 4).run P w = .ok (.bool false) w
  t22 : P.underlying 36 = some (.slice 56)
  a22 : ∀ w, (isAgg 36).run P w = .ok false w
  z22 : ∀ w, (Go.sizeOf 36).run P w = .ok 1 w
  v22 : ∀ w, (zeroValue 36).run P w = .ok (.slice none 0 0) w
  t68 : P.underlying 126 = some (.int .u64)
  a68 : ∀ w, (isAgg 126).run P w = .ok false w
  z68 : ∀ w, (Go.sizeOf 126).run P w = .ok 1 w
  v68 : ∀ w, (zeroValue 126).run P w = .ok (.int .u64 0) w
  a57 : ∀ w, (isAgg 141).run P w = .ok false w
  z57 : ∀ w, (Go.sizeOf 141).run P w = .ok 1 w
  v57 : ∀ w, (zeroValue 141).run P w = .ok .nilFunc w
  aE : ∀ w, (isAgg 56).run P w = .ok true w
  zE : ∀ w, (Go.sizeOf 56).run P w = .ok k w

variable {P : Program} {α : Type} [Inhabited α] {enc : α → List Value} {k : Nat} {w0 : World} {blk off : Nat} {d0 : Array α}

set_option maxHeartbeats 4000000 in
theorem swap_range (L : Has P k) (R : RowK enc k w0 blk off d0) (cap a b n : Nat) (fv : Value) (d : Array α) (w : World) (hs : d0.size = d.size) (S : SWK enc k w0 blk off d w) (hab : a + n ≤ b) (hb : b + n ≤ d.size) (hsz : d.size < 4611686018427387904) :
    Calls P 178 #[.slice (some ⟨blk, off, none⟩) d.size cap, .int .i64 a, .int .i64 b, .int .i64 n, fv] w fun e w' =>
      e = .returned (.tuple #[]) ∧ ∃ d', SWK enc k w0 blk off d' w' ∧ IsSw d a b n d' ∧ PermIn a (b + n) d d' := by
  have mixed := L.mixed; have t0 := L.t0; have a0 := L.a0; have z0 := L.z0; have t3 := L.t3; have a3 := L.a3; have z3 := L.z3; have v3 := L.v3; have t4 := L.t4; have a4 := L.a4; have z4 := L.z4; have v4 := L.v4; have t22 := L.t22; have a22 := L.a22; have z22 := L.z22; have v22 := L.v22; have t68 := L.t68; have a68 := L.a68; have z68 := L.z68; have v68 := L.v68; have a57 := L.a57; have z57 := L.z57; have v57 := L.v57; have aE := L.aE; have zE := L.zE
  have FG := L.swapR
  have S0 : Aside (SWK enc k w0 blk off d w) := S
  clear S
  go_enter FG, Tryz.ntmps178
  go_wp2
  go_loopg [10] n (fun kx s10 wr => ∃ (i : Nat) (dk : Array α), s10 = .int .i64 i ∧ i ≤ n ∧ n - i ≤ kx ∧ dk.size = d.size ∧ Aside (SWK enc k w0 blk off dk wr) ∧ Hid (IsSw d a b i dk ∧ PermIn a (b + n) d dk))
  case atStart => exact ⟨0, d, rfl, Nat.zero_le _, by omega, rfl, S0, ⟨sw_nil d a b, permIn_refl _ _ _⟩⟩
  case round =>
    clear S0
    obtain ⟨i, dk, rfl, hin, hkx, hds, S1, HI⟩ := hrel
    by_cases hlt : i < n
    · have hltz : (i : Int) < (n : Int) := by omega
      go_wp2_with fail
      have ea5 : ((a : Int) + (i : Int)).toNat = a + i := by omega
      have pa5 : (0 : Int) ≤ (a : Int) + (i : Int) := by omega
      have ba5 : (a : Int) + (i : Int) < (d.size : Int) := by omega
      have ra5 : IntKind.i64.wrap ((a : Int) + (i : Int)) = (a : Int) + (i : Int) := by rw [IntKind.wrap_i64]; omega
      have ec5 : ((b : Int) + (i : Int)).toNat = b + i := by omega
      have pc5 : (0 : Int) ≤ (b : Int) + (i : Int) := by omega
      have bc5 : (b : Int) + (i : Int) < (d.size : Int) := by omega
      have rc5 : IntKind.i64.wrap ((b : Int) + (i : Int)) = (b : Int) + (i : Int) := by rw [IntKind.wrap_i64]; omega
      have S2 : Aside (SWK enc k w0 blk off (swp dk (a + i) (b + i)) ((wr.drew.setCells blk (off + (a + i) * k) (enc dk[b + i]!)).setCells blk (off + (b + i) * k) (enc dk[a + i]!))) := S1.out.swapped R (a + i) (b + i) (by omega) (by omega)
      have l5a := S1.out.ld1 R (by omega) P (a + i) (by omega)
      have l5b := S1.out.ld1 R (by omega) P (b + i) (by omega)
      have s5a := S1.out.st1 R (by omega) P (a + i) (by omega) dk[b + i]!
      have s5b := S1.out.st2 R (by omega) P (a + i) (b + i) (by omega) (by omega) dk[b + i]! dk[a + i]!
      have n5a : (enc dk[a + i]!).length = k := R.hk _
      have n5b : (enc dk[b + i]!).length = k := R.hk _
      generalize enc dk[a + i]! = cI5 at S2 l5a s5b n5a
      generalize enc dk[b + i]! = cJ5 at S2 l5b s5a s5b n5b
      clear S1
      go_wp2_with fail
      go_big_region_o
      clear l5a l5b s5a s5b
      generalize (wr.drew.setCells blk (off + (a + i) * k) cJ5).setCells blk (off + (b + i) * k) cI5 = w2 at S2 ⊢
      go_wp2
      go_roundg (n - (i + 1))
      case measure => omega
      case rel => exact ⟨i + 1, swp dk (a + i) (b + i), by go_num, by omega, Nat.le_refl _, by rw [size_swp]; exact hds, S2, ⟨sw_more HI.out.1 (by omega) (by omega), permIn_trans _ _ _ _ _ HI.out.2 (swp_permIn dk _ _ _ _ (by omega) (by omega) (by omega) (by omega) (by omega))⟩⟩
    · have hltz : ¬ (i : Int) < (n : Int) := by omega
      obtain rfl : i = n := by omega
      go_wp2
      go_end0
      exact ⟨rfl, dk, S1.out, HI.out.1, HI.out.2⟩

end Go.Proofs.YtihdijkplmfhfaaGreatDoor.Ss

/- What the library's exchange of two neighbouring runs does: at elements of k cells, from a world of the sort's to a world of the sort's. Conditions: as the theorem states. -/
namespace Go.Proofs.YtihdijkplmfhfaaGreatDoor.Ss
set_option maxRecDepth 100000
set_option maxRecDepth 1000000
open Go.Shelf Go.RowKit Go.Lib Go.Sort
variable {P : Program} {α : Type} [Inhabited α] {enc : α → List Value} {k : Nat} {w0 : World} {blk off : Nat} {d0 : Array α}

set_option maxHeartbeats 4000000 in
theorem rotate_any (L : Has P k) (R : RowK enc k w0 blk off d0) (cap a m b : Nat) (fv : Value) (d : Array α) (w : World) (hs : d0.size = d.size) (S : SWK enc k w0 blk off d w) (ham : a < m) (hmb : m < b) (hb : b ≤ d.size) (hsz : d.size < 4611686018427387904) :
    Calls P 170 #[.slice (some ⟨blk, off, none⟩) d.size cap, .int .i64 a, .int .i64 m, .int .i64 b, fv] w fun e w' =>
      e = .returned (.tuple #[]) ∧ ∃ d', SWK enc k w0 blk off d' w' ∧ IsRot d a m b d' ∧ PermIn a b d d' := by
  have mixed := L.mixed; have t0 := L.t0; have a0 := L.a0; have z0 := L.z0; have t3 := L.t3; have a3 := L.a3; have z3 := L.z3; have v3 := L.v3; have t4 := L.t4; have a4 := L.a4; have z4 := L.z4; have v4 := L.v4; have t22 := L.t22; have a22 := L.a22; have z22 := L.z22; have v22 := L.v22; have t68 := L.t68; have a68 := L.a68; have z68 := L.z68; have v68 := L.v68; have a57 := L.a57; have z57 := L.z57; have v57 := L.v57; have aE := L.aE; have zE := L.zE
  have eS := L.eswapR
  have FG := L.rot
  have S0 : Aside (SWK enc k w0 blk off d w) := S
  clear S
  go_enter FG, Tryz.ntmps170
  have q1 : IntKind.i64.wrap ((m : Int) - (a : Int)) = (m : Int) - (a : Int) := by rw [IntKind.wrap_i64]; omega
  have q2 : IntKind.i64.wrap ((b : Int) - (m : Int)) = (b : Int) - (m : Int) := by rw [IntKind.wrap_i64]; omega
  go_wp2
  go_loopg [10, 11] (b - a) (fun kx s10 s11 wr => ∃ (i j : Nat) (dk : Array α), s10 = .int .i64 i ∧ s11 = .int .i64 j ∧ 0 < i ∧ 0 < j ∧ i ≤ m - a ∧ j ≤ b - m ∧ i + j ≤ kx ∧ dk.size = d.size ∧ Aside (SWK enc k w0 blk off dk wr) ∧ Hid ((∀ d', IsRot dk (m - i) m (m + j) d' → IsRot d a m b d') ∧ PermIn a b d dk))
  case atStart =>
    refine ⟨m - a, b - m, d, by congr 1; omega, by congr 1; omega, by omega, by omega, Nat.le_refl _, Nat.le_refl _, by omega, rfl, S0, ⟨fun d' h => ?_, permIn_refl _ _ _⟩⟩
    have e1 : m - (m - a) = a := by omega
    have e2 : m + (b - m) = b := by omega
    rw [e1, e2] at h
    exact h
  case round =>
    clear S0
    obtain ⟨i, j, dk, rfl, rfl, hi0, hj0, him, hjm, hkx, hds, S1, HI⟩ := hrel
    have r1 : IntKind.i64.wrap ((m : Int) - (i : Int)) = (m : Int) - (i : Int) := by rw [IntKind.wrap_i64]; omega
    have r2 : IntKind.i64.wrap ((m : Int) + (j : Int)) = (m : Int) + (j : Int) := by rw [IntKind.wrap_i64]; omega
    have r3 : IntKind.i64.wrap ((m : Int) + (j : Int) - (i : Int)) = (m : Int) + (j : Int) - (i : Int) := by rw [IntKind.wrap_i64]; omega
    have r4 : IntKind.i64.wrap ((i : Int) - (j : Int)) = (i : Int) - (j : Int) := by rw [IntKind.wrap_i64]; omega
    have r5 : IntKind.i64.wrap ((j : Int) - (i : Int)) = (j : Int) - (i : Int) := by rw [IntKind.wrap_i64]; omega
    have z1 : ((m - i : Nat) : Int) = (m : Int) - (i : Int) := by omega
    rcases Nat.lt_trichotomy i j with c | c | c
    · have hc := swap_range L R cap (m - i) (m + j - i) i fv dk wr (by omega) S1.out (by omega) (by omega) (by omega)
      have z2 : ((m + j - i : Nat) : Int) = (m : Int) + (j : Int) - (i : Int) := by omega
      rw [z1, z2, hds] at hc
      have n1 : ¬ ((i : Int) = (j : Int)) := by omega
      have n2 : ¬ ((j : Int) < (i : Int)) := by omega
      have n3 : ((i : Int) == (j : Int)) = false := by simpa using n1
      clear S1
      go_wp2_with (go_at_fn 178; refine hc.mono ?_; rintro e w2 ⟨rfl, d2, S2, X2, P2⟩)
      go_roundg (i + (j - i))
      case measure => omega
      case rel =>
        refine ⟨i, j - i, d2, by first | rfl | go_num, by congr 1; omega, hi0, by omega, him, by omega, Nat.le_refl _, by rw [P2.1]; exact hds, S2, ⟨fun d' h => HI.out.1 d' (rot_short c (by omega) X2 h), ?_⟩⟩
        exact permIn_trans _ _ _ _ _ HI.out.2 (permIn_mono _ _ _ _ _ _ (by omega) (by omega) (by omega) P2)
    · subst c
      have hc := swap_range L R cap (m - i) m i fv dk wr (by omega) S1.out (by omega) (by omega) (by omega)
      rw [z1, hds] at hc
      clear S1
      go_wp2_with (go_at_fn 178; refine hc.mono ?_; rintro e w2 ⟨rfl, d2, S2, X2, P2⟩)
      go_end0
      refine ⟨rfl, d2, S2, HI.out.1 d2 (rot_even (by omega) X2), permIn_trans _ _ _ _ _ HI.out.2 (permIn_mono _ _ _ _ _ _ (by omega) (by omega) (by omega) P2)⟩
    · have hc := swap_range L R cap (m - i) m j fv dk wr (by omega) S1.out (by omega) (by omega) (by omega)
      rw [z1, hds] at hc
      have n1 : ¬ ((i : Int) = (j : Int)) := by omega
      have n2 : (j : Int) < (i : Int) := by omega
      have n3 : ((i : Int) == (j : Int)) = false := by simpa using n1
      clear S1
      go_wp2_with (go_at_fn 178; refine hc.mono ?_; rintro e w2 ⟨rfl, d2, S2, X2, P2⟩)
      go_roundg (i - j + j)
      case measure => omega
      case rel =>
        refine ⟨i - j, j, d2, by congr 1; omega, by first | rfl | go_num, by omega, hj0, by omega, hjm, Nat.le_refl _, by rw [P2.1]; exact hds, S2, ⟨fun d' h => HI.out.1 d' (rot_long c (by omega) X2 h), ?_⟩⟩
        exact permIn_trans _ _ _ _ _ HI.out.2 (permIn_mono _ _ _ _ _ _ (by omega) (by omega) (by omega) P2)

end Go.Proofs.YtihdijkplmfhfaaGreatDoor.Ss
