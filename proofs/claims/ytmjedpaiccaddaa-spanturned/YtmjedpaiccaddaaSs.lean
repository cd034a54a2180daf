/-
  Plain facts on sorting that keeps the order of equals: an order in which equals are told apart by marks; insertion; runs of an array exchanged; two sorted runs merged in place.  Conditions: as each theorem states.
-/
import Derived.Sort.LotA
namespace Go.Proofs.Ytmjedpaiccaddaa.Ss
open Go.Sort
variable {α : Type} [Inhabited α]

/-! An order, and one in which equals are told apart. -/

def sl (lt : α → α → Bool) (tg : α → Nat) (x y : α) : Bool := lt x y || (!lt y x && decide (tg x < tg y))

omit [Inhabited α] in
theorem sl_yes {lt : α → α → Bool} {tg : α → Nat} {x y : α} : sl lt tg x y = true ↔ lt x y = true ∨ (lt y x = false ∧ tg x < tg y) := by
  unfold sl; simp
omit [Inhabited α] in
theorem sl_no {lt : α → α → Bool} {tg : α → Nat} {x y : α} : sl lt tg x y = false ↔ lt x y = false ∧ (lt y x = true ∨ tg y ≤ tg x) := by
  unfold sl; simp
  intro _
  cases lt y x <;> simp

omit [Inhabited α] in
/-- Where the second one has no greater mark, the two orders say the same. -/
theorem sl_lt {lt : α → α → Bool} {tg : α → Nat} {x y : α} (h : ¬ tg x < tg y) : sl lt tg x y = lt x y := by
  unfold sl; simp [h]

omit [Inhabited α] in
theorem swo_sl {lt : α → α → Bool} (h : SWO lt) (tg : α → Nat) : SWO (sl lt tg) where
  irrefl x := sl_no.2 ⟨h.irrefl x, .inr (Nat.le_refl _)⟩
  trans x y z h1 h2 := by
    rw [sl_yes] at h1 h2 ⊢
    cases hxz : lt x z with
    | true => exact .inl rfl
    | false =>
      right
      rcases h1 with h1 | ⟨h1, t1⟩
      · rcases h2 with h2 | ⟨h2, t2⟩
        · have := h.trans x y z h1 h2; rw [hxz] at this; cases this
        · have := h.ntrans x z y hxz h2; rw [h1] at this; cases this
      · rcases h2 with h2 | ⟨h2, t2⟩
        · have := h.ntrans y x z h1 hxz; rw [h2] at this; cases this
        · exact ⟨h.ntrans z y x h2 h1, by omega⟩
  ntrans x y z h1 h2 := by
    rw [sl_no] at h1 h2 ⊢
    obtain ⟨a1, b1⟩ := h1
    obtain ⟨a2, b2⟩ := h2
    refine ⟨h.ntrans x y z a1 a2, ?_⟩
    cases hzx : lt z x with
    | true => exact .inl rfl
    | false =>
      right
      rcases b1 with b1 | b1
      · have := h.ntrans y z x a2 hzx; rw [b1] at this; cases this
      · rcases b2 with b2 | b2
        · have := h.ntrans z x y hzx a1; rw [b2] at this; cases this
        · omega

variable {lt s : α → α → Bool} {tg : α → Nat}

/-! Insertion. -/

theorem inn_perm (a b i : Nat) (hi : i < b) : ∀ (j : Nat) (d : Array α), a ≤ j → j ≤ i → b ≤ d.size → PermIn a b d (insInner lt a j d)
  | 0, d, _, _, _ => by unfold insInner; exact permIn_refl d a b
  | j + 1, d, haj, hji, hb => by
    unfold insInner
    split
    · rename_i hc
      simp only [Bool.and_eq_true, decide_eq_true_eq] at hc
      exact permIn_trans _ _ _ a b (swp_permIn d a b (j + 1) j haj (by omega) (by omega) (by omega) hb) (inn_perm a b i hi j _ (by omega) (by omega) (by rw [size_swp]; exact hb))
    · exact permIn_refl d a b

theorem inn_same (a : Nat) : ∀ (j : Nat) (d : Array α), j < d.size → (∀ p, a ≤ p → p < j → ¬ tg d[j]! < tg d[p]!) → insInner lt a j d = insInner (sl lt tg) a j d
  | 0, d, _, _ => by unfold insInner; rfl
  | j + 1, d, hj, h => by
    unfold insInner
    by_cases ha : j + 1 > a
    · have e : sl lt tg d[j + 1]! d[j]! = lt d[j + 1]! d[j]! := sl_lt (h j (by omega) (by omega))
      rw [e]
      split
      · apply inn_same a j
        · rw [size_swp]; omega
        · intro p hp hpj
          rw [swp_get d hj (by omega), swp_get d hj (by omega), if_pos rfl, if_neg (by omega), if_neg (by omega)]
          exact h p hp (by omega)
      · rfl
    · rw [if_neg (by simp; omega), if_neg (by simp; omega)]

theorem out_eq (f : α → α → Bool) (a b i : Nat) (d : Array α) : insOuter f a b i d = if i < b then insOuter f a b (i + 1) (insInner f a i d) else d := by rw [insOuter]

theorem out_same (a b : Nat) : ∀ (n i : Nat) (d : Array α), b - i = n → a < i → b ≤ d.size → (∀ p q, a ≤ p → p < q → i ≤ q → q < b → tg d[p]! < tg d[q]!) → insOuter lt a b i d = insOuter (sl lt tg) a b i d
  | 0, i, d, hn, _, _, _ => by rw [out_eq lt, out_eq (sl lt tg), if_neg (by omega), if_neg (by omega)]
  | n + 1, i, d, hn, hai, hb, h => by
    have hi : i < b := by omega
    rw [out_eq lt, out_eq (sl lt tg), if_pos hi, if_pos hi]
    have e : insInner lt a i d = insInner (sl lt tg) a i d := inn_same a i d (by omega) (fun p hp hpi => by have := h p i hp hpi (Nat.le_refl _) hi; omega)
    have pm : PermIn a (i + 1) d (insInner lt a i d) := inn_perm a (i + 1) i (by omega) i d (by omega) (Nat.le_refl _) (by omega)
    rw [← e]
    apply out_same a b n (i + 1) _ (by omega) (by omega) (by rw [pm.1]; exact hb)
    intro p q hp hpq hq hqb
    rw [pm.2.1 q (.inr (by omega))]
    by_cases c : p < i + 1
    · exact permIn_all d _ a (i + 1) (fun x => tg x < tg d[q]!) (by omega) pm (fun k hk hki => h k q hk (by omega) (by omega) hqb) p hp c
    · rw [pm.2.1 p (.inr (by omega))]
      exact h p q hp hpq (by omega) hqb

theorem ins_sort (hS : SWO lt) (d : Array α) (a b : Nat) (hab : a ≤ b) (hb : b ≤ d.size) (h : ∀ p q, a ≤ p → p < q → q < b → tg d[p]! < tg d[q]!) :
    PermIn a b d (insertionSort lt d a b) ∧ SortedIn (sl lt tg) a b (insertionSort lt d a b) := by
  have e : insertionSort lt d a b = insertionSort (sl lt tg) d a b := out_same a b (b - (a + 1)) (a + 1) d rfl (by omega) hb (fun p q hp hpq _ hq => h p q hp hpq hq)
  rw [e]
  exact insertionSort_holds (swo_sl hS tg) d a b hab hb

/-! Runs exchanged. -/

/-- Two runs of n, one at a and one at b, exchanged. -/
def IsSw (d : Array α) (a b n : Nat) (d' : Array α) : Prop := d'.size = d.size ∧ ∀ t, d'[t]! = if a ≤ t ∧ t < a + n then d[b + (t - a)]! else if b ≤ t ∧ t < b + n then d[a + (t - b)]! else d[t]!

theorem sw_nil (d : Array α) (a b : Nat) : IsSw d a b 0 d := ⟨rfl, fun t => by rw [if_neg (by omega), if_neg (by omega)]⟩

theorem sw_more {d dk : Array α} {a b i : Nat} (h : IsSw d a b i dk) (hab : a + i < b) (hb : b + i < d.size) : IsSw d a b (i + 1) (swp dk (a + i) (b + i)) := by
  refine ⟨by rw [size_swp]; exact h.1, fun t => ?_⟩
  rw [swp_get dk (by rw [h.1]; omega) (by rw [h.1]; omega)]
  by_cases c1 : t = b + i
  · rw [if_pos c1, h.2, if_neg (by omega), if_neg (by omega), if_neg (by omega), if_pos (by omega)]
    congr 1 <;> omega
  · rw [if_neg c1]
    by_cases c2 : t = a + i
    · rw [if_pos c2, h.2, if_neg (by omega), if_neg (by omega), if_pos (by omega)]
      congr 1 <;> omega
    · rw [if_neg c2, h.2]
      by_cases c3 : a ≤ t ∧ t < a + i
      · rw [if_pos c3, if_pos (by omega)]
      · rw [if_neg c3]
        by_cases c4 : b ≤ t ∧ t < b + i
        · rw [if_pos c4, if_neg (by omega), if_pos (by omega)]
        · rw [if_neg c4, if_neg (by omega), if_neg (by omega)]

/-- The run from m to b stands ahead of the one from a to m. -/
def IsRot (d : Array α) (a m b : Nat) (d' : Array α) : Prop := d'.size = d.size ∧ ∀ t, d'[t]! = if a ≤ t ∧ t < a + (b - m) then d[m + (t - a)]! else if a + (b - m) ≤ t ∧ t < b then d[t - (b - m)]! else d[t]!

theorem rot_left (d : Array α) (a b : Nat) : IsRot d a a b d := ⟨rfl, fun t => by
  by_cases c : a ≤ t ∧ t < a + (b - a)
  · rw [if_pos c]; congr 1 <;> omega
  · rw [if_neg c, if_neg (by omega)]⟩
theorem rot_right (d : Array α) (a m : Nat) : IsRot d a m m d := ⟨rfl, fun t => by
  rw [if_neg (by omega)]
  split
  · congr 1 <;> omega
  · rfl⟩

theorem rot_long {d dk d' : Array α} {m i j : Nat} (hi : j < i) (hm : i ≤ m) (h : IsSw d (m - i) m j dk) (h' : IsRot dk (m - (i - j)) m (m + j) d') : IsRot d (m - i) m (m + j) d' := by
  refine ⟨h'.1.trans h.1, fun t => ?_⟩
  rw [h'.2]
  by_cases c1 : m - i ≤ t ∧ t < m - i + j
  · rw [if_neg (by omega), if_neg (by omega), h.2, if_pos c1, if_pos (by omega)]
  · by_cases c2 : m - (i - j) ≤ t ∧ t < m - (i - j) + j
    · rw [if_pos (by omega), h.2, if_neg (by omega), if_pos (by omega), if_neg (by omega), if_pos (by omega)]
      first | rfl | (congr 1 <;> omega)
    · by_cases c3 : m - (i - j) + j ≤ t ∧ t < m + j
      · rw [if_neg (by omega), if_pos (by omega), h.2, if_neg (by omega), if_neg (by omega), if_neg (by omega), if_pos (by omega)]
      · rw [if_neg (by omega), if_neg (by omega), h.2, if_neg (by omega), if_neg (by omega), if_neg (by omega), if_neg (by omega)]

theorem rot_short {d dk d' : Array α} {m i j : Nat} (hi : i < j) (hm : i ≤ m) (h : IsSw d (m - i) (m + j - i) i dk) (h' : IsRot dk (m - i) m (m + (j - i)) d') : IsRot d (m - i) m (m + j) d' := by
  refine ⟨h'.1.trans h.1, fun t => ?_⟩
  rw [h'.2]
  by_cases c0 : t < m - i ∨ m + j ≤ t
  · rw [if_neg (by omega), if_neg (by omega), h.2, if_neg (by omega), if_neg (by omega), if_neg (by omega), if_neg (by omega)]
  by_cases c1 : m + j - i ≤ t
  · rw [if_neg (by omega), if_neg (by omega), h.2, if_neg (by omega), if_pos (by omega), if_neg (by omega), if_pos (by omega)]
    congr 1 <;> omega
  by_cases c2 : t < m - i + (j - i)
  · rw [if_pos (by omega), h.2, if_neg (by omega), if_neg (by omega), if_pos (by omega)]
  · rw [if_neg (by omega), if_pos (by omega), h.2]
    by_cases c3 : t - (m + (j - i) - m) < m
    · rw [if_pos (by omega), if_pos (by omega)]
      congr 1 <;> omega
    · omega

theorem rot_even {d d' : Array α} {m i : Nat} (hm : i ≤ m) (h : IsSw d (m - i) m i d') : IsRot d (m - i) m (m + i) d' := by
  refine ⟨h.1, fun t => ?_⟩
  rw [h.2]
  by_cases c1 : m - i ≤ t ∧ t < m - i + i
  · rw [if_pos c1, if_pos (by omega)]
  · rw [if_neg c1]
    by_cases c2 : m ≤ t ∧ t < m + i
    · rw [if_pos c2, if_neg (by omega), if_pos (by omega)]; congr 1 <;> omega
    · rw [if_neg c2, if_neg (by omega), if_neg (by omega)]

/-- One place is moved up. -/
theorem rot_up {d dk : Array α} {a k : Nat} (hk : k + 1 < d.size) (ha : a ≤ k) (h : IsRot d a (a + 1) (k + 1) dk) : IsRot d a (a + 1) (k + 2) (swp dk k (k + 1)) := by
  refine ⟨by rw [size_swp]; exact h.1, fun t => ?_⟩
  rw [swp_get dk (by rw [h.1]; omega) (by rw [h.1]; omega)]
  by_cases c1 : t = k + 1
  · rw [if_pos c1, h.2, if_neg (by omega), if_pos (by omega), if_neg (by omega), if_pos (by omega)]
    congr 1 <;> omega
  · rw [if_neg c1]
    by_cases c2 : t = k
    · rw [if_pos c2, h.2, if_neg (by omega), if_neg (by omega), if_pos (by omega)]
      congr 1 <;> omega
    · rw [if_neg c2, h.2]
      by_cases c3 : a ≤ t ∧ t < k
      · rw [if_pos (by omega), if_pos (by omega)]
      · rw [if_neg (by omega), if_neg (by omega), if_neg (by omega), if_neg (by omega)]

theorem rot_down {d dk : Array α} {k m : Nat} (hm : m < d.size) (hk : k < m) (h : IsRot d (k + 1) m (m + 1) dk) : IsRot d k m (m + 1) (swp dk (k + 1) k) := by
  refine ⟨by rw [size_swp]; exact h.1, fun t => ?_⟩
  rw [swp_get dk (by rw [h.1]; omega) (by rw [h.1]; omega)]
  by_cases c1 : t = k
  · rw [if_pos c1, h.2, if_pos (by omega), if_pos (by omega)]
    congr 1 <;> omega
  · rw [if_neg c1]
    by_cases c2 : t = k + 1
    · rw [if_pos c2, h.2, if_neg (by omega), if_neg (by omega), if_neg (by omega), if_pos (by omega)]
      congr 1 <;> omega
    · rw [if_neg c2, h.2, if_neg (by omega)]
      by_cases c3 : k + 2 ≤ t ∧ t < m + 1
      · rw [if_pos (by omega), if_neg (by omega), if_pos (by omega)]
      · rw [if_neg (by omega), if_neg (by omega), if_neg (by omega)]

end Go.Proofs.Ytmjedpaiccaddaa.Ss
