/-
  Plain facts on two sorted runs that are merged in place.  Conditions: as each theorem states.
-/
import Derived.Test.YtmjedpaiccaddaaSs
namespace Go.Proofs.Ytmjedpaiccaddaa.Ss
open Go.Sort
variable {α : Type} [Inhabited α] {lt s : α → α → Bool} {tg : α → Nat}

/-- All marks of a run are less than those of the one behind it. -/
def Lo (tg : α → Nat) (a m b : Nat) (d : Array α) : Prop := ∀ i j, a ≤ i → i < m → m ≤ j → j < b → tg d[i]! < tg d[j]!

theorem lo_lt {a m b i j : Nat} {d : Array α} (h : Lo tg a m b d) (h1 : a ≤ i) (h2 : i < m) (h3 : m ≤ j) (h4 : j < b) : sl lt tg d[j]! d[i]! = lt d[j]! d[i]! := sl_lt (by have := h i j h1 h2 h3 h4; omega)

theorem sorted_le (hS : SWO s) {a b i j : Nat} {d : Array α} (h : SortedIn s a b d) (h1 : a ≤ i) (h2 : i ≤ j) (h3 : j < b) : s d[j]! d[i]! = false := by
  by_cases c : i = j
  · subst c; exact hS.irrefl _
  · exact h i j h1 (by omega) h3

theorem sorted_part {a b x y : Nat} {d : Array α} (h : SortedIn s a b d) (hx : a ≤ x) (hy : y ≤ b) : SortedIn s x y d := fun i j h1 h2 h3 => h i j (by omega) h2 (by omega)

theorem mono_no (hS : SWO s) {a m b p c c' : Nat} {d : Array α} (hA : SortedIn s a m d) (hB : SortedIn s m b d) (h0 : a ≤ c') (h1 : c' ≤ c) (h2 : c < m) (h3 : m ≤ p - c) (h4 : p - c' < b)
    (h : s d[p - c]! d[c]! = false) : s d[p - c']! d[c']! = false := by
  have e1 := sorted_le hS hB (i := p - c) (j := p - c') h3 (by omega) h4
  have e2 := sorted_le hS hA (i := c') (j := c) h0 h1 h2
  exact hS.ntrans _ _ _ (hS.ntrans _ _ _ e1 h) e2

theorem mono_yes (hS : SWO s) {a m b p c c' : Nat} {d : Array α} (hA : SortedIn s a m d) (hB : SortedIn s m b d) (h0 : a ≤ c) (h1 : c ≤ c') (h2 : c' < m) (h3 : m ≤ p - c') (h4 : p - c < b)
    (h : s d[p - c]! d[c]! = true) : s d[p - c']! d[c']! = true := by
  cases e : s d[p - c']! d[c']! with
  | true => rfl
  | false =>
    have := mono_no hS hA hB h0 h1 h2 h3 h4 e
    rw [h] at this; cases this

/-- Where a run of the left and one of the right are cut so that what stands in the lower halves goes ahead of what stands in the upper ones. -/
structure Cutp (s : α → α → Bool) (a st m en b : Nat) (d : Array α) : Prop where
  h1 : a ≤ st
  h2 : st ≤ m
  h3 : m ≤ en
  h4 : en ≤ b
  no : a < st → en < b → s d[en]! d[st - 1]! = false
  yes : st < m → m < en → s d[en - 1]! d[st]! = true

theorem cutp_cross (hS : SWO s) {a st m en b : Nat} {d : Array α} (hA : SortedIn s a m d) (hB : SortedIn s m b d) (h : Cutp s a st m en b d) {i j : Nat}
    (hi : (a ≤ i ∧ i < st) ∨ (m ≤ i ∧ i < en)) (hj : (st ≤ j ∧ j < m) ∨ (en ≤ j ∧ j < b)) : s d[j]! d[i]! = false := by
  obtain ⟨q1, q2, q3, q4, no, yes⟩ := h
  rcases hi with ⟨i1, i2⟩ | ⟨i1, i2⟩
  · rcases hj with ⟨j1, j2⟩ | ⟨j1, j2⟩
    · exact hA i j i1 (by omega) j2
    · have e := no (by omega) (by omega)
      have e1 := sorted_le hS hB (i := en) (j := j) q3 j1 j2
      have e2 := sorted_le hS hA (i := i) (j := st - 1) i1 (by omega) (by omega)
      exact hS.ntrans _ _ _ (hS.ntrans _ _ _ e1 e) e2
  · rcases hj with ⟨j1, j2⟩ | ⟨j1, j2⟩
    · have e := hS.asymmA (yes (by omega) (by omega))
      have e1 := sorted_le hS hA (i := st) (j := j) q1 j1 j2
      have e2 := sorted_le hS hB (i := i) (j := en - 1) i1 (by omega) (by omega)
      exact hS.ntrans _ _ _ (hS.ntrans _ _ _ e1 e) e2
    · exact hB i j i1 (by omega) j2

variable {a st m en b mid : Nat} {d d1 d2 d3 : Array α}

theorem rot_low (h : IsRot d st m en d1) {t : Nat} (ht : t < st) : d1[t]! = d[t]! := by rw [h.2, if_neg (by omega), if_neg (by omega)]
theorem rot_high (h : IsRot d st m en d1) (h1 : st ≤ m) (h2 : m ≤ en) {t : Nat} (ht : en ≤ t) : d1[t]! = d[t]! := by rw [h.2, if_neg (by omega), if_neg (by omega)]
theorem rot_fst (h : IsRot d st m en d1) {t : Nat} (h1 : st ≤ t) (h2 : t < st + (en - m)) : d1[t]! = d[m + (t - st)]! := by rw [h.2, if_pos ⟨h1, h2⟩]
theorem rot_snd (h : IsRot d st m en d1) {t : Nat} (h1 : st + (en - m) ≤ t) (h2 : t < en) : d1[t]! = d[t - (en - m)]! := by rw [h.2, if_neg (by omega), if_pos ⟨h1, h2⟩]

/-- What lies where, when the two middle runs have been exchanged. -/
structure Halves (s : α → α → Bool) (tg : α → Nat) (a st mid en b : Nat) (d1 : Array α) : Prop where
  s1 : SortedIn s a st d1
  s2 : SortedIn s st mid d1
  s3 : SortedIn s mid en d1
  s4 : SortedIn s en b d1
  l1 : Lo tg a st mid d1
  l2 : Lo tg mid en b d1
  x : ∀ i j, a ≤ i → i < mid → mid ≤ j → j < b → s d1[j]! d1[i]! = false

theorem halves (hS : SWO s) (hA : SortedIn s a m d) (hB : SortedIn s m b d) (hL : Lo tg a m b d) (h : Cutp s a st m en b d) (hr : IsRot d st m en d1) (hm : mid = st + (en - m)) : Halves s tg a st mid en b d1 := by
  have q := h
  obtain ⟨q1, q2, q3, q4, -, -⟩ := q
  subst hm
  have lo : ∀ t, t < st → d1[t]! = d[t]! := fun t ht => rot_low hr ht
  have hi : ∀ t, en ≤ t → d1[t]! = d[t]! := fun t ht => rot_high hr q2 q3 ht
  have f : ∀ t, st ≤ t → t < st + (en - m) → d1[t]! = d[m + (t - st)]! := fun t u v => rot_fst hr u v
  have g : ∀ t, st + (en - m) ≤ t → t < en → d1[t]! = d[t - (en - m)]! := fun t u v => rot_snd hr u v
  refine ⟨?_, ?_, ?_, ?_, ?_, ?_, ?_⟩
  · intro i j h1 h2 h3
    rw [lo i (by omega), lo j h3]
    exact hA i j h1 h2 (by omega)
  · intro i j h1 h2 h3
    rw [f i h1 (by omega), f j (by omega) h3]
    exact hB _ _ (by omega) (by omega) (by omega)
  · intro i j h1 h2 h3
    rw [g i h1 (by omega), g j (by omega) h3]
    exact hA _ _ (by omega) (by omega) (by omega)
  · intro i j h1 h2 h3
    rw [hi i h1, hi j (by omega)]
    exact hB _ _ (by omega) h2 h3
  · intro i j h1 h2 h3 h4
    rw [lo i h2, f j h3 h4]
    exact hL _ _ h1 (by omega) (by omega) (by omega)
  · intro i j h1 h2 h3 h4
    rw [g i h1 h2, hi j h3]
    exact hL _ _ (by omega) (by omega) (by omega) h4
  · intro i j h1 h2 h3 h4
    by_cases c : i < st
    · rw [lo i c]
      by_cases e : j < en
      · rw [g j h3 e]
        exact cutp_cross hS hA hB h (.inl ⟨h1, c⟩) (.inl ⟨by omega, by omega⟩)
      · rw [hi j (by omega)]
        exact cutp_cross hS hA hB h (.inl ⟨h1, c⟩) (.inr ⟨by omega, h4⟩)
    · rw [f i (by omega) h2]
      by_cases e : j < en
      · rw [g j h3 e]
        exact cutp_cross hS hA hB h (.inr ⟨by omega, by omega⟩) (.inl ⟨by omega, by omega⟩)
      · rw [hi j (by omega)]
        exact cutp_cross hS hA hB h (.inr ⟨by omega, by omega⟩) (.inr ⟨by omega, h4⟩)

theorem sorted_congr {x y : Nat} (h : SortedIn s x y d) (e : ∀ t, x ≤ t → t < y → d1[t]! = d[t]!) : SortedIn s x y d1 := fun i j h1 h2 h3 => by
  rw [e i h1 (by omega), e j (by omega) h3]; exact h i j h1 h2 h3
theorem lo_congr {x y z : Nat} (h : Lo tg x y z d) (e : ∀ t, x ≤ t → t < z → d1[t]! = d[t]!) : Lo tg x y z d1 := fun i j h1 h2 h3 h4 => by
  rw [e i h1 (by omega), e j (by omega) h4]; exact h i j h1 h2 h3 h4

/-- Behind the first half's sorting the second half is as it was. -/
theorem halves_next (hm : mid ≤ en) (h : Halves s tg a st mid en b d1) (p : PermIn a mid d1 d2) : SortedIn s mid en d2 ∧ SortedIn s en b d2 ∧ Lo tg mid en b d2 :=
  ⟨sorted_congr h.s3 (fun t h1 _ => p.2.1 t (.inr h1)), sorted_congr h.s4 (fun t h1 _ => p.2.1 t (.inr (by omega))), lo_congr h.l2 (fun t h1 _ => p.2.1 t (.inr h1))⟩

theorem glue (ha : a ≤ mid) (hb : mid ≤ b) (hz : b ≤ d1.size) (h : Halves s tg a st mid en b d1) (p1 : PermIn a mid d1 d2) (s1 : SortedIn s a mid d2) (p2 : PermIn mid b d2 d3) (s2 : SortedIn s mid b d3) :
    SortedIn s a b d3 ∧ PermIn a b d1 d3 := by
  have z2 : d2.size = d1.size := p1.1
  have x2 : ∀ i j, a ≤ i → i < mid → mid ≤ j → j < b → s d2[j]! d2[i]! = false := by
    intro i j h1 h2 h3 h4
    rw [p1.2.1 j (.inr h3)]
    exact permIn_all d1 d2 a mid (fun u => s d1[j]! u = false) (by omega) p1 (fun k k1 k2 => h.x k j k1 k2 h3 h4) i h1 h2
  have x3 : ∀ i j, a ≤ i → i < mid → mid ≤ j → j < b → s d3[j]! d3[i]! = false := by
    intro i j h1 h2 h3 h4
    rw [p2.2.1 i (.inl h2)]
    exact permIn_all d2 d3 mid b (fun u => s u d2[i]! = false) (by omega) p2 (fun k k1 k2 => x2 i k h1 h2 k1 k2) j h3 h4
  refine ⟨fun i j h1 h2 h3 => ?_, ?_⟩
  · by_cases c : j < mid
    · rw [p2.2.1 i (.inl (by omega)), p2.2.1 j (.inl c)]
      exact s1 i j h1 h2 c
    · by_cases e : mid ≤ i
      · exact s2 i j e h2 h3
      · exact x3 i j h1 (by omega) (by omega) h3
  · exact permIn_trans _ _ _ a b (permIn_mono _ _ a mid a b (by omega) hb (by omega) p1) (permIn_mono _ _ mid b a b ha (by omega) (by omega) p2)

/-- A run of one, moved up among the right. -/
theorem one_up (hS : SWO s) {q : Nat} (hB : SortedIn s (a + 1) b d) (h1 : a + 1 ≤ q) (h2 : q ≤ b) (hy : ∀ h, a + 1 ≤ h → h < q → s d[h]! d[a]! = true) (hn : ∀ h, q ≤ h → h < b → s d[h]! d[a]! = false) (hr : IsRot d a (a + 1) q d1) : SortedIn s a b d1 := by
  intro i j i1 i2 i3
  by_cases c1 : j < q - 1
  · rw [rot_fst hr i1 (by omega), rot_fst hr (by omega) (by omega)]
    exact hB _ _ (by omega) (by omega) (by omega)
  by_cases c2 : j = q - 1
  · rw [rot_fst hr i1 (by omega), rot_snd hr (t := j) (by omega) (by omega)]
    have e := hS.asymmA (hy (a + 1 + (i - a)) (by omega) (by omega))
    have : j - (q - (a + 1)) = a := by omega
    rw [this]; exact e
  · rw [rot_high hr (by omega) h1 (t := j) (by omega)]
    by_cases c3 : i < q - 1
    · rw [rot_fst hr i1 (by omega)]
      exact hB _ _ (by omega) (by omega) (by omega)
    by_cases c4 : i = q - 1
    · rw [rot_snd hr (t := i) (by omega) (by omega)]
      have : i - (q - (a + 1)) = a := by omega
      rw [this]; exact hn j (by omega) i3
    · rw [rot_high hr (by omega) h1 (t := i) (by omega)]
      exact hB _ _ (by omega) i2 i3

/-- A run of one, moved down among the left. -/
theorem one_down (hS : SWO s) {q : Nat} (hA : SortedIn s a m d) (h1 : a ≤ q) (h2 : q ≤ m) (hn : ∀ h, a ≤ h → h < q → s d[m]! d[h]! = false) (hy : ∀ h, q ≤ h → h < m → s d[m]! d[h]! = true) (hr : IsRot d q m (m + 1) d1) : SortedIn s a (m + 1) d1 := by
  intro i j i1 i2 i3
  by_cases c1 : j < q
  · rw [rot_low hr (t := i) (by omega), rot_low hr c1]
    exact hA _ _ i1 i2 (by omega)
  by_cases c2 : j = q
  · rw [rot_low hr (t := i) (by omega), rot_fst hr (t := j) (by omega) (by omega)]
    have : m + (j - q) = m := by omega
    rw [this]; exact hn i i1 (by omega)
  · rw [rot_snd hr (t := j) (by omega) i3]
    by_cases c3 : i < q
    · rw [rot_low hr c3]
      exact hA _ _ i1 (by omega) (by omega)
    by_cases c4 : i = q
    · rw [rot_fst hr (t := i) (by omega) (by omega)]
      have : m + (i - q) = m := by omega
      rw [this]; exact hS.asymmA (hy _ (by omega) (by omega))
    · rw [rot_snd hr (t := i) (by omega) (by omega)]
      exact hA _ _ (by omega) (by omega) (by omega)

end Go.Proofs.Ytmjedpaiccaddaa.Ss
