/-
  Plain facts on an array that is sorted block by block, and on blocks that are merged two by two.  Conditions: as each theorem states.
-/
import Derived.Test.YtmjedpaiccaddaaSt
namespace Go.Proofs.Ytmjedpaiccaddaa.Ss
open Go.Sort
variable {α : Type} [Inhabited α] {s : α → α → Bool} {tg : α → Nat}

theorem dvd_step {b x y : Nat} (hx : b ∣ x) (hy : b ∣ y) (h : y < x) : y + b ≤ x := by
  obtain ⟨p, rfl⟩ := hx
  obtain ⟨q, rfl⟩ := hy
  have : q < p := Nat.lt_of_mul_lt_mul_left h
  have := Nat.mul_le_mul_left b (show q + 1 ≤ p from this)
  rw [Nat.mul_add, Nat.mul_one] at this
  exact this

/-- No mark ahead of c is as great as one from c on. -/
def Xs (tg : α → Nat) (n c : Nat) (d : Array α) : Prop := ∀ i j, i < c → c ≤ j → j < n → tg d[i]! < tg d[j]!

theorem xs_perm {n c a b : Nat} {d d' : Array α} (h : Xs tg n c d) (hp : PermIn a b d d') (hb : b ≤ n) (hn : n ≤ d.size) (hc : b ≤ c ∨ c ≤ a) : Xs tg n c d' := by
  intro i j h1 h2 h3
  rcases hc with hc | hc
  · rw [hp.2.1 j (.inr (by omega))]
    by_cases k : a ≤ i ∧ i < b
    · exact permIn_all d d' a b (fun u => tg u < tg d[j]!) (by omega) hp (fun q _ q2 => h q j (by omega) h2 h3) i k.1 k.2
    · rw [hp.2.1 i (by omega)]
      exact h i j h1 h2 h3
  · rw [hp.2.1 i (.inl (by omega))]
    by_cases k : a ≤ j ∧ j < b
    · exact permIn_all d d' a b (fun u => tg d[i]! < tg u) (by omega) hp (fun q q1 q2 => h i q h1 (by omega) (by omega)) j k.1 k.2
    · rw [hp.2.1 j (by omega)]
      exact h i j h1 h2 h3

theorem sorted_perm_out {x y a b : Nat} {d d' : Array α} (h : SortedIn s x y d) (hp : PermIn a b d d') (hc : y ≤ a ∨ b ≤ x) : SortedIn s x y d' :=
  sorted_congr h (fun t h1 h2 => hp.2.1 t (by omega))

/-- Sorted, block by block, up to x; the marks rise from x on. -/
structure Ph1 (s : α → α → Bool) (tg : α → Nat) (bs n x : Nat) (d : Array α) : Prop where
  A : ∀ y, bs ∣ y → y < x → SortedIn s y (min (y + bs) n) d
  B : ∀ c, bs ∣ c → Xs tg n c d
  C : ∀ i j, i < j → x ≤ j → j < n → tg d[i]! < tg d[j]!

theorem ph1_start {bs n : Nat} {d : Array α} (h : ∀ i j, i < j → j < n → tg d[i]! < tg d[j]!) : Ph1 s tg bs n 0 d :=
  ⟨fun y _ h1 => by omega, fun c _ i j h1 h2 h3 => h i j (by omega) h3, fun i j h1 _ h3 => h i j h1 h3⟩

theorem ph1_rise {bs n x z : Nat} {d : Array α} (h : Ph1 s tg bs n x d) (hz : z ≤ n) : ∀ p q, x ≤ p → p < q → q < z → tg d[p]! < tg d[q]! := fun p q h1 h2 h3 => h.C p q h2 (by omega) (by omega)

theorem ph1_next {bs n x : Nat} {d d' : Array α} (hn : n ≤ d.size) (h : Ph1 s tg bs n x d) (hx : bs ∣ x) (hb : x + bs ≤ n) (hp : PermIn x (x + bs) d d') (hs : SortedIn s x (x + bs) d') : Ph1 s tg bs n (x + bs) d' := by
  refine ⟨fun y hy h1 => ?_, fun c hc => ?_, fun i j h1 h2 h3 => ?_⟩
  · rcases Nat.lt_trichotomy y x with k | k | k
    · have := dvd_step hx hy k
      exact sorted_perm_out (h.A y hy k) hp (.inl (by omega))
    · subst k
      rw [Nat.min_eq_left hb]; exact hs
    · have := dvd_step hy hx k
      omega
  · refine xs_perm (h.B c hc) hp hb hn ?_
    rcases Nat.lt_or_ge x c with k | k
    · exact .inl (dvd_step hc hx k)
    · exact .inr k
  · rw [hp.2.1 j (.inr h2)]
    by_cases k : x ≤ i ∧ i < x + bs
    · exact permIn_all d d' x (x + bs) (fun u => tg u < tg d[j]!) (by omega) hp (fun q _ q2 => h.C q j (by omega) (by omega) h3) i k.1 k.2
    · rw [hp.2.1 i (by omega)]
      exact h.C i j h1 (by omega) h3

/-- Sorted, block by block. -/
structure Ph2 (s : α → α → Bool) (tg : α → Nat) (bs n : Nat) (d : Array α) : Prop where
  A : ∀ y, bs ∣ y → SortedIn s y (min (y + bs) n) d
  B : ∀ c, bs ∣ c → Xs tg n c d

theorem ph1_end {bs n x : Nat} {d d' : Array α} (hn : n ≤ d.size) (h : Ph1 s tg bs n x d) (hx : bs ∣ x) (hxn : x ≤ n) (hb : n < x + bs) (hp : PermIn x n d d') (hs : SortedIn s x n d') : Ph2 s tg bs n d' := by
  refine ⟨fun y hy => ?_, fun c hc => ?_⟩
  · rcases Nat.lt_trichotomy y x with k | k | k
    · have := dvd_step hx hy k
      exact sorted_perm_out (h.A y hy k) hp (.inl (by omega))
    · subst k
      rw [Nat.min_eq_right (by omega)]; exact hs
    · have := dvd_step hy hx k
      intro i j h1 h2 h3
      omega
  · rcases Nat.lt_or_ge x c with k | k
    · have := dvd_step hc hx k
      intro i j h1 h2 h3
      omega
    · exact xs_perm (h.B c hc) hp (Nat.le_refl _) hn (.inr k)

/-- Two by two up to x, one by one from there. -/
structure Ph3 (s : α → α → Bool) (tg : α → Nat) (bs n x : Nat) (d : Array α) : Prop where
  A2 : ∀ y, 2 * bs ∣ y → y < x → SortedIn s y (min (y + 2 * bs) n) d
  A1 : ∀ y, bs ∣ y → x ≤ y → SortedIn s y (min (y + bs) n) d
  B2 : ∀ c, 2 * bs ∣ c → Xs tg n c d
  B1 : ∀ c, bs ∣ c → x ≤ c → Xs tg n c d

theorem dvd_two {b x : Nat} (h : 2 * b ∣ x) : b ∣ x := Nat.dvd_trans (Nat.dvd_mul_left b 2) h

theorem ph3_start {bs n : Nat} {d : Array α} (h : Ph2 s tg bs n d) : Ph3 s tg bs n 0 d :=
  ⟨fun y _ h1 => by omega, fun y hy _ => h.A y hy, fun c hc => h.B c (dvd_two hc), fun c hc _ => h.B c hc⟩

theorem ph3_pre {bs n x z : Nat} {d : Array α} (h : Ph3 s tg bs n x d) (hx : 2 * bs ∣ x) (h1 : x + bs ≤ n) (hz : z = min (x + 2 * bs) n) : SortedIn s x (x + bs) d ∧ SortedIn s (x + bs) z d ∧ Lo tg x (x + bs) z d := by
  have d1 := dvd_two hx
  have d2 : bs ∣ x + bs := Nat.dvd_add d1 (Nat.dvd_refl _)
  refine ⟨?_, ?_, ?_⟩
  · have := h.A1 x d1 (Nat.le_refl _)
    rwa [Nat.min_eq_left h1] at this
  · have := h.A1 (x + bs) d2 (by omega)
    rw [show x + bs + bs = x + 2 * bs by omega] at this
    rw [hz]; exact this
  · intro i j i1 i2 i3 i4
    exact h.B1 (x + bs) d2 (by omega) i j i2 i3 (by omega)

theorem ph3_next {bs n x : Nat} {d d' : Array α} (hn : n ≤ d.size) (h : Ph3 s tg bs n x d) (hx : 2 * bs ∣ x) (hb : x + 2 * bs ≤ n) (hp : PermIn x (x + 2 * bs) d d') (hs : SortedIn s x (x + 2 * bs) d') : Ph3 s tg bs n (x + 2 * bs) d' := by
  refine ⟨fun y hy h1 => ?_, fun y hy h1 => ?_, fun c hc => ?_, fun c hc h1 => ?_⟩
  · rcases Nat.lt_trichotomy y x with k | k | k
    · have := dvd_step hx hy k
      exact sorted_perm_out (h.A2 y hy k) hp (.inl (by omega))
    · subst k
      rw [Nat.min_eq_left hb]; exact hs
    · have := dvd_step hy hx k
      omega
  · exact sorted_perm_out (h.A1 y hy (by omega)) hp (.inr h1)
  · refine xs_perm (h.B2 c hc) hp hb hn ?_
    rcases Nat.lt_or_ge x c with k | k
    · exact .inl (dvd_step hc hx k)
    · exact .inr k
  · exact xs_perm (h.B1 c hc (by omega)) hp hb hn (.inl h1)

theorem ph3_end {bs n x : Nat} {d d' : Array α} (hn : n ≤ d.size) (h : Ph3 s tg bs n x d) (hx : 2 * bs ∣ x) (hxn : x ≤ n) (hb : n < x + 2 * bs) (hp : PermIn x n d d') (hs : SortedIn s x n d') : Ph2 s tg (2 * bs) n d' := by
  refine ⟨fun y hy => ?_, fun c hc => ?_⟩
  · rcases Nat.lt_trichotomy y x with k | k | k
    · have := dvd_step hx hy k
      exact sorted_perm_out (h.A2 y hy k) hp (.inl (by omega))
    · subst k
      rw [Nat.min_eq_right (by omega)]; exact hs
    · have := dvd_step hy hx k
      intro i j h1 h2 h3
      omega
  · rcases Nat.lt_or_ge x c with k | k
    · have := dvd_step hc hx k
      intro i j h1 h2 h3
      omega
    · exact xs_perm (h.B2 c hc) hp (Nat.le_refl _) hn (.inr k)

/-- The last two: one block alone. -/
theorem ph3_last {bs n x : Nat} {d : Array α} (h : Ph3 s tg bs n x d) (hx : 2 * bs ∣ x) (hb : n ≤ x + bs) : SortedIn s x n d := by
  have := h.A1 x (dvd_two hx) (Nat.le_refl _)
  rwa [Nat.min_eq_right hb] at this

theorem ph2_end {bs n : Nat} {d : Array α} (h : Ph2 s tg bs n d) (hb : n ≤ bs) : SortedIn s 0 n d := by
  have := h.A 0 (Nat.dvd_zero _)
  rwa [Nat.zero_add, Nat.min_eq_right hb] at this

end Go.Proofs.Ytmjedpaiccaddaa.Ss
