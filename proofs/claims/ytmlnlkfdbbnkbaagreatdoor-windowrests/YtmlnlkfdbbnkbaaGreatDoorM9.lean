/-
  Texts of mine, merged: each part says what it holds. Conditions: as each theorem states.
-/
import Derived.RowKit
import Derived.Test.YtmlnlkfdbbnkbaaGreatDoorM8

/- Plain facts on the moments of minutes, in whole numbers: the first instant at which clocks tell a minute, or the next one that they tell. No condition but those that each theorem states. -/
namespace Go.Proofs.YtmlnlkfdbbnkbaaGreatDoor.Win
set_option maxRecDepth 100000
open Go.Proofs.YtmlnlkfdbbnkbaaGreatDoor.Cal (dm yr om od ya ma)
open Go.Proofs.YtmlnlkfdbbnkbaaGreatDoor.Zo

/-- When clocks are shifted, told by the year's turns. -/
theorem sm_tell (z : Zn) (t y : Int) (hs : ¬ z.s = 0) (h1 : 1 ≤ y) (h2 : y ≤ 9999) (a : ya y * 1440 + 1440 ≤ t + z.b) (b : t + z.b < ya (y + 1) * 1440 + 1440) :
    (sm z t = true ∧ ((wn z z.p y < wn z z.q y ∧ wn z z.p y ≤ t ∧ t < wn z z.q y) ∨ (wn z z.q y ≤ wn z z.p y ∧ (t < wn z z.q y ∨ wn z z.p y ≤ t)))) ∨
    (sm z t = false ∧ ((wn z z.p y < wn z z.q y ∧ (t < wn z z.p y ∨ wn z z.q y ≤ t)) ∨ (wn z z.q y ≤ wn z z.p y ∧ wn z z.q y ≤ t ∧ t < wn z z.p y))) := by
  rw [sm_of z t y hs h1 h2 a b]
  cases h : inB (wn z z.p y) (wn z z.q y) t
  · exact .inr ⟨rfl, (inB_not _ _ _).1 h⟩
  · exact .inl ⟨rfl, (inB_iff _ _ _).1 h⟩

/-- The turns of a year lie four weeks apart. -/
theorem apart (z : Zn) (y : Int) (hz : May z) (hs : ¬ z.s = 0) (h1 : 1 ≤ y) (h2 : y ≤ 9999) :
    (z.p.m + 2 ≤ z.q.m ∧ wn z z.p y + 40320 ≤ wn z z.q y) ∨ (z.q.m + 2 ≤ z.p.m ∧ wn z z.q y + 40320 ≤ wn z z.p y) := by
  obtain ⟨op, oq, hm⟩ := may_on z hz hs
  rcases hm with h | h
  · exact .inl ⟨h, by have := wn_lt z y z.p z.q h1 h2 op oq h; omega⟩
  · exact .inr ⟨h, by have := wn_lt z y z.q z.p h1 h2 oq op h; omega⟩

/-- From the later turn of a year to the earlier one of the next year there are four weeks. -/
theorem over (z : Zn) (y : Int) (hz : May z) (s t : Tn) (h1 : 1 ≤ y) (h2 : y ≤ 9998) (hs : okB s = true) (ht : okB t = true) (h : s.m + 2 ≤ t.m) (h' : t.m ≤ s.m + 10) :
    wn z t y + 40320 ≤ wn z s (y + 1) := by
  obtain ⟨a1, a2, a3, a4⟩ := wn_bd z y t hz h1 (by omega) ht
  obtain ⟨b1, b2, b3, b4⟩ := wn_bd z (y + 1) s hz (by omega) (by omega) hs
  by_cases hm : t.m ≤ 11
  · have := wn_end z y t h1 (by omega) ht hm
    omega
  · obtain ⟨f, _, _⟩ := nth_in (y + 1) s (by omega) (by omega) hs
    have hk := (okB_iff s).1 hs
    have hk' := (okB_iff t).1 ht
    have g := Cal.ma_mono (y + 1) 2 s.m (by omega)
    have i := Cal.ma_succ (y + 1) 1 (by omega) (by omega) (by omega) (by omega)
    have j := Cal.dm_bd (y + 1) 1 (by omega) (by omega) (by omega) (by omega)
    have k := Cal.ma_one (y + 1)
    have l : ma (y + 1) (1 + 1) = ma (y + 1) 2 := rfl
    have e : wn z s (y + 1) + z.b = Greg.nthV (y + 1) s.m s.v (wk s.k) * 1440 + s.u := by unfold wn; omega
    omega

/-- Clocks are set at most once in four weeks. -/
theorem calm (z : Zn) (hz : May z) (a b c : Int) (ab : a < b) (bc : b < c) (ac : c ≤ a + 40000) (h1 : 576000 ≤ a) (h2 : c ≤ 5258879999) (h : sm z a ≠ sm z b) : sm z c = sm z b := by
  by_cases hs : z.s = 0
  · rw [sm_zero z a hs, sm_zero z b hs] at h
    exact absurd rfl h
  have hz' := hz
  unfold May at hz'
  obtain ⟨b0, b1, _⟩ := hz'
  have d1 := day_bd z a hz h1 (by omega)
  obtain ⟨y0, y1, y2, y3⟩ := Cal.yr_spec ((a + z.b) / 1440) d1.1 d1.2
  have d2 := day_bd z c hz (by omega) h2
  obtain ⟨x0, x1, x2, x3⟩ := Cal.yr_spec ((c + z.b) / 1440) d2.1 d2.2
  generalize hy : yr ((a + z.b) / 1440) = y at *
  generalize hx : yr ((c + z.b) / 1440) = x at *
  clear hy hx
  have sA := sm_tell z a y hs y0 y1 (by omega) (by omega)
  have pA := apart z y hz hs y0 y1
  have yl := Cal.ya_lt y (y + 1) (by omega)
  by_cases hc : c + z.b < ya (y + 1) * 1440 + 1440
  · have sB := sm_tell z b y hs y0 y1 (by omega) (by omega)
    have sC := sm_tell z c y hs y0 y1 (by omega) (by omega)
    rcases sA with ⟨eA, sA⟩ | ⟨eA, sA⟩ <;> rcases sB with ⟨eB, sB⟩ | ⟨eB, sB⟩ <;> rcases sC with ⟨eC, sC⟩ | ⟨eC, sC⟩ <;> rw [eA, eB] at h <;> rw [eB, eC] <;> first | exact absurd rfl h | (exfalso; omega)
  · have xy : x = y + 1 := by
      have m1 : y + 1 ≤ x := by
        by_cases m : y + 1 ≤ x
        · exact m
        · have := Cal.ya_mono (x + 1) (y + 1) (by omega); omega
      have m2 : x ≤ y + 1 := by
        by_cases m : x ≤ y + 1
        · exact m
        · have := Cal.ya_mono (y + 1 + 1) x (by omega)
          have := Cal.ya_lt (y + 1) (y + 1 + 1) (by omega)
          omega
      omega
    subst xy
    have sC := sm_tell z c (y + 1) hs x0 x1 (by omega) (by omega)
    have pC := apart z (y + 1) hz hs x0 x1
    obtain ⟨op, oq, _⟩ := may_on z hz hs
    have tm : (z.p.m + 2 ≤ z.q.m → z.q.m ≤ z.p.m + 10) ∧ (z.q.m + 2 ≤ z.p.m → z.p.m ≤ z.q.m + 10) := by
      have := (okB_iff z.p).1 op
      have := (okB_iff z.q).1 oq
      have := (apB_iff z).1 (by unfold May at hz; rcases hz with ⟨_, _, _, _, ⟨e, _⟩ | ⟨_, _, _, e⟩⟩; exact absurd e hs; exact e)
      omega
    have o1 : z.p.m + 2 ≤ z.q.m → wn z z.q y + 40320 ≤ wn z z.p (y + 1) := fun e => over z y hz z.p z.q y0 (by omega) op oq e (tm.1 e)
    have o2 : z.q.m + 2 ≤ z.p.m → wn z z.p y + 40320 ≤ wn z z.q (y + 1) := fun e => over z y hz z.q z.p y0 (by omega) oq op e (tm.2 e)
    obtain ⟨p1, p2, p3, p4⟩ := wn_bd z y z.p hz y0 y1 op
    obtain ⟨q1, q2, q3, q4⟩ := wn_bd z y z.q hz y0 y1 oq
    obtain ⟨r1, r2, r3, r4⟩ := wn_bd z (y + 1) z.p hz x0 x1 op
    obtain ⟨s1, s2, s3, s4⟩ := wn_bd z (y + 1) z.q hz x0 x1 oq
    clear hz d1 d2 p1 p2 q1 q2 r1 r2 s1 s2 tm op oq
    by_cases hb : b + z.b < ya (y + 1) * 1440 + 1440
    · have sB := sm_tell z b y hs y0 y1 (by omega) (by omega)
      rcases sA with ⟨eA, sA⟩ | ⟨eA, sA⟩ <;> rcases sB with ⟨eB, sB⟩ | ⟨eB, sB⟩ <;> rcases sC with ⟨eC, sC⟩ | ⟨eC, sC⟩ <;> rw [eA, eB] at h <;> rw [eB, eC] <;> first | exact absurd rfl h | (exfalso; rcases pA with ⟨m, pA⟩ | ⟨m, pA⟩ <;> rcases pC with ⟨m', pC⟩ | ⟨m', pC⟩ <;> first | (have := o1 m; omega) | (have := o2 m; omega) | omega)
    · have sB := sm_tell z b (y + 1) hs x0 x1 (by omega) (by omega)
      rcases sA with ⟨eA, sA⟩ | ⟨eA, sA⟩ <;> rcases sB with ⟨eB, sB⟩ | ⟨eB, sB⟩ <;> rcases sC with ⟨eC, sC⟩ | ⟨eC, sC⟩ <;> rw [eA, eB] at h <;> rw [eB, eC] <;> first | exact absurd rfl h | (exfalso; rcases pA with ⟨m, pA⟩ | ⟨m, pA⟩ <;> rcases pC with ⟨m', pC⟩ | ⟨m', pC⟩ <;> first | (have := o1 m; omega) | (have := o2 m; omega) | omega)

/-- The moment of a minute, looked for in so many steps. -/
def mo (z : Zn) : Nat → Int → Int
  | 0, _ => 0
  | k + 1, n => match ins z n with
    | v :: _ => v
    | [] => mo z k (n + 1)

/-- The moment of a minute. -/
def mv (z : Zn) (n : Int) : Int := mo z 122 n

theorem ins_none (z : Zn) (n : Int) : ins z n = [] ↔ sm z (n - z.b - z.s) = false ∧ sm z (n - z.b) = true := by
  unfold ins
  cases sm z (n - z.b - z.s) <;> cases sm z (n - z.b) <;> simp

theorem ins_early (z : Zn) (n : Int) (h : sm z (n - z.b - z.s) = true) : ∃ r, ins z n = (n - z.b - z.s) :: r := by
  unfold ins
  rw [if_pos h]
  exact ⟨_, rfl⟩

theorem ins_late (z : Zn) (n : Int) (h : sm z (n - z.b - z.s) = false) (h' : sm z (n - z.b) = false) : ins z n = [n - z.b] := by
  unfold ins
  rw [h, h']
  simp

theorem mo_some (z : Zn) (k : Nat) (n v : Int) (r : List Int) (h : ins z n = v :: r) : mo z (k + 1) n = v := by
  unfold mo; rw [h]

theorem mo_none (z : Zn) (k : Nat) (n : Int) (h : ins z n = []) : mo z (k + 1) n = mo z k (n + 1) := by
  rw [mo, h]

/-- If j minutes are not told and the next one is, the moment is that one's. -/
theorem mo_at (z : Zn) (j : Nat) : ∀ (k : Nat) (n v : Int) (r : List Int), j < k → (∀ i : Int, n ≤ i → i < n + j → ins z i = []) → ins z (n + j) = v :: r → mo z k n = v := by
  induction j with
  | zero =>
    intro k n v r hk _ h
    obtain ⟨k, rfl⟩ : ∃ q, k = q + 1 := ⟨k - 1, by omega⟩
    exact mo_some z k n v r (by simpa using h)
  | succ j ih =>
    intro k n v r hk h0 h
    obtain ⟨k, rfl⟩ : ∃ q, k = q + 1 := ⟨k - 1, by omega⟩
    rw [mo_none z k n (h0 n (by omega) (by omega))]
    refine ih k (n + 1) v r (by omega) (fun i i0 i1 => h0 i (by omega) (by omega)) ?_
    rw [← h, show n + 1 + (j : Int) = n + ((j + 1 : Nat) : Int) by omega]

/-- A first place at which a bool is true. -/
theorem first_true (f : Int → Bool) (a : Int) (k : Nat) (h0 : f a = false) (h1 : f (a + k) = true) : ∃ t, a < t ∧ t ≤ a + k ∧ f t = true ∧ ∀ i, a ≤ i → i < t → f i = false := by
  have go : ∀ q : Nat, (∀ i, a ≤ i → i ≤ a + q → f i = false) ∨ ∃ t, a < t ∧ t ≤ a + q ∧ f t = true ∧ ∀ i, a ≤ i → i < t → f i = false := by
    intro q
    induction q with
    | zero => exact .inl (fun i i0 i1 => by rw [show i = a by omega]; exact h0)
    | succ q iq =>
      rcases iq with g | ⟨t, t0, t1, t2, t3⟩
      · cases hf : f (a + (q + 1 : Nat))
        · refine .inl (fun i i0 i1 => ?_)
          by_cases e : i ≤ a + q
          · exact g i i0 e
          · rw [show i = a + (q + 1 : Nat) by omega]; exact hf
        · exact .inr ⟨_, by omega, by omega, hf, fun i i0 i1 => g i i0 (by omega)⟩
      · exact .inr ⟨t, t0, by omega, t2, t3⟩
  rcases go k with g | g
  · rw [g _ (by omega) (by omega)] at h1
    cases h1
  · exact g

/-- A minute that is told, the early way. -/
theorem mv_early (z : Zn) (n : Int) (h : sm z (n - z.b - z.s) = true) : mv z n = n - z.b - z.s := by
  obtain ⟨r, e⟩ := ins_early z n h
  exact mo_some z 121 n _ r e

theorem mv_late (z : Zn) (n : Int) (h : sm z (n - z.b - z.s) = false) (h' : sm z (n - z.b) = false) : mv z n = n - z.b :=
  mo_some z 121 n _ [] (ins_late z n h h')

/-- A minute that is not told: clocks are set on between. -/
theorem mv_skip (z : Zn) (hz : May z) (n : Int) (h1 : 578879 ≤ n) (h2 : n ≤ 5258867039) (h : sm z (n - z.b - z.s) = false) (h' : sm z (n - z.b) = true) :
    ∃ t, n - z.b - z.s < t ∧ t ≤ n - z.b ∧ sm z (t - 1) = false ∧ sm z t = true ∧ (∀ i, n ≤ i → i < t + z.b + z.s → ins z i = []) ∧ (∃ r, ins z (t + z.b + z.s) = t :: r) ∧ mv z n = t := by
  have hz' := hz
  unfold May at hz'
  obtain ⟨b0, b1, s0, s1, _⟩ := hz'
  obtain ⟨k, hk⟩ : ∃ k : Nat, (k : Int) = z.s := ⟨z.s.toNat, by omega⟩
  obtain ⟨t, t0, t1, t2, t3⟩ := first_true (sm z) (n - z.b - z.s) k h (by rw [hk, show n - z.b - z.s + z.s = n - z.b by omega]; exact h')
  have e0 : ∀ i, n ≤ i → i < t + z.b + z.s → ins z i = [] := by
    intro i i0 i1
    rw [ins_none]
    refine ⟨t3 _ (by omega) (by omega), ?_⟩
    by_cases e : i - z.b = t
    · rw [e]; exact t2
    · rw [calm z hz (t - 1) t (i - z.b) (by omega) (by omega) (by omega) (by omega) (by omega) (by rw [t3 (t - 1) (by omega) (by omega), t2]; simp)]
      exact t2
  have e1 : ∃ r, ins z (t + z.b + z.s) = t :: r := by
    have := ins_early z (t + z.b + z.s) (by rw [show t + z.b + z.s - z.b - z.s = t by omega]; exact t2)
    rwa [show t + z.b + z.s - z.b - z.s = t by omega] at this
  obtain ⟨r, e1'⟩ := e1
  obtain ⟨j, hj⟩ : ∃ j : Nat, (j : Int) = t + z.b + z.s - n := ⟨(t + z.b + z.s - n).toNat, by omega⟩
  refine ⟨t, t0, by omega, t3 _ (by omega) (by omega), t2, e0, ⟨r, e1'⟩, ?_⟩
  exact mo_at z j 122 n t r (by omega) (fun i i0 i1 => e0 i i0 (by omega)) (by rw [show n + (j : Int) = t + z.b + z.s by omega]; exact e1')

/-- The three ways of a minute. -/
theorem mv_ways (z : Zn) (hz : May z) (n : Int) (h1 : 578879 ≤ n) (h2 : n ≤ 5258867039) :
    (sm z (n - z.b - z.s) = true ∧ mv z n = n - z.b - z.s) ∨ (sm z (n - z.b - z.s) = false ∧ sm z (n - z.b) = false ∧ mv z n = n - z.b) ∨
    (sm z (n - z.b - z.s) = false ∧ sm z (n - z.b) = true ∧ n - z.b - z.s < mv z n ∧ mv z n ≤ n - z.b ∧ sm z (mv z n - 1) = false ∧ sm z (mv z n) = true) := by
  cases h : sm z (n - z.b - z.s)
  · cases h' : sm z (n - z.b)
    · exact .inr (.inl ⟨rfl, rfl, mv_late z n h h'⟩)
    · obtain ⟨t, t0, t1, t2, t3, _, _, rfl⟩ := mv_skip z hz n h1 h2 h h'
      exact .inr (.inr ⟨rfl, rfl, t0, t1, t2, t3⟩)
  · exact .inl ⟨rfl, mv_early z n h⟩

/-- At a minute's moment clocks tell it; where none does, the first one behind it that they tell. -/
theorem mv_told (z : Zn) (hz : May z) (n : Int) (h1 : 578879 ≤ n) (h2 : n ≤ 5258867039) :
    ((∃ r, ins z n = mv z n :: r) ∧ td z (mv z n) = n) ∨ (ins z n = [] ∧ n < td z (mv z n) ∧ td z (mv z n) ≤ n + z.s ∧ td z (mv z n - 1) < n) := by
  rcases mv_ways z hz n h1 h2 with ⟨a, b⟩ | ⟨a, c, b⟩ | ⟨a, c, d, e, f, g⟩
  · left
    rw [b]
    refine ⟨ins_early z n a, ?_⟩
    unfold td; rw [if_pos a]; omega
  · left
    rw [b]
    refine ⟨⟨[], ins_late z n a c⟩, ?_⟩
    unfold td; rw [c]; simp
  · right
    refine ⟨(ins_none z n).2 ⟨a, c⟩, ?_⟩
    unfold td; rw [if_pos g, f]; simp; omega

/-- The next minute's moment is not earlier, and not later than by one and the shift. -/
theorem mv_next (z : Zn) (hz : May z) (n : Int) (h1 : 578880 ≤ n) (h2 : n ≤ 5258867039) : mv z (n - 1) ≤ mv z n ∧ mv z n - mv z (n - 1) ≤ 1 + z.s := by
  have hz' := hz
  unfold May at hz'
  obtain ⟨b0, b1, s0, s1, _⟩ := hz'
  have C := fun (a b c : Int) (ab : a < b) (bc : b < c) (ac : c ≤ a + 1000) (k1 : n - 1500 ≤ a) (k2 : c ≤ n + 1500) (p : sm z a = false) (q : sm z b = true) => (calm z hz a b c ab bc (by omega) (by omega) (by omega) (by rw [p, q]; simp)).trans q
  rcases mv_ways z hz (n - 1) (by omega) (by omega) with ⟨a, b⟩ | ⟨a, c, b⟩ | ⟨a, c, d, e, f, g⟩
  · rcases mv_ways z hz n (by omega) h2 with ⟨a', b'⟩ | ⟨a', c', b'⟩ | ⟨a', c', d', e', f', g'⟩ <;> omega
  · rcases mv_ways z hz n (by omega) h2 with ⟨a', b'⟩ | ⟨a', c', b'⟩ | ⟨a', c', d', e', f', g'⟩
    · exfalso
      by_cases hs : z.s = 0
      · rw [sm_zero z _ hs] at a'; cases a'
      · by_cases h3 : z.s = 1
        · rw [show n - z.b - z.s = n - 1 - z.b by omega, c] at a'; cases a'
        · have := C (n - 1 - z.b - z.s) (n - z.b - z.s) (n - 1 - z.b) (by omega) (by omega) (by omega) (by omega) (by omega) a a'
          rw [c] at this; cases this
    · omega
    · have : mv z n = n - z.b := by
        by_cases k : mv z n = n - z.b
        · exact k
        · exfalso
          by_cases k' : mv z n = n - 1 - z.b
          · rw [k', c] at g'; cases g'
          · have := C (mv z n - 1) (mv z n) (n - 1 - z.b) (by omega) (by omega) (by omega) (by omega) (by omega) f' g'
            rw [c] at this; cases this
      omega
  · rcases mv_ways z hz n (by omega) h2 with ⟨a', b'⟩ | ⟨a', c', b'⟩ | ⟨a', c', d', e', f', g'⟩
    · have : mv z (n - 1) = n - z.b - z.s := by
        by_cases k : mv z (n - 1) ≤ n - z.b - z.s
        · omega
        · exfalso
          by_cases k' : mv z (n - 1) - 1 = n - z.b - z.s
          · rw [k', a'] at f; cases f
          · have := C (n - 1 - z.b - z.s) (n - z.b - z.s) (mv z (n - 1) - 1) (by omega) (by omega) (by omega) (by omega) (by omega) a a'
            rw [f] at this; cases this
      omega
    · exfalso
      have := C (mv z (n - 1) - 1) (mv z (n - 1)) (n - z.b) (by omega) (by omega) (by omega) (by omega) (by omega) f g
      rw [c'] at this; cases this
    · have : mv z (n - 1) = mv z n := by
        by_cases k : mv z (n - 1) < mv z n
        · exfalso
          by_cases k' : mv z n - 1 = mv z (n - 1)
          · rw [k', g] at f'; cases f'
          · have := C (mv z (n - 1) - 1) (mv z (n - 1)) (mv z n - 1) (by omega) (by omega) (by omega) (by omega) (by omega) f g
            rw [f'] at this; cases this
        · by_cases k2 : mv z n < mv z (n - 1)
          · exfalso
            by_cases k' : mv z (n - 1) - 1 = mv z n
            · rw [k', g'] at f; cases f
            · have := C (mv z n - 1) (mv z n) (mv z (n - 1) - 1) (by omega) (by omega) (by omega) (by omega) (by omega) f' g'
              rw [f] at this; cases this
          · omega
      omega

theorem mv_bd (z : Zn) (hz : May z) (n : Int) (h1 : 578879 ≤ n) (h2 : n ≤ 5258867039) : n - 960 ≤ mv z n ∧ mv z n ≤ n + 720 := by
  have hz' := hz
  unfold May at hz'
  rcases mv_ways z hz n h1 h2 with ⟨a, b⟩ | ⟨a, c, b⟩ | ⟨a, c, d, e, f, g⟩ <;> omega

/-- Where minutes are not told, one is soon told behind them. -/
theorem told_soon (z : Zn) (hz : May z) (n : Int) (h1 : 578879 ≤ n) (h2 : n ≤ 5258867039) : ∃ j : Nat, (j : Int) ≤ z.s ∧ (∀ i : Nat, i < j → ins z (n + i) = []) ∧ ∃ r, ins z (n + j) = mv z n :: r := by
  have hz' := hz
  unfold May at hz'
  obtain ⟨b0, b1, s0, s1, _⟩ := hz'
  cases h : sm z (n - z.b - z.s)
  · cases h' : sm z (n - z.b)
    · refine ⟨0, by omega, fun i hi => absurd hi (by omega), [], ?_⟩
      rw [mv_late z n h h', show n + ((0 : Nat) : Int) = n by omega]
      exact ins_late z n h h'
    · obtain ⟨t, t0, t1, t2, t3, t4, ⟨r, t5⟩, t6⟩ := mv_skip z hz n h1 h2 h h'
      refine ⟨(t + z.b + z.s - n).toNat, by omega, fun i hi => t4 _ (by omega) (by omega), r, ?_⟩
      rw [t6, show n + ((t + z.b + z.s - n).toNat : Int) = t + z.b + z.s by omega]
      exact t5
  · obtain ⟨r, e⟩ := ins_early z n h
    refine ⟨0, by omega, fun i hi => absurd hi (by omega), r, ?_⟩
    rw [mv_early z n h, show n + ((0 : Nat) : Int) = n by omega]
    exact e

/-- The error of a minute, or 0; its moment, or 0. -/
def wE (z : Zn) (d m : Int) : Int := if ck z = 0 then (if 402 ≤ d ∧ d ≤ 3651990 ∧ 0 ≤ m ∧ m ≤ 1439 then 0 else 140) else ck z

def wV (z : Zn) (d m : Int) : Int := if wE z d m = 0 then mv z (d * 1440 + m) else 0

theorem wE_ok (z : Zn) (d m : Int) : wE z d m = 0 ↔ May z ∧ 402 ≤ d ∧ d ≤ 3651990 ∧ 0 ≤ m ∧ m ≤ 1439 := by
  unfold wE
  rw [← ck_may]
  by_cases h : ck z = 0
  · rw [if_pos h]; split <;> omega
  · rw [if_neg h]; omega

end Go.Proofs.YtmlnlkfdbbnkbaaGreatDoor.Win

/- What Moment answers, by the program. Conditions: the table of months lies where the program lays it; the numbers are ints, as each theorem says. -/
namespace Go.Proofs.YtmlnlkfdbbnkbaaGreatDoor.Window
set_option maxRecDepth 100000
set_option maxRecDepth 100000
open Go.ChangeShapes Go.WideShapes Go.ChangeAt Go.RowKit
open Go.Proofs.YtmlnlkfdbbnkbaaGreatDoor.Divs Go.Proofs.YtmlnlkfdbbnkbaaGreatDoor.Grow
open Go.Proofs.YtmlnlkfdbbnkbaaGreatDoor.Greg (Laid)
open Go.Proofs.YtmlnlkfdbbnkbaaGreatDoor.Zo Go.Proofs.YtmlnlkfdbbnkbaaGreatDoor.Zone Go.Proofs.YtmlnlkfdbbnkbaaGreatDoor.Win

/-- Instants of a minute that is told: the first of them. -/
theorem inst_first (z : Zn) (x v : Int) (r : List Int) (w : World) (hL : Laid w) (hz : May z) (x0 : 577440 ≤ x) (x1 : x ≤ 5258878559) (h : ins z x = v :: r) :
    Calls Tryz.prog 20 #[.agg (zc z), .int .i64 (x / 1440), .int .i64 (x % 1440)] w fun e w' => ∃ g len cap, e = .returned (.tuple #[.slice (some ⟨g, 0, none⟩) (len + 1) cap, .int .i64 0]) ∧ w'.cell? ⟨g, 0, none⟩ = some (.int .i64 v) ∧ Later w w' ∧ len ≤ 10 := by
  have hE : iE z (x / 1440) (x % 1440) = 0 := (iE_ok _ _ _).2 ⟨hz, by omega, by omega, by omega, by omega⟩
  refine (instants_any z (x / 1440) (x % 1440) w hL).mono ?_
  rintro e w' ⟨u, rfl, hs, hg⟩
  have hI : iL z (x / 1440) (x % 1440) = v :: r := by
    unfold iL
    rw [if_pos hE, show x / 1440 * 1440 + x % 1440 = x by omega, h]
  rw [hI] at hs
  have hr : r.length ≤ 10 := by
    have : (ins z x).length ≤ 2 := by unfold ins; split <;> split <;> simp
    rw [h] at this
    simp at this
    omega
  rcases hs with ⟨hs, _⟩ | ⟨g, cap, rfl, hc⟩
  · cases hs
  · rw [hE]
    exact ⟨g, r.length, cap, rfl, hc 0 v rfl, hg, hr⟩

theorem inst_none (z : Zn) (x : Int) (w : World) (hL : Laid w) (hz : May z) (x0 : 577440 ≤ x) (x1 : x ≤ 5258878559) (h : ins z x = []) :
    Calls Tryz.prog 20 #[.agg (zc z), .int .i64 (x / 1440), .int .i64 (x % 1440)] w fun e w' => ∃ a cap, e = .returned (.tuple #[.slice a 0 cap, .int .i64 0]) ∧ Later w w' := by
  have hE : iE z (x / 1440) (x % 1440) = 0 := (iE_ok _ _ _).2 ⟨hz, by omega, by omega, by omega, by omega⟩
  refine (instants_any z (x / 1440) (x % 1440) w hL).mono ?_
  rintro e w' ⟨u, rfl, hs, hg⟩
  have hI : iL z (x / 1440) (x % 1440) = [] := by
    unfold iL
    rw [if_pos hE, show x / 1440 * 1440 + x % 1440 = x by omega, h]
  rw [hI] at hs
  rw [hE]
  rcases hs with ⟨_, rfl⟩ | ⟨g, cap, rfl, hc⟩
  · exact ⟨none, 0, rfl, hg⟩
  · exact ⟨_, cap, rfl, hg⟩

def TRel (n : Int) (j : Nat) (w : World) (x : Value) (wr : World) : Prop := ∃ i : Nat, i ≤ j ∧ x = .int .i64 (n + i) ∧ Later w wr

set_option maxHeartbeats 1000000 in
theorem first_any (z : Zn) (d m : Int) (w : World) (hL : Laid w) (hz : May z) (d0 : 402 ≤ d) (d1 : d ≤ 3651990) (m0 : 0 ≤ m) (m1 : m ≤ 1439) :
    Calls Tryz.prog 34 #[.agg (zc z), .int .i64 d, .int .i64 m] w fun e w' => e = .returned (.int .i64 (mv z (d * 1440 + m))) ∧ Later w w' := by
  obtain ⟨j, hj, hn, r, hr⟩ := told_soon z hz (d * 1440 + m) (by omega) (by omega)
  have hz' := hz
  unfold May at hz'
  obtain ⟨_, _, s0, s1, _⟩ := hz'
  have HF := Lib.hid (fun W hW => inst_first z (d * 1440 + m + j) (mv z (d * 1440 + m)) r W hW hz (by omega) (by omega) hr)
  have HX := Lib.hid (fun (i : Nat) (hi : i < j) W hW => inst_none z (d * 1440 + m + i) W hW hz (by omega) (by omega) (hn i hi))
  have HN := Lib.hid (Zat.new w z)
  have HW := Lib.hid ((Later.refl w).alloc (zc z) 28)
  have HL := Lib.hid (hL.grown HW.out)
  clear hL hz hn hr s0 
  have hj' : (j : Int) ≤ 120 := by omega
  clear hj s1
  generalize mv z (d * 1440 + m) = v at *
  unfold zc
  go_enter Tryz.func34, Tryz.ntmps34
  go_wp2_with fail
  go_loopw [7] (fun x wr => TRel (d * 1440 + m) j (w.alloc (.cells (zc z) 28)) x wr) (fun x _ => (d * 1440 + m + j - intOf x).toNat)
  case atStart => exact ⟨0, by omega, by simp, Later.refl _⟩
  case round =>
    obtain ⟨i, hi, rfl, hg⟩ := hrel
    obtain ⟨k0, k1, k2, k3, k4, k5, k6, k7, k8, k9⟩ := HN.out.later hg
    have HG := Lib.hid hg
    have HL1 := Lib.hid (HL.out.grown hg)
    clear hg
    by_cases c : i = j
    · subst c
      have F := Lib.hid (HF.out _ HL1.out)
      go_wp2_with fail
      refine F.out.mono ?_
      rintro e w1 ⟨g, len, cap, rfl, hc, hg1, hl⟩
      have HG1 := Lib.hid hg1
      clear k0 k1 k2 k3 k4 k5 k6 k7 k8 k9 hg1
      go_wp2_with fail
      go_ret
      exact ⟨rfl, gtrans HW.out (gtrans HG.out HG1.out)⟩
    · have F := Lib.hid (HX.out i (by omega) _ HL1.out)
      go_wp2_with fail
      refine F.out.mono ?_
      rintro e w1 ⟨a, cap, rfl, hg1⟩
      have HG1 := Lib.hid (gtrans HG.out hg1)
      clear k0 k1 k2 k3 k4 k5 k6 k7 k8 k9 hg1
      go_wp2_with fail
      go_roundw
      case rel => exact ⟨i + 1, by omega, by simp; omega, HG1.out⟩
      case measure => simp [intOf]; omega

end Go.Proofs.YtmlnlkfdbbnkbaaGreatDoor.Window

/- The document's instants of a minute, and whether two rows of numbers are the same. Conditions: the zone may be, the day and the minute may be asked, as each theorem says; the rows are of at most two numbers. -/
namespace Go.Proofs.YtmlnlkfdbbnkbaaGreatDoor.Zone
set_option maxRecDepth 100000
open Go.ChangeShapes Go.WideShapes Go.ChangeAt Go.RowKit
open Go.Proofs.YtmlnlkfdbbnkbaaGreatDoor.Divs Go.Proofs.YtmlnlkfdbbnkbaaGreatDoor.Grow
open Go.Proofs.YtmlnlkfdbbnkbaaGreatDoor.Zo

theorem td_early (z : Zn) (n : Int) (hs : 0 < z.s) : (td z (n - z.b - z.s) == n) = sm z (n - z.b - z.s) := by
  rcases td_cases z (n - z.b - z.s) with ⟨h, e⟩ | ⟨h, e⟩
  · rw [h, e]; simp; omega
  · rw [h, e]; simp; omega

theorem td_late (z : Zn) (n : Int) : (td z (n - z.b) == n) = !sm z (n - z.b) := by
  rcases td_cases z (n - z.b) with ⟨h, e⟩ | ⟨h, e⟩
  · have hs : ¬ z.s = 0 := by
      intro h0
      rw [sm_zero z _ h0] at h
      exact absurd h (by simp)
    rw [h, e]; simp; omega
  · rw [h, e]; simp

set_option maxHeartbeats 2000000 in
theorem rinstants_any (z : Zn) (d m : Int) (w : World) (hz : May z) (d0 : 401 ≤ d) (d1 : d ≤ 3651998) (m0 : 0 ≤ m) (m1 : m ≤ 1439) : Calls Tryz.prog 36 #[.agg (zc z), .int .i64 d, .int .i64 m] w fun e w' => ∃ v, e = .returned v ∧ Sl w' v (ins z (d * 1440 + m)) ∧ Later w w' := by
  have hz' := hz
  unfold May at hz'
  obtain ⟨b0, b1, s0, s1, _⟩ := hz'
  have S1 := Lib.hid (fun W => rtold_any z (d * 1440 + m - z.b - z.s) W hz (by omega) (by omega))
  have S2 := Lib.hid (fun W => rtold_any z (d * 1440 + m - z.b) W hz (by omega) (by omega))
  have HN := Lib.hid (Zat.new w z)
  have HW := Lib.hid ((Later.refl w).alloc (zc z) 28)
  obtain ⟨i0, hi, hz0, hz1, hz2⟩ := info_parts info_int
  have HI := Lib.hid hi
  have HZ0 := Lib.hid hz0
  have HZ1 := Lib.hid hz1
  have HZ2 := Lib.hid hz2
  clear hi hz0 hz1 hz2 hz
  have t2 := td_late z (d * 1440 + m)
  unfold ins
  by_cases hs : 0 < z.s
  · have t1 := td_early z (d * 1440 + m) hs
    have t0 : decide (0 < z.s) = true := by simpa using hs
    cases p : sm z (d * 1440 + m - z.b - z.s) <;> cases q : sm z (d * 1440 + m - z.b)
    all_goals
      rw [p] at t1
      rw [q] at t2
      clear p q
    · unfold zc
      go_enter Tryz.func36, Tryz.ntmps36
      go_wp2_with fail
      refine (S1.out _).mono ?_
      rintro e w2 ⟨rfl, hg2⟩
      have HL2 : Hid (Later (w.alloc (.cells (zc z) 28)) w2) := Lib.hid hg2
      obtain ⟨c0, c1, c2, c3, c4, c5, c6, c7, c8, c9⟩ := HN.out.later HL2.out
      clear hg2
      go_wp2_with fail
      refine (S2.out _).mono ?_
      rintro e w5 ⟨rfl, hg5⟩
      have HL5 : Hid (Later (w.alloc (.cells (zc z) 28)) w5) := Lib.hid (gtrans HL2.out hg5)
      clear c0 c1 c2 c3 c4 c5 c6 c7 c8 c9
      obtain ⟨c0, c1, c2, c3, c4, c5, c6, c7, c8, c9⟩ := HN.out.later HL5.out
      clear hg5
      have ON : SL w5 (w.alloc (.cells (zc z) 28)).heap.size (.slice none 0 0) [] := World.ownsRow_nil _ _ _ _
      go_wp2_with (at_builtin; go_loud (refine wpList_append_own _ rfl _ _ 22 rfl (w.alloc (.cells (zc z) 28)).heap.size 3 i0 (.int .i64 0) 1 8 Tryz.underlying22 HI.out HZ0.out HZ1.out HZ2.out rfl (by decide) _ _ _ rfl (World.ownsRow.alloc ON _) ⟨w5.heap.size, 0, none⟩ 1 1 [.int .i64 (d * 1440 + m - z.b)] rfl rfl (cell_one_new _ _ _) (by simp [Value.oneCell']) (by simp only [maxLen]; simp) (by simp) (by have := HL5.out.size; simp only [World.size_alloc] at this ⊢; omega) ?_); go_loud (intro v' w4 hown' hgrow _; obtain ⟨g', cap', rfl⟩ := ownsRow_succ hown'; have HL6 := Lib.hid (later_grown (xs := ([] : List Int)) (HL5.out.put _) (ON.later ((Later.refl _).put _)) hgrow); have HO6 : Hid (SL w4 (w.alloc (.cells (zc z) 28)).heap.size _ (([] : List Int) ++ [d * 1440 + m - z.b])) := Lib.hid (by unfold SL; rw [List.length_append, List.map_append]; exact hown'); clear hown' hgrow; obtain ⟨c0, c1, c2, c3, c4, c5, c6, c7, c8, c9⟩ := HN.out.later HL6.out))
      go_ret
      exact ⟨_, rfl, HO6.out.sl, gtrans HW.out HL6.out⟩
    · unfold zc
      go_enter Tryz.func36, Tryz.ntmps36
      go_wp2_with fail
      refine (S1.out _).mono ?_
      rintro e w2 ⟨rfl, hg2⟩
      have HL2 : Hid (Later (w.alloc (.cells (zc z) 28)) w2) := Lib.hid hg2
      obtain ⟨c0, c1, c2, c3, c4, c5, c6, c7, c8, c9⟩ := HN.out.later HL2.out
      clear hg2
      go_wp2_with fail
      refine (S2.out _).mono ?_
      rintro e w5 ⟨rfl, hg5⟩
      have HL5 : Hid (Later (w.alloc (.cells (zc z) 28)) w5) := Lib.hid (gtrans HL2.out hg5)
      clear c0 c1 c2 c3 c4 c5 c6 c7 c8 c9
      obtain ⟨c0, c1, c2, c3, c4, c5, c6, c7, c8, c9⟩ := HN.out.later HL5.out
      clear hg5
      go_wp2_with fail
      go_ret
      exact ⟨_, rfl, sl_nil _, gtrans HW.out HL5.out⟩
    · unfold zc
      go_enter Tryz.func36, Tryz.ntmps36
      go_wp2_with fail
      refine (S1.out _).mono ?_
      rintro e w2 ⟨rfl, hg2⟩
      have HL2 : Hid (Later (w.alloc (.cells (zc z) 28)) w2) := Lib.hid hg2
      obtain ⟨c0, c1, c2, c3, c4, c5, c6, c7, c8, c9⟩ := HN.out.later HL2.out
      clear hg2
      have ON : SL w2 (w.alloc (.cells (zc z) 28)).heap.size (.slice none 0 0) [] := World.ownsRow_nil _ _ _ _
      go_wp2_with (at_builtin; go_loud (refine wpList_append_own _ rfl _ _ 22 rfl (w.alloc (.cells (zc z) 28)).heap.size 3 i0 (.int .i64 0) 1 8 Tryz.underlying22 HI.out HZ0.out HZ1.out HZ2.out rfl (by decide) _ _ _ rfl (World.ownsRow.alloc ON _) ⟨w2.heap.size, 0, none⟩ 1 1 [.int .i64 (d * 1440 + m - z.b - z.s)] rfl rfl (cell_one_new _ _ _) (by simp [Value.oneCell']) (by simp only [maxLen]; simp) (by simp) (by have := HL2.out.size; simp only [World.size_alloc] at this ⊢; omega) ?_); go_loud (intro v' w4 hown' hgrow _; obtain ⟨g', cap', rfl⟩ := ownsRow_succ hown'; have HL3 := Lib.hid (later_grown (xs := ([] : List Int)) (HL2.out.put _) (ON.later ((Later.refl _).put _)) hgrow); have HO3 : Hid (SL w4 (w.alloc (.cells (zc z) 28)).heap.size _ (([] : List Int) ++ [d * 1440 + m - z.b - z.s])) := Lib.hid (by unfold SL; rw [List.length_append, List.map_append]; exact hown'); clear hown' hgrow; obtain ⟨c0, c1, c2, c3, c4, c5, c6, c7, c8, c9⟩ := HN.out.later HL3.out))
      refine (S2.out _).mono ?_
      rintro e w5 ⟨rfl, hg5⟩
      have HL5 : Hid (Later (w.alloc (.cells (zc z) 28)) w5) := Lib.hid (gtrans HL3.out hg5)
      clear c0 c1 c2 c3 c4 c5 c6 c7 c8 c9
      obtain ⟨c0, c1, c2, c3, c4, c5, c6, c7, c8, c9⟩ := HN.out.later HL5.out
      have HO5 := Lib.hid (HO3.out.later hg5)
      clear hg5
      go_wp2_with (at_builtin; go_loud (refine wpList_append_own _ rfl _ _ 22 rfl (w.alloc (.cells (zc z) 28)).heap.size 3 i0 (.int .i64 0) 1 8 Tryz.underlying22 HI.out HZ0.out HZ1.out HZ2.out rfl (by decide) _ _ _ rfl (World.ownsRow.alloc HO5.out _) ⟨w5.heap.size, 0, none⟩ 1 1 [.int .i64 (d * 1440 + m - z.b)] rfl rfl (cell_one_new _ _ _) (by simp [Value.oneCell']) (by simp only [maxLen]; simp) (by simp) (by have := HL5.out.size; simp only [World.size_alloc] at this ⊢; omega) ?_); go_loud (intro v' w4 hown' hgrow _; obtain ⟨g', cap', rfl⟩ := ownsRow_succ hown'; have HL6 := Lib.hid (later_grown (xs := ([] ++ [d * 1440 + m - z.b - z.s] : List Int)) (HL5.out.put _) (HO5.out.later ((Later.refl _).put _)) hgrow); have HO6 : Hid (SL w4 (w.alloc (.cells (zc z) 28)).heap.size _ (([] ++ [d * 1440 + m - z.b - z.s] : List Int) ++ [d * 1440 + m - z.b])) := Lib.hid (by unfold SL; rw [List.length_append, List.map_append]; exact hown'); clear hown' hgrow; obtain ⟨c0, c1, c2, c3, c4, c5, c6, c7, c8, c9⟩ := HN.out.later HL6.out))
      go_ret
      exact ⟨_, rfl, HO6.out.sl, gtrans HW.out HL6.out⟩
    · unfold zc
      go_enter Tryz.func36, Tryz.ntmps36
      go_wp2_with fail
      refine (S1.out _).mono ?_
      rintro e w2 ⟨rfl, hg2⟩
      have HL2 : Hid (Later (w.alloc (.cells (zc z) 28)) w2) := Lib.hid hg2
      obtain ⟨c0, c1, c2, c3, c4, c5, c6, c7, c8, c9⟩ := HN.out.later HL2.out
      clear hg2
      have ON : SL w2 (w.alloc (.cells (zc z) 28)).heap.size (.slice none 0 0) [] := World.ownsRow_nil _ _ _ _
      go_wp2_with (at_builtin; go_loud (refine wpList_append_own _ rfl _ _ 22 rfl (w.alloc (.cells (zc z) 28)).heap.size 3 i0 (.int .i64 0) 1 8 Tryz.underlying22 HI.out HZ0.out HZ1.out HZ2.out rfl (by decide) _ _ _ rfl (World.ownsRow.alloc ON _) ⟨w2.heap.size, 0, none⟩ 1 1 [.int .i64 (d * 1440 + m - z.b - z.s)] rfl rfl (cell_one_new _ _ _) (by simp [Value.oneCell']) (by simp only [maxLen]; simp) (by simp) (by have := HL2.out.size; simp only [World.size_alloc] at this ⊢; omega) ?_); go_loud (intro v' w4 hown' hgrow _; obtain ⟨g', cap', rfl⟩ := ownsRow_succ hown'; have HL3 := Lib.hid (later_grown (xs := ([] : List Int)) (HL2.out.put _) (ON.later ((Later.refl _).put _)) hgrow); have HO3 : Hid (SL w4 (w.alloc (.cells (zc z) 28)).heap.size _ (([] : List Int) ++ [d * 1440 + m - z.b - z.s])) := Lib.hid (by unfold SL; rw [List.length_append, List.map_append]; exact hown'); clear hown' hgrow; obtain ⟨c0, c1, c2, c3, c4, c5, c6, c7, c8, c9⟩ := HN.out.later HL3.out))
      refine (S2.out _).mono ?_
      rintro e w5 ⟨rfl, hg5⟩
      have HL5 : Hid (Later (w.alloc (.cells (zc z) 28)) w5) := Lib.hid (gtrans HL3.out hg5)
      clear c0 c1 c2 c3 c4 c5 c6 c7 c8 c9
      obtain ⟨c0, c1, c2, c3, c4, c5, c6, c7, c8, c9⟩ := HN.out.later HL5.out
      have HO5 := Lib.hid (HO3.out.later hg5)
      clear hg5
      go_wp2_with fail
      go_ret
      exact ⟨_, rfl, HO5.out.sl, gtrans HW.out HL5.out⟩
  · have t0 : decide (0 < z.s) = false := by simpa using hs
    rw [sm_zero z _ (by omega)] at t2
    rw [sm_zero z _ (by omega), sm_zero z _ (by omega)]
    clear hs
    unfold zc
    go_enter Tryz.func36, Tryz.ntmps36
    have HL2 := Lib.hid (Later.refl (w.alloc (.cells (zc z) 28)))
    go_wp2_with fail
    refine (S2.out _).mono ?_
    rintro e w5 ⟨rfl, hg5⟩
    have HL5 : Hid (Later (w.alloc (.cells (zc z) 28)) w5) := Lib.hid (gtrans HL2.out hg5)
    obtain ⟨c0, c1, c2, c3, c4, c5, c6, c7, c8, c9⟩ := HN.out.later HL5.out
    clear hg5
    have ON : SL w5 (w.alloc (.cells (zc z) 28)).heap.size (.slice none 0 0) [] := World.ownsRow_nil _ _ _ _
    go_wp2_with (at_builtin; go_loud (refine wpList_append_own _ rfl _ _ 22 rfl (w.alloc (.cells (zc z) 28)).heap.size 3 i0 (.int .i64 0) 1 8 Tryz.underlying22 HI.out HZ0.out HZ1.out HZ2.out rfl (by decide) _ _ _ rfl (World.ownsRow.alloc ON _) ⟨w5.heap.size, 0, none⟩ 1 1 [.int .i64 (d * 1440 + m - z.b)] rfl rfl (cell_one_new _ _ _) (by simp [Value.oneCell']) (by simp only [maxLen]; simp) (by simp) (by have := HL5.out.size; simp only [World.size_alloc] at this ⊢; omega) ?_); go_loud (intro v' w4 hown' hgrow _; obtain ⟨g', cap', rfl⟩ := ownsRow_succ hown'; have HL6 := Lib.hid (later_grown (xs := ([] : List Int)) (HL5.out.put _) (ON.later ((Later.refl _).put _)) hgrow); have HO6 : Hid (SL w4 (w.alloc (.cells (zc z) 28)).heap.size _ (([] : List Int) ++ [d * 1440 + m - z.b])) := Lib.hid (by unfold SL; rw [List.length_append, List.map_append]; exact hown'); clear hown' hgrow; obtain ⟨c0, c1, c2, c3, c4, c5, c6, c7, c8, c9⟩ := HN.out.later HL6.out))
    go_ret
    exact ⟨_, rfl, HO6.out.sl, gtrans HW.out HL6.out⟩

end Go.Proofs.YtmlnlkfdbbnkbaaGreatDoor.Zone

/- What Moment answers, by the program and by the document. Conditions: the table of months lies where the program lays it; the numbers are ints, as each theorem says. -/
namespace Go.Proofs.YtmlnlkfdbbnkbaaGreatDoor.Window
set_option maxRecDepth 100000
set_option maxRecDepth 100000
open Go.ChangeShapes Go.WideShapes Go.ChangeAt Go.RowKit
open Go.Proofs.YtmlnlkfdbbnkbaaGreatDoor.Divs Go.Proofs.YtmlnlkfdbbnkbaaGreatDoor.Grow
open Go.Proofs.YtmlnlkfdbbnkbaaGreatDoor.Greg (Laid)
open Go.Proofs.YtmlnlkfdbbnkbaaGreatDoor.Zo Go.Proofs.YtmlnlkfdbbnkbaaGreatDoor.Zone Go.Proofs.YtmlnlkfdbbnkbaaGreatDoor.Win

theorem ret2 {a b c d : Int} (h1 : a = c) (h2 : b = d) : Ending.returned (.tuple #[.int .i64 a, .int .i64 b]) = .returned (.tuple #[.int .i64 c, .int .i64 d]) := by rw [h1, h2]

theorem asked_any (n : Int) (w : World) : Calls Tryz.prog 25 #[.int .i64 n] w fun e w' => e = .returned (.bool (wiB n 402 3651990)) ∧ w = w' := by
  by_cases h : 402 ≤ n
  · have t : decide (402 ≤ n) = true := by simpa using h
    have t' : decide (n ≥ 402) = true := by simpa using h
    have HV : Hid (wiB n 402 3651990 = decide (n ≤ 3651990)) := by
      have : wiB n 402 3651990 = decide (n ≤ 3651990) := by unfold wiB; rw [t]; rfl
      exact this
    clear h
    go_enter Tryz.func25, Tryz.ntmps25
    go_wp2
    go_ret
    exact ⟨retb HV.out.symm, rfl⟩
  · have t : decide (402 ≤ n) = false := by simpa using h
    have t' : decide (n ≥ 402) = false := by simpa using h
    have HV : Hid (wiB n 402 3651990 = false) := by
      have : wiB n 402 3651990 = false := by unfold wiB; rw [t]; rfl
      exact this
    clear h
    go_enter Tryz.func25, Tryz.ntmps25
    go_wp2
    go_ret
    exact ⟨retb HV.out.symm, rfl⟩

theorem rday_any (n : Int) (w : World) : Calls Tryz.prog 17 #[.int .i64 n] w fun e w' => e = .returned (.bool (wiB n 402 3651990)) ∧ w = w' := by
  by_cases h : 402 ≤ n
  · have t : decide (402 ≤ n) = true := by simpa using h
    have t' : decide (n ≥ 402) = true := by simpa using h
    have HV : Hid (wiB n 402 3651990 = decide (n ≤ 3651990)) := by
      have : wiB n 402 3651990 = decide (n ≤ 3651990) := by unfold wiB; rw [t]; rfl
      exact this
    clear h
    go_enter Tryz.func17, Tryz.ntmps17
    go_wp2
    go_ret
    exact ⟨retb HV.out.symm, rfl⟩
  · have t : decide (402 ≤ n) = false := by simpa using h
    have t' : decide (n ≥ 402) = false := by simpa using h
    have HV : Hid (wiB n 402 3651990 = false) := by
      have : wiB n 402 3651990 = false := by unfold wiB; rw [t]; rfl
      exact this
    clear h
    go_enter Tryz.func17, Tryz.ntmps17
    go_wp2
    go_ret
    exact ⟨retb HV.out.symm, rfl⟩

theorem moment_zone (z : Zn) (d m : Int) (w : World) (hL : Laid w) (h : ¬ ck z = 0) : Calls Tryz.prog 15 #[.agg (zc z), .int .i64 d, .int .i64 m] w fun e w' => e = .returned (.tuple #[.int .i64 (wV z d m), .int .i64 (wE z d m)]) ∧ Later w w' := by
  have hE : wE z d m = ck z := by unfold wE; rw [if_neg h]
  have HE := Lib.hid hE
  have HV := Lib.hid (show wV z d m = 0 by unfold wV; rw [if_neg (by rw [hE]; exact h)])
  have e0 : (ck z != 0) = true := by simpa using h
  clear h hE
  have C := Lib.hid (fun W => Zone.check_any z W)
  have K := Lib.hid (fun W => asked_any d W)
  have HN := Lib.hid (Zat.new w z)
  have HW := Lib.hid ((Later.refl w).alloc (zc z) 28)
  have HL := Lib.hid (hL.grown HW.out)
  clear hL
  unfold zc
  go_enter Tryz.func15, Tryz.ntmps15
  go_wp2_with fail
  refine (C.out _).mono ?_
  rintro e w1 ⟨rfl, hg1⟩
  have HG1 := Lib.hid hg1
  clear hg1
  go_wp2_with fail
  go_ret2
  exact ⟨ret2 HV.out.symm HE.out.symm, gtrans HW.out HG1.out⟩

theorem moment_day (z : Zn) (d m : Int) (w : World) (hL : Laid w) (h : ck z = 0) (hd : ¬ (402 ≤ d ∧ d ≤ 3651990)) : Calls Tryz.prog 15 #[.agg (zc z), .int .i64 d, .int .i64 m] w fun e w' => e = .returned (.tuple #[.int .i64 (wV z d m), .int .i64 (wE z d m)]) ∧ Later w w' := by
  have hE : wE z d m = 140 := by unfold wE; rw [if_pos h, if_neg (by omega)]
  have HE := Lib.hid hE
  have HV := Lib.hid (show wV z d m = 0 by unfold wV; rw [if_neg (by rw [hE]; omega)])
  have e0 : (ck z != 0) = false := by simpa using h
  have e1 := wiB_not d 402 3651990 hd
  clear h hE hd
  have C := Lib.hid (fun W => Zone.check_any z W)
  have K := Lib.hid (fun W => asked_any d W)
  have HN := Lib.hid (Zat.new w z)
  have HW := Lib.hid ((Later.refl w).alloc (zc z) 28)
  have HL := Lib.hid (hL.grown HW.out)
  clear hL
  unfold zc
  go_enter Tryz.func15, Tryz.ntmps15
  go_wp2_with fail
  refine (C.out _).mono ?_
  rintro e w1 ⟨rfl, hg1⟩
  have HG1 := Lib.hid hg1
  clear hg1
  go_wp2_with fail
  refine (K.out _).mono ?_
  rintro e w2 ⟨rfl, rfl⟩
  go_wp2_with fail
  go_ret2
  exact ⟨ret2 HV.out.symm HE.out.symm, gtrans HW.out HG1.out⟩

theorem moment_low (z : Zn) (d m : Int) (w : World) (hL : Laid w) (h : ck z = 0) (hd : 402 ≤ d ∧ d ≤ 3651990) (hm : m < 0) : Calls Tryz.prog 15 #[.agg (zc z), .int .i64 d, .int .i64 m] w fun e w' => e = .returned (.tuple #[.int .i64 (wV z d m), .int .i64 (wE z d m)]) ∧ Later w w' := by
  have hE : wE z d m = 140 := by unfold wE; rw [if_pos h, if_neg (by omega)]
  have HE := Lib.hid hE
  have HV := Lib.hid (show wV z d m = 0 by unfold wV; rw [if_neg (by rw [hE]; omega)])
  have e0 : (ck z != 0) = false := by simpa using h
  have e1 := (wiB_iff d 402 3651990).2 hd
  have e2 : decide (m < 0) = true := by simpa using hm
  clear h hE hd hm
  have C := Lib.hid (fun W => Zone.check_any z W)
  have K := Lib.hid (fun W => asked_any d W)
  have HN := Lib.hid (Zat.new w z)
  have HW := Lib.hid ((Later.refl w).alloc (zc z) 28)
  have HL := Lib.hid (hL.grown HW.out)
  clear hL
  unfold zc
  go_enter Tryz.func15, Tryz.ntmps15
  go_wp2_with fail
  refine (C.out _).mono ?_
  rintro e w1 ⟨rfl, hg1⟩
  have HG1 := Lib.hid hg1
  clear hg1
  go_wp2_with fail
  refine (K.out _).mono ?_
  rintro e w2 ⟨rfl, rfl⟩
  go_wp2_with fail
  go_ret2
  exact ⟨ret2 HV.out.symm HE.out.symm, gtrans HW.out HG1.out⟩

theorem moment_high (z : Zn) (d m : Int) (w : World) (hL : Laid w) (h : ck z = 0) (hd : 402 ≤ d ∧ d ≤ 3651990) (hm : 0 ≤ m) (hm2 : 1440 ≤ m) : Calls Tryz.prog 15 #[.agg (zc z), .int .i64 d, .int .i64 m] w fun e w' => e = .returned (.tuple #[.int .i64 (wV z d m), .int .i64 (wE z d m)]) ∧ Later w w' := by
  have hE : wE z d m = 140 := by unfold wE; rw [if_pos h, if_neg (by omega)]
  have HE := Lib.hid hE
  have HV := Lib.hid (show wV z d m = 0 by unfold wV; rw [if_neg (by rw [hE]; omega)])
  have e0 : (ck z != 0) = false := by simpa using h
  have e1 := (wiB_iff d 402 3651990).2 hd
  have e2 : decide (m < 0) = false := by simpa using hm
  have e3 : decide (m ≥ 1440) = true := by simpa using hm2
  clear h hE hd hm hm2
  have C := Lib.hid (fun W => Zone.check_any z W)
  have K := Lib.hid (fun W => asked_any d W)
  have HN := Lib.hid (Zat.new w z)
  have HW := Lib.hid ((Later.refl w).alloc (zc z) 28)
  have HL := Lib.hid (hL.grown HW.out)
  clear hL
  unfold zc
  go_enter Tryz.func15, Tryz.ntmps15
  go_wp2_with fail
  refine (C.out _).mono ?_
  rintro e w1 ⟨rfl, hg1⟩
  have HG1 := Lib.hid hg1
  clear hg1
  go_wp2_with fail
  refine (K.out _).mono ?_
  rintro e w2 ⟨rfl, rfl⟩
  go_wp2_with fail
  go_ret2
  exact ⟨ret2 HV.out.symm HE.out.symm, gtrans HW.out HG1.out⟩

theorem moment_yes (z : Zn) (d m : Int) (w : World) (hL : Laid w) (h : wE z d m = 0) : Calls Tryz.prog 15 #[.agg (zc z), .int .i64 d, .int .i64 m] w fun e w' => e = .returned (.tuple #[.int .i64 (wV z d m), .int .i64 (wE z d m)]) ∧ Later w w' := by
  obtain ⟨hz, d0, d1, m0, m1⟩ := (wE_ok z d m).1 h
  have HE := Lib.hid h
  have HV := Lib.hid (show wV z d m = mv z (d * 1440 + m) by unfold wV; rw [if_pos h])
  have e0 : (ck z != 0) = false := by simpa using (ck_may z).2 hz
  have e1 := (wiB_iff d 402 3651990).2 ⟨d0, d1⟩
  have e2 : decide (m < 0) = false := by simpa using m0
  have e3 : decide (m ≥ 1440) = false := by simp; omega
  have F := Lib.hid (fun W hW => first_any z d m W hW hz d0 d1 m0 m1)
  clear h hz d0 d1 m0 m1
  have C := Lib.hid (fun W => Zone.check_any z W)
  have K := Lib.hid (fun W => asked_any d W)
  have HN := Lib.hid (Zat.new w z)
  have HW := Lib.hid ((Later.refl w).alloc (zc z) 28)
  have HL := Lib.hid (hL.grown HW.out)
  clear hL
  generalize mv z (d * 1440 + m) = v at *
  unfold zc
  go_enter Tryz.func15, Tryz.ntmps15
  go_wp2_with fail
  refine (C.out _).mono ?_
  rintro e w1 ⟨rfl, hg1⟩
  have HG1 := Lib.hid hg1
  have HL1 := Lib.hid (HL.out.grown hg1)
  obtain ⟨k0, k1, k2, k3, k4, k5, k6, k7, k8, k9⟩ := HN.out.later hg1
  clear hg1
  go_wp2_with fail
  refine (K.out _).mono ?_
  rintro e w2 ⟨rfl, rfl⟩
  go_wp2_with fail
  refine (F.out _ HL1.out).mono ?_
  rintro e w3 ⟨rfl, hg3⟩
  have HG3 := Lib.hid hg3
  clear k0 k1 k2 k3 k4 k5 k6 k7 k8 k9 hg3
  go_wp2_with fail
  go_ret2
  exact ⟨ret2 HV.out.symm HE.out.symm, gtrans (gtrans HW.out HG1.out) HG3.out⟩

theorem moment_any (z : Zn) (d m : Int) (w : World) (hL : Laid w) : Calls Tryz.prog 15 #[.agg (zc z), .int .i64 d, .int .i64 m] w fun e w' => e = .returned (.tuple #[.int .i64 (wV z d m), .int .i64 (wE z d m)]) ∧ Later w w' := by
  by_cases h : ck z = 0
  · by_cases hd : 402 ≤ d ∧ d ≤ 3651990
    · by_cases hm : m < 0
      · exact moment_low z d m w hL h hd hm
      · by_cases hm2 : 1440 ≤ m
        · exact moment_high z d m w hL h hd (by omega) hm2
        · exact moment_yes z d m w hL ((wE_ok z d m).2 ⟨(ck_may z).1 h, hd.1, hd.2, by omega, by omega⟩)
    · exact moment_day z d m w hL h hd
  · exact moment_zone z d m w hL h

/-- The document's instants of a minute that is told, or not. -/
theorem rinst_first (z : Zn) (x v : Int) (r : List Int) (w : World) (hz : May z) (x0 : 577440 ≤ x) (x1 : x ≤ 5258878559) (h : ins z x = v :: r) :
    Calls Tryz.prog 36 #[.agg (zc z), .int .i64 (x / 1440), .int .i64 (x % 1440)] w fun e w' => ∃ g len cap, e = .returned (.slice (some ⟨g, 0, none⟩) (len + 1) cap) ∧ w'.cell? ⟨g, 0, none⟩ = some (.int .i64 v) ∧ Later w w' ∧ len ≤ 10 := by
  refine (rinstants_any z (x / 1440) (x % 1440) w hz (by omega) (by omega) (by omega) (by omega)).mono ?_
  rintro e w' ⟨u, rfl, hs, hg⟩
  rw [show x / 1440 * 1440 + x % 1440 = x by omega, h] at hs
  have hr : r.length ≤ 10 := by
    have : (ins z x).length ≤ 2 := by unfold ins; split <;> split <;> simp
    rw [h] at this
    simp at this
    omega
  rcases hs with ⟨hs, _⟩ | ⟨g, cap, rfl, hc⟩
  · cases hs
  · exact ⟨g, r.length, cap, rfl, hc 0 v rfl, hg, hr⟩

theorem rinst_none (z : Zn) (x : Int) (w : World) (hz : May z) (x0 : 577440 ≤ x) (x1 : x ≤ 5258878559) (h : ins z x = []) :
    Calls Tryz.prog 36 #[.agg (zc z), .int .i64 (x / 1440), .int .i64 (x % 1440)] w fun e w' => ∃ a cap, e = .returned (.slice a 0 cap) ∧ Later w w' := by
  refine (rinstants_any z (x / 1440) (x % 1440) w hz (by omega) (by omega) (by omega) (by omega)).mono ?_
  rintro e w' ⟨u, rfl, hs, hg⟩
  rw [show x / 1440 * 1440 + x % 1440 = x by omega, h] at hs
  rcases hs with ⟨_, rfl⟩ | ⟨g, cap, rfl, hc⟩
  · exact ⟨none, 0, rfl, hg⟩
  · exact ⟨_, cap, rfl, hg⟩

/-- Between two rounds: so many minutes on, and what was last told of them. -/
def RRel (v n : Int) (j : Nat) (w : World) (x y : Value) (wr : World) : Prop := ∃ i : Nat, i ≤ j ∧ x = .int .i64 (n + i) ∧ Later w wr ∧
  ((i < j ∧ ∃ a cap, y = .slice a 0 cap) ∨ (i = j ∧ ∃ g len cap, y = .slice (some ⟨g, 0, none⟩) (len + 1) cap ∧ wr.cell? ⟨g, 0, none⟩ = some (.int .i64 v) ∧ len ≤ 10))

set_option maxHeartbeats 1000000 in
theorem rmoment_at (z : Zn) (d m : Int) (w : World) (hz : May z) (d0 : 402 ≤ d) (d1 : d ≤ 3651990) (m0 : 0 ≤ m) (m1 : m ≤ 1439) :
    Calls Tryz.prog 18 #[.agg (zc z), .int .i64 d, .int .i64 m] w fun e w' => e = .returned (.int .i64 (mv z (d * 1440 + m))) ∧ Later w w' := by
  obtain ⟨j, hj, hn, r, hr⟩ := told_soon z hz (d * 1440 + m) (by omega) (by omega)
  have hz' := hz
  unfold May at hz'
  obtain ⟨_, _, s0, s1, _⟩ := hz'
  have HF := Lib.hid (fun W => rinst_first z (d * 1440 + m + j) (mv z (d * 1440 + m)) r W hz (by omega) (by omega) hr)
  have HX := Lib.hid (fun (i : Nat) (hi : i < j) W => rinst_none z (d * 1440 + m + i) W hz (by omega) (by omega) (hn i hi))
  have HN := Lib.hid (Zat.new w z)
  have HW := Lib.hid ((Later.refl w).alloc (zc z) 28)
  clear hz hn hr s0
  have hj' : (j : Int) ≤ 120 := by omega
  clear hj s1
  generalize mv z (d * 1440 + m) = v at *
  -- what is asked at the i-th minute
  have Q : Hid (∀ i : Nat, i ≤ j → ∀ W, Calls Tryz.prog 36 #[.agg (zc z), .int .i64 ((d * 1440 + m + i) / 1440), .int .i64 ((d * 1440 + m + i) % 1440)] W fun e w' => ∃ y, e = .returned y ∧ Later W w' ∧
      ((i < j ∧ ∃ a cap, y = .slice a 0 cap) ∨ (i = j ∧ ∃ g len cap, y = .slice (some ⟨g, 0, none⟩) (len + 1) cap ∧ w'.cell? ⟨g, 0, none⟩ = some (.int .i64 v) ∧ len ≤ 10))) := Lib.hid (fun i hi W => by
    by_cases c : i = j
    · subst c
      refine (HF.out W).mono ?_
      rintro e w' ⟨g, len, cap, rfl, hc, hg, hl⟩
      exact ⟨_, rfl, hg, .inr ⟨rfl, g, len, cap, rfl, hc, hl⟩⟩
    · refine (HX.out i (by omega) W).mono ?_
      rintro e w' ⟨a, cap, rfl, hg⟩
      exact ⟨_, rfl, hg, .inl ⟨by omega, a, cap, rfl⟩⟩)
  have Q0 := Q.out 0 (by omega)
  rw [show d * 1440 + m + ((0 : Nat) : Int) = d * 1440 + m by omega, show (d * 1440 + m) % 1440 = m % 1440 by omega] at Q0
  have HQ0 := Lib.hid Q0
  clear HF HX Q0
  unfold zc
  go_enter Tryz.func18, Tryz.ntmps18
  go_wp2_with fail
  refine (HQ0.out _).mono ?_
  rintro e w1 ⟨y, rfl, hg1, hy⟩
  have HY := Lib.hid hy
  clear hy
  go_wp2_with fail
  go_loopw [7, 8] (fun x y wr => RRel v (d * 1440 + m) j (w.alloc (.cells (zc z) 28)) x y wr) (fun x _ _ => (d * 1440 + m + j - intOf x).toNat)
  case atStart => exact ⟨0, by omega, by simp, hg1, HY.out⟩
  case round =>
    obtain ⟨i, hi, rfl, hg, hy⟩ := hrel
    obtain ⟨k0, k1, k2, k3, k4, k5, k6, k7, k8, k9⟩ := HN.out.later hg
    have HG := Lib.hid hg
    clear hg
    rcases hy with ⟨c, a, cap, rfl⟩ | ⟨rfl, g, len, cap, rfl, hc, hl⟩
    · have F := Q.out (i + 1) (by omega)
      rw [show d * 1440 + m + ((i + 1 : Nat) : Int) = d * 1440 + m + i + 1 by omega] at F
      have HFx := Lib.hid F
      clear F
      go_wp2_with fail
      refine (HFx.out _).mono ?_
      rintro e w2 ⟨y, rfl, hg2, hy⟩
      have HG2 := Lib.hid (gtrans HG.out hg2)
      have HY2 := Lib.hid hy
      clear k0 k1 k2 k3 k4 k5 k6 k7 k8 k9 hg2 hy
      go_wp2_with fail
      go_roundw
      case rel => exact ⟨i + 1, by omega, by simp; omega, HG2.out, HY2.out⟩
      case measure => simp [intOf]; omega
    · clear k0 k1 k2 k3 k4 k5 k6 k7 k8 k9
      go_wp2_with fail
      go_ret
      exact ⟨rfl, gtrans HW.out HG.out⟩

end Go.Proofs.YtmlnlkfdbbnkbaaGreatDoor.Window

/- Plain facts on Hebrew years, in whole numbers: leap years, months ahead, moons, by how many days a year is put off, and how long it is. No condition but those that each theorem states. -/
namespace Go.Proofs.YtmlnlkfdbbnkbaaGreatDoor.Year
set_option maxRecDepth 100000

/-- Is a year leap? -/
def lh (h : Int) : Bool := decide ((7 * (h % 19) + 1) % 19 < 7)
/-- Months ahead of a year. -/
def mh (h : Int) : Int := (h - 1) * 12 + (7 * (h - 1) + 1) / 19
/-- Parts of a year's moon. -/
def pt (h : Int) : Int := 5604 + mh h * 765433
def md (h : Int) : Int := -1373427 + pt h / 25920
def mp (h : Int) : Int := pt h % 25920
/-- The first three rules. -/
def p1 (w p : Int) (l b : Bool) : Int := if 19440 ≤ p ∨ (w = 2 ∧ l = false ∧ 9924 ≤ p) ∨ (w = 1 ∧ b = true ∧ 16789 ≤ p) then 1 else 0
/-- The fourth rule. -/
def p2 (w : Int) : Int := if w % 7 = 0 ∨ w % 7 = 3 ∨ w % 7 = 5 then 1 else 0
def po (w p : Int) (l b : Bool) : Int := p1 w p l b + p2 (w + p1 w p l b)
def dl (h : Int) : Int := po (md h % 7) (mp h) (lh h) (lh (h - 1))
def ny (h : Int) : Int := md h + dl h
def yl (h : Int) : Int := ny (h + 1) - ny h

theorem lh_rest (h : Int) : (7 * (h % 19) + 1) % 19 = (7 * h + 1) % 19 := by omega
theorem lh_iff (h : Int) : lh h = true ↔ (7 * h + 1) % 19 < 7 := by simp [lh, lh_rest]
theorem lh_not (h : Int) : lh h = false ↔ ¬ (7 * h + 1) % 19 < 7 := by simp [lh, lh_rest]

theorem seven_up (h : Int) : 7 * (h + 1) + 1 = (7 * h + 1) + 7 := by omega
theorem seven_down (h : Int) : 7 * (h - 1) + 1 = (7 * h + 1) - 7 := by omega
theorem mh_leap (h : Int) (hl : lh h = true) : mh (h + 1) = mh h + 13 := by
  rw [lh_iff] at hl
  unfold mh
  rw [show h + 1 - 1 = h by omega, seven_down, Int.sub_mul]
  generalize 7 * h + 1 = x at *
  omega
theorem mh_common (h : Int) (hl : lh h = false) : mh (h + 1) = mh h + 12 := by
  rw [lh_not] at hl
  unfold mh
  rw [show h + 1 - 1 = h by omega, seven_down, Int.sub_mul]
  generalize 7 * h + 1 = x at *
  omega
theorem lh_apart (h : Int) (hl : lh h = true) : lh (h + 1) = false := by
  rw [lh_iff] at hl
  rw [lh_not, seven_up]
  generalize 7 * h + 1 = x at *
  omega
theorem lh_before (h : Int) (hl : lh h = true) : lh (h - 1) = false := by
  rw [lh_iff] at hl
  rw [lh_not, seven_down]
  generalize 7 * h + 1 = x at *
  omega
theorem mh_round (h : Int) : mh (h + 19) = mh h + 235 := by unfold mh; omega
theorem mh_row (r : Int) : mh (19 * r + 1) = 235 * r := by unfold mh; omega
theorem mh_bd (h : Int) (h1 : 1 ≤ h) (h2 : h ≤ 10000) : 0 ≤ mh h ∧ mh h ≤ 130000 := by unfold mh; omega
theorem pt_bd (h : Int) (h1 : 1 ≤ h) (h2 : h ≤ 10000) : 5604 ≤ pt h ∧ pt h ≤ 99506295604 := by
  have := mh_bd h h1 h2
  unfold pt
  omega
theorem mp_bd (h : Int) : 0 ≤ mp h ∧ mp h < 25920 := by unfold mp; omega
theorem md_bd (h : Int) (h1 : 1 ≤ h) (h2 : h ≤ 10000) : -1373427 ≤ md h ∧ md h ≤ 4000000 := by
  have := pt_bd h h1 h2
  unfold md
  omega
theorem p1_bd (w p : Int) (l b : Bool) : 0 ≤ p1 w p l b ∧ p1 w p l b ≤ 1 := by unfold p1; split <;> omega
theorem p2_bd (w : Int) : 0 ≤ p2 w ∧ p2 w ≤ 1 := by unfold p2; split <;> omega
theorem po_bd (w p : Int) (l b : Bool) : 0 ≤ po w p l b ∧ po w p l b ≤ 2 := by
  have := p1_bd w p l b
  have := p2_bd (w + p1 w p l b)
  unfold po
  omega
theorem dl_bd (h : Int) : 0 ≤ dl h ∧ dl h ≤ 2 := po_bd _ _ _ _
theorem ny_bd (h : Int) (h1 : 1 ≤ h) (h2 : h ≤ 10000) : -1373427 ≤ ny h ∧ ny h ≤ 4000002 := by
  have := md_bd h h1 h2
  have := dl_bd h
  unfold ny
  omega

/-- The next year's moon, by this one's. -/
theorem next_common (h : Int) (hl : lh h = false) :
    (mp h + 9516 < 25920 ∧ mp (h + 1) = mp h + 9516 ∧ md (h + 1) = md h + 354) ∨ (25920 ≤ mp h + 9516 ∧ mp (h + 1) = mp h - 16404 ∧ md (h + 1) = md h + 355) := by
  have := mh_common h hl
  unfold mp md pt
  rw [this]
  omega
theorem next_leap (h : Int) (hl : lh h = true) :
    (mp h + 23269 < 25920 ∧ mp (h + 1) = mp h + 23269 ∧ md (h + 1) = md h + 383) ∨ (25920 ≤ mp h + 23269 ∧ mp (h + 1) = mp h - 2651 ∧ md (h + 1) = md h + 384) := by
  have := mh_leap h hl
  unfold mp md pt
  rw [this]
  omega
theorem round_parts (h : Int) : (md (h + 19) - md h) * 25920 + mp (h + 19) - mp h = 179876755 := by
  have := mh_round h
  unfold mp md pt
  rw [this]
  omega

/-- The day that is reached is none of the three. -/
theorem po_free (w p : Int) (l b : Bool) : (w + po w p l b) % 7 ≠ 0 ∧ (w + po w p l b) % 7 ≠ 3 ∧ (w + po w p l b) % 7 ≠ 5 := by
  unfold po
  generalize p1 w p l b = x
  unfold p2
  split <;> omega
theorem ny_free (h : Int) : ny h % 7 ≠ 0 ∧ ny h % 7 ≠ 3 ∧ ny h % 7 ≠ 5 := by
  have := po_free (md h % 7) (mp h) (lh h) (lh (h - 1))
  unfold ny dl
  omega
theorem dl_late (h : Int) (hp : 19440 ≤ mp h) : 0 < dl h := by
  have h2 := p2_bd (md h % 7 + p1 (md h % 7) (mp h) (lh h) (lh (h - 1)))
  unfold dl po
  have : p1 (md h % 7) (mp h) (lh h) (lh (h - 1)) = 1 := by unfold p1; rw [if_pos (Or.inl hp)]
  omega

theorem p1_cases (w p : Int) (l b : Bool) :
    (p1 w p l b = 1 ∧ (19440 ≤ p ∨ (w = 2 ∧ l = false ∧ 9924 ≤ p) ∨ (w = 1 ∧ b = true ∧ 16789 ≤ p))) ∨
    (p1 w p l b = 0 ∧ ¬ (19440 ≤ p ∨ (w = 2 ∧ l = false ∧ 9924 ≤ p) ∨ (w = 1 ∧ b = true ∧ 16789 ≤ p))) := by
  unfold p1
  split
  · exact Or.inl ⟨rfl, by assumption⟩
  · exact Or.inr ⟨rfl, by assumption⟩
theorem p2_cases (w : Int) : (p2 w = 1 ∧ (w % 7 = 0 ∨ w % 7 = 3 ∨ w % 7 = 5)) ∨ (p2 w = 0 ∧ ¬ (w % 7 = 0 ∨ w % 7 = 3 ∨ w % 7 = 5)) := by
  unfold p2
  split
  · exact Or.inl ⟨rfl, by assumption⟩
  · exact Or.inr ⟨rfl, by assumption⟩

theorem len_common (h : Int) (hl : lh h = false) : 353 ≤ yl h ∧ yl h ≤ 355 := by
  have hn := next_common h hl
  have hb := mp_bd h
  have e1 : h + 1 - 1 = h := by omega
  unfold yl ny dl po
  rw [e1, hl]
  have a1 := p1_cases (md h % 7) (mp h) false (lh (h - 1))
  have a2 := p2_cases (md h % 7 + p1 (md h % 7) (mp h) false (lh (h - 1)))
  have b1 := p1_cases (md (h + 1) % 7) (mp (h + 1)) (lh (h + 1)) false
  have b2 := p2_cases (md (h + 1) % 7 + p1 (md (h + 1) % 7) (mp (h + 1)) (lh (h + 1)) false)
  generalize p2 (md h % 7 + p1 (md h % 7) (mp h) false (lh (h - 1))) = z1 at *
  generalize p2 (md (h + 1) % 7 + p1 (md (h + 1) % 7) (mp (h + 1)) (lh (h + 1)) false) = z2 at *
  generalize p1 (md h % 7) (mp h) false (lh (h - 1)) = y1 at *
  generalize p1 (md (h + 1) % 7) (mp (h + 1)) (lh (h + 1)) false = y2 at *
  generalize md (h + 1) = m2 at *
  generalize mp (h + 1) = q2 at *
  generalize md h = m1 at *
  generalize mp h = q1 at *
  simp only [true_and, reduceCtorEq, false_and, and_false, or_false] at a1 b1
  rcases hn with ⟨n1, rfl, rfl⟩ | ⟨n1, rfl, rfl⟩ <;> rcases a1 with ⟨rfl, a1⟩ | ⟨rfl, a1⟩ <;> rcases b1 with ⟨rfl, b1⟩ | ⟨rfl, b1⟩ <;> cases lh (h - 1) <;> cases lh (h + 1) <;>
    omega

theorem len_leap (h : Int) (hl : lh h = true) : 383 ≤ yl h ∧ yl h ≤ 385 := by
  have hn := next_leap h hl
  have hb := mp_bd h
  have e1 : h + 1 - 1 = h := by omega
  unfold yl ny dl po
  rw [e1, hl, lh_apart h hl, lh_before h hl]
  have a1 := p1_cases (md h % 7) (mp h) true false
  have a2 := p2_cases (md h % 7 + p1 (md h % 7) (mp h) true false)
  have b1 := p1_cases (md (h + 1) % 7) (mp (h + 1)) false true
  have b2 := p2_cases (md (h + 1) % 7 + p1 (md (h + 1) % 7) (mp (h + 1)) false true)
  generalize p2 (md h % 7 + p1 (md h % 7) (mp h) true false) = z1 at *
  generalize p2 (md (h + 1) % 7 + p1 (md (h + 1) % 7) (mp (h + 1)) false true) = z2 at *
  generalize p1 (md h % 7) (mp h) true false = y1 at *
  generalize p1 (md (h + 1) % 7) (mp (h + 1)) false true = y2 at *
  generalize md (h + 1) = m2 at *
  generalize mp (h + 1) = q2 at *
  generalize md h = m1 at *
  generalize mp h = q1 at *
  simp only [true_and, reduceCtorEq, false_and, and_false, or_false] at a1 b1
  rcases hn with ⟨n1, rfl, rfl⟩ | ⟨n1, rfl, rfl⟩ <;> rcases a1 with ⟨rfl, a1⟩ | ⟨rfl, a1⟩ <;> rcases b1 with ⟨rfl, b1⟩ | ⟨rfl, b1⟩ <;> omega

theorem lh_example : lh 5784 = true := by decide
theorem mh_example : mh 5784 = 71526 := by decide
theorem md_example : md 5784 = 738778 := by decide
theorem mp_example : mp 5784 = 12762 := by decide
theorem dl_example : dl 5784 = 1 := by decide
theorem ny_example : ny 5784 = 738779 := by decide
theorem yl_example : yl 5784 = 383 := by decide

end Go.Proofs.YtmlnlkfdbbnkbaaGreatDoor.Year
