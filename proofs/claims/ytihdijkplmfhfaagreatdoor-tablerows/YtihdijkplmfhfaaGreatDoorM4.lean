/-
  Texts of mine, merged: each part says what it holds. Conditions: as each theorem states.
-/
import Derived.Test.YtihdijkplmfhfaaGreatDoorM3

/- Plain facts on the moments of minutes, in whole numbers: the first instant at which clocks tell a minute, or the next one that they tell. No condition but those that each theorem states. -/
namespace Go.Proofs.YtihdijkplmfhfaaGreatDoor.Win
set_option maxRecDepth 100000
open Go.Proofs.YtihdijkplmfhfaaGreatDoor.Cal (dm yr om od ya ma)
open Go.Proofs.YtihdijkplmfhfaaGreatDoor.Zo

/-- When clocks are shifted, told by the year's turns. -/
theorem sm_tell (z : Zn) (t y : Int) (hs : ¬ z.s = 0) (h1 : 1 ≤ y) (h2 : y ≤ 9999) (a : ya y * 1440 + 1440 ≤ t + z.b) (b : t + z.b < ya (y + 1) * 1440 + 1440) :
    (sm z t = true ∧ ((wn z z.p y < wn z z.q y ∧ wn z z.p y ≤ t ∧ t < wn z z.q y) ∨ (wn z z.q y ≤ wn z z.p y ∧ (t < wn z z.q y ∨ wn z z.p y ≤ t)))) ∨
    (sm z t = false ∧ ((wn z z.p y < wn z z.q y ∧ (t < wn z z.p y ∨ wn z z.q y ≤ t)) ∨ (wn z z.q y ≤ wn z z.p y ∧ wn z z.q y ≤ t ∧ t < wn z z.p y))) := by
  rw [sm_of z t y hs h1 h2 a b]
  cases h : inB (wn z z.p y) (wn z z.q y) t
  · exact .inr ⟨rfl, (inB_not _ _ _).1 h⟩
  · exact .inl ⟨rfl, (inB_iff _ _ _).1 h⟩

/-- The turns of a year lie four weeks apart. -/
theorem apart (z : Zn) (y : Int) (hz : May z) (hs : ¬ z.s = 0) (h1 : 1 ≤ y) (h2 : y ≤ 9999) :
    (z.p.m + 2 ≤ z.q.m ∧ wn z z.p y + 40320 ≤ wn z z.q y) ∨ (z.q.m + 2 ≤ z.p.m ∧ wn z z.q y + 40320 ≤ wn z z.p y) := by
  obtain ⟨op, oq, hm⟩ := may_on z hz hs
  rcases hm with h | h
  · exact .inl ⟨h, by have := wn_lt z y z.p z.q h1 h2 op oq h; omega⟩
  · exact .inr ⟨h, by have := wn_lt z y z.q z.p h1 h2 oq op h; omega⟩

/-- From the later turn of a year to the earlier one of the next year there are four weeks. -/
theorem over (z : Zn) (y : Int) (hz : May z) (s t : Tn) (h1 : 1 ≤ y) (h2 : y ≤ 9998) (hs : okB s = true) (ht : okB t = true) (h : s.m + 2 ≤ t.m) (h' : t.m ≤ s.m + 10) :
    wn z t y + 40320 ≤ wn z s (y + 1) := by
  obtain ⟨a1, a2, a3, a4⟩ := wn_bd z y t hz h1 (by omega) ht
  obtain ⟨b1, b2, b3, b4⟩ := wn_bd z (y + 1) s hz (by omega) (by omega) hs
  by_cases hm : t.m ≤ 11
  · have := wn_end z y t h1 (by omega) ht hm
    omega
  · obtain ⟨f, _, _⟩ := nth_in (y + 1) s (by omega) (by omega) hs
    have hk := (okB_iff s).1 hs
    have hk' := (okB_iff t).1 ht
    have g := Cal.ma_mono (y + 1) 2 s.m (by omega)
    have i := Cal.ma_succ (y + 1) 1 (by omega) (by omega) (by omega) (by omega)
    have j := Cal.dm_bd (y + 1) 1 (by omega) (by omega) (by omega) (by omega)
    have k := Cal.ma_one (y + 1)
    have l : ma (y + 1) (1 + 1) = ma (y + 1) 2 := rfl
    have e : wn z s (y + 1) + z.b = Greg.nthV (y + 1) s.m s.v (wk s.k) * 1440 + s.u := by unfold wn; omega
    omega

/-- Clocks are set at most once in four weeks. -/
theorem calm (z : Zn) (hz : May z) (a b c : Int) (ab : a < b) (bc : b < c) (ac : c ≤ a + 40000) (h1 : 576000 ≤ a) (h2 : c ≤ 5258879999) (h : sm z a ≠ sm z b) : sm z c = sm z b := by
  by_cases hs : z.s = 0
  · rw [sm_zero z a hs, sm_zero z b hs] at h
    exact absurd rfl h
  have hz' := hz
  unfold May at hz'
  obtain ⟨b0, b1, _⟩ := hz'
  have d1 := day_bd z a hz h1 (by omega)
  obtain ⟨y0, y1, y2, y3⟩ := Cal.yr_spec ((a + z.b) / 1440) d1.1 d1.2
  have d2 := day_bd z c hz (by omega) h2
  obtain ⟨x0, x1, x2, x3⟩ := Cal.yr_spec ((c + z.b) / 1440) d2.1 d2.2
  generalize hy : yr ((a + z.b) / 1440) = y at *
  generalize hx : yr ((c + z.b) / 1440) = x at *
  clear hy hx
  have sA := sm_tell z a y hs y0 y1 (by omega) (by omega)
  have pA := apart z y hz hs y0 y1
  have yl := Cal.ya_lt y (y + 1) (by omega)
  by_cases hc : c + z.b < ya (y + 1) * 1440 + 1440
  · have sB := sm_tell z b y hs y0 y1 (by omega) (by omega)
    have sC := sm_tell z c y hs y0 y1 (by omega) (by omega)
    rcases sA with ⟨eA, sA⟩ | ⟨eA, sA⟩ <;> rcases sB with ⟨eB, sB⟩ | ⟨eB, sB⟩ <;> rcases sC with ⟨eC, sC⟩ | ⟨eC, sC⟩ <;> rw [eA, eB] at h <;> rw [eB, eC] <;> first | exact absurd rfl h | (exfalso; omega)
  · have xy : x = y + 1 := by
      have m1 : y + 1 ≤ x := by
        by_cases m : y + 1 ≤ x
        · exact m
        · have := Cal.ya_mono (x + 1) (y + 1) (by omega); omega
      have m2 : x ≤ y + 1 := by
        by_cases m : x ≤ y + 1
        · exact m
        · have := Cal.ya_mono (y + 1 + 1) x (by omega)
          have := Cal.ya_lt (y + 1) (y + 1 + 1) (by omega)
          omega
      omega
    subst xy
    have sC := sm_tell z c (y + 1) hs x0 x1 (by omega) (by omega)
    have pC := apart z (y + 1) hz hs x0 x1
    obtain ⟨op, oq, _⟩ := may_on z hz hs
    have tm : (z.p.m + 2 ≤ z.q.m → z.q.m ≤ z.p.m + 10) ∧ (z.q.m + 2 ≤ z.p.m → z.p.m ≤ z.q.m + 10) := by
      have := (okB_iff z.p).1 op
      have := (okB_iff z.q).1 oq
      have := (apB_iff z).1 (by unfold May at hz; rcases hz with ⟨_, _, _, _, ⟨e, _⟩ | ⟨_, _, _, e⟩⟩; exact absurd e hs; exact e)
      omega
    have o1 : z.p.m + 2 ≤ z.q.m → wn z z.q y + 40320 ≤ wn z z.p (y + 1) := fun e => over z y hz z.p z.q y0 (by omega) op oq e (tm.1 e)
    have o2 : z.q.m + 2 ≤ z.p.m → wn z z.p y + 40320 ≤ wn z z.q (y + 1) := fun e => over z y hz z.q z.p y0 (by omega) oq op e (tm.2 e)
    obtain ⟨p1, p2, p3, p4⟩ := wn_bd z y z.p hz y0 y1 op
    obtain ⟨q1, q2, q3, q4⟩ := wn_bd z y z.q hz y0 y1 oq
    obtain ⟨r1, r2, r3, r4⟩ := wn_bd z (y + 1) z.p hz x0 x1 op
    obtain ⟨s1, s2, s3, s4⟩ := wn_bd z (y + 1) z.q hz x0 x1 oq
    clear hz d1 d2 p1 p2 q1 q2 r1 r2 s1 s2 tm op oq
    by_cases hb : b + z.b < ya (y + 1) * 1440 + 1440
    · have sB := sm_tell z b y hs y0 y1 (by omega) (by omega)
      rcases sA with ⟨eA, sA⟩ | ⟨eA, sA⟩ <;> rcases sB with ⟨eB, sB⟩ | ⟨eB, sB⟩ <;> rcases sC with ⟨eC, sC⟩ | ⟨eC, sC⟩ <;> rw [eA, eB] at h <;> rw [eB, eC] <;> first | exact absurd rfl h | (exfalso; rcases pA with ⟨m, pA⟩ | ⟨m, pA⟩ <;> rcases pC with ⟨m', pC⟩ | ⟨m', pC⟩ <;> first | (have := o1 m; omega) | (have := o2 m; omega) | omega)
    · have sB := sm_tell z b (y + 1) hs x0 x1 (by omega) (by omega)
      rcases sA with ⟨eA, sA⟩ | ⟨eA, sA⟩ <;> rcases sB with ⟨eB, sB⟩ | ⟨eB, sB⟩ <;> rcases sC with ⟨eC, sC⟩ | ⟨eC, sC⟩ <;> rw [eA, eB] at h <;> rw [eB, eC] <;> first | exact absurd rfl h | (exfalso; rcases pA with ⟨m, pA⟩ | ⟨m, pA⟩ <;> rcases pC with ⟨m', pC⟩ | ⟨m', pC⟩ <;> first | (have := o1 m; omega) | (have := o2 m; omega) | omega)

/-- The moment of a minute, looked for in so many steps. -/
def mo (z : Zn) : Nat → Int → Int
  | 0, _ => 0
  | k + 1, n => match ins z n with
    | v :: _ => v
    | [] => mo z k (n + 1)

/-- The moment of a minute. -/
def mv (z : Zn) (n : Int) : Int := mo z 122 n

theorem ins_none (z : Zn) (n : Int) : ins z n = [] ↔ sm z (n - z.b - z.s) = false ∧ sm z (n - z.b) = true := by
  unfold ins
  cases sm z (n - z.b - z.s) <;> cases sm z (n - z.b) <;> simp

theorem ins_early (z : Zn) (n : Int) (h : sm z (n - z.b - z.s) = true) : ∃ r, ins z n = (n - z.b - z.s) :: r := by
  unfold ins
  rw [if_pos h]
  exact ⟨_, rfl⟩

theorem ins_late (z : Zn) (n : Int) (h : sm z (n - z.b - z.s) = false) (h' : sm z (n - z.b) = false) : ins z n = [n - z.b] := by
  unfold ins
  rw [h, h']
  simp

theorem mo_some (z : Zn) (k : Nat) (n v : Int) (r : List Int) (h : ins z n = v :: r) : mo z (k + 1) n = v := by
  unfold mo; rw [h]

theorem mo_none (z : Zn) (k : Nat) (n : Int) (h : ins z n = []) : mo z (k + 1) n = mo z k (n + 1) := by
  rw [mo, h]

/-- If j minutes are not told and the next one is, the moment is that one's. -/
theorem mo_at (z : Zn) (j : Nat) : ∀ (k : Nat) (n v : Int) (r : List Int), j < k → (∀ i : Int, n ≤ i → i < n + j → ins z i = []) → ins z (n + j) = v :: r → mo z k n = v := by
  induction j with
  | zero =>
    intro k n v r hk _ h
    obtain ⟨k, rfl⟩ : ∃ q, k = q + 1 := ⟨k - 1, by omega⟩
    exact mo_some z k n v r (by simpa using h)
  | succ j ih =>
    intro k n v r hk h0 h
    obtain ⟨k, rfl⟩ : ∃ q, k = q + 1 := ⟨k - 1, by omega⟩
    rw [mo_none z k n (h0 n (by omega) (by omega))]
    refine ih k (n + 1) v r (by omega) (fun i i0 i1 => h0 i (by omega) (by omega)) ?_
    rw [← h, show n + 1 + (j : Int) = n + ((j + 1 : Nat) : Int) by omega]

/-- A first place at which a bool is true. -/
theorem first_true (f : Int → Bool) (a : Int) (k : Nat) (h0 : f a = false) (h1 : f (a + k) = true) : ∃ t, a < t ∧ t ≤ a + k ∧ f t = true ∧ ∀ i, a ≤ i → i < t → f i = false := by
  have go : ∀ q : Nat, (∀ i, a ≤ i → i ≤ a + q → f i = false) ∨ ∃ t, a < t ∧ t ≤ a + q ∧ f t = true ∧ ∀ i, a ≤ i → i < t → f i = false := by
    intro q
    induction q with
    | zero => exact .inl (fun i i0 i1 => by rw [show i = a by omega]; exact h0)
    | succ q iq =>
      rcases iq with g | ⟨t, t0, t1, t2, t3⟩
      · cases hf : f (a + (q + 1 : Nat))
        · refine .inl (fun i i0 i1 => ?_)
          by_cases e : i ≤ a + q
          · exact g i i0 e
          · rw [show i = a + (q + 1 : Nat) by omega]; exact hf
        · exact .inr ⟨_, by omega, by omega, hf, fun i i0 i1 => g i i0 (by omega)⟩
      · exact .inr ⟨t, t0, by omega, t2, t3⟩
  rcases go k with g | g
  · rw [g _ (by omega) (by omega)] at h1
    cases h1
  · exact g

/-- A minute that is told, the early way. -/
theorem mv_early (z : Zn) (n : Int) (h : sm z (n - z.b - z.s) = true) : mv z n = n - z.b - z.s := by
  obtain ⟨r, e⟩ := ins_early z n h
  exact mo_some z 121 n _ r e

theorem mv_late (z : Zn) (n : Int) (h : sm z (n - z.b - z.s) = false) (h' : sm z (n - z.b) = false) : mv z n = n - z.b :=
  mo_some z 121 n _ [] (ins_late z n h h')

/-- A minute that is not told: clocks are set on between. -/
theorem mv_skip (z : Zn) (hz : May z) (n : Int) (h1 : 578879 ≤ n) (h2 : n ≤ 5258867039) (h : sm z (n - z.b - z.s) = false) (h' : sm z (n - z.b) = true) :
    ∃ t, n - z.b - z.s < t ∧ t ≤ n - z.b ∧ sm z (t - 1) = false ∧ sm z t = true ∧ (∀ i, n ≤ i → i < t + z.b + z.s → ins z i = []) ∧ (∃ r, ins z (t + z.b + z.s) = t :: r) ∧ mv z n = t := by
  have hz' := hz
  unfold May at hz'
  obtain ⟨b0, b1, s0, s1, _⟩ := hz'
  obtain ⟨k, hk⟩ : ∃ k : Nat, (k : Int) = z.s := ⟨z.s.toNat, by omega⟩
  obtain ⟨t, t0, t1, t2, t3⟩ := first_true (sm z) (n - z.b - z.s) k h (by rw [hk, show n - z.b - z.s + z.s = n - z.b by omega]; exact h')
  have e0 : ∀ i, n ≤ i → i < t + z.b + z.s → ins z i = [] := by
    intro i i0 i1
    rw [ins_none]
    refine ⟨t3 _ (by omega) (by omega), ?_⟩
    by_cases e : i - z.b = t
    · rw [e]; exact t2
    · rw [calm z hz (t - 1) t (i - z.b) (by omega) (by omega) (by omega) (by omega) (by omega) (by rw [t3 (t - 1) (by omega) (by omega), t2]; simp)]
      exact t2
  have e1 : ∃ r, ins z (t + z.b + z.s) = t :: r := by
    have := ins_early z (t + z.b + z.s) (by rw [show t + z.b + z.s - z.b - z.s = t by omega]; exact t2)
    rwa [show t + z.b + z.s - z.b - z.s = t by omega] at this
  obtain ⟨r, e1'⟩ := e1
  obtain ⟨j, hj⟩ : ∃ j : Nat, (j : Int) = t + z.b + z.s - n := ⟨(t + z.b + z.s - n).toNat, by omega⟩
  refine ⟨t, t0, by omega, t3 _ (by omega) (by omega), t2, e0, ⟨r, e1'⟩, ?_⟩
  exact mo_at z j 122 n t r (by omega) (fun i i0 i1 => e0 i i0 (by omega)) (by rw [show n + (j : Int) = t + z.b + z.s by omega]; exact e1')

/-- The three ways of a minute. -/
theorem mv_ways (z : Zn) (hz : May z) (n : Int) (h1 : 578879 ≤ n) (h2 : n ≤ 5258867039) :
    (sm z (n - z.b - z.s) = true ∧ mv z n = n - z.b - z.s) ∨ (sm z (n - z.b - z.s) = false ∧ sm z (n - z.b) = false ∧ mv z n = n - z.b) ∨
    (sm z (n - z.b - z.s) = false ∧ sm z (n - z.b) = true ∧ n - z.b - z.s < mv z n ∧ mv z n ≤ n - z.b ∧ sm z (mv z n - 1) = false ∧ sm z (mv z n) = true) := by
  cases h : sm z (n - z.b - z.s)
  · cases h' : sm z (n - z.b)
    · exact .inr (.inl ⟨rfl, rfl, mv_late z n h h'⟩)
    · obtain ⟨t, t0, t1, t2, t3, _, _, rfl⟩ := mv_skip z hz n h1 h2 h h'
      exact .inr (.inr ⟨rfl, rfl, t0, t1, t2, t3⟩)
  · exact .inl ⟨rfl, mv_early z n h⟩

/-- At a minute's moment clocks tell it; where none does, the first one behind it that they tell. -/
theorem mv_told (z : Zn) (hz : May z) (n : Int) (h1 : 578879 ≤ n) (h2 : n ≤ 5258867039) :
    ((∃ r, ins z n = mv z n :: r) ∧ td z (mv z n) = n) ∨ (ins z n = [] ∧ n < td z (mv z n) ∧ td z (mv z n) ≤ n + z.s ∧ td z (mv z n - 1) < n) := by
  rcases mv_ways z hz n h1 h2 with ⟨a, b⟩ | ⟨a, c, b⟩ | ⟨a, c, d, e, f, g⟩
  · left
    rw [b]
    refine ⟨ins_early z n a, ?_⟩
    unfold td; rw [if_pos a]; omega
  · left
    rw [b]
    refine ⟨⟨[], ins_late z n a c⟩, ?_⟩
    unfold td; rw [c]; simp
  · right
    refine ⟨(ins_none z n).2 ⟨a, c⟩, ?_⟩
    unfold td; rw [if_pos g, f]; simp; omega

/-- The next minute's moment is not earlier, and not later than by one and the shift. -/
theorem mv_next (z : Zn) (hz : May z) (n : Int) (h1 : 578880 ≤ n) (h2 : n ≤ 5258867039) : mv z (n - 1) ≤ mv z n ∧ mv z n - mv z (n - 1) ≤ 1 + z.s := by
  have hz' := hz
  unfold May at hz'
  obtain ⟨b0, b1, s0, s1, _⟩ := hz'
  have C := fun (a b c : Int) (ab : a < b) (bc : b < c) (ac : c ≤ a + 1000) (k1 : n - 1500 ≤ a) (k2 : c ≤ n + 1500) (p : sm z a = false) (q : sm z b = true) => (calm z hz a b c ab bc (by omega) (by omega) (by omega) (by rw [p, q]; simp)).trans q
  rcases mv_ways z hz (n - 1) (by omega) (by omega) with ⟨a, b⟩ | ⟨a, c, b⟩ | ⟨a, c, d, e, f, g⟩
  · rcases mv_ways z hz n (by omega) h2 with ⟨a', b'⟩ | ⟨a', c', b'⟩ | ⟨a', c', d', e', f', g'⟩ <;> omega
  · rcases mv_ways z hz n (by omega) h2 with ⟨a', b'⟩ | ⟨a', c', b'⟩ | ⟨a', c', d', e', f', g'⟩
    · exfalso
      by_cases hs : z.s = 0
      · rw [sm_zero z _ hs] at a'; cases a'
      · by_cases h3 : z.s = 1
        · rw [show n - z.b - z.s = n - 1 - z.b by omega, c] at a'; cases a'
        · have := C (n - 1 - z.b - z.s) (n - z.b - z.s) (n - 1 - z.b) (by omega) (by omega) (by omega) (by omega) (by omega) a a'
          rw [c] at this; cases this
    · omega
    · have : mv z n = n - z.b := by
        by_cases k : mv z n = n - z.b
        · exact k
        · exfalso
          by_cases k' : mv z n = n - 1 - z.b
          · rw [k', c] at g'; cases g'
          · have := C (mv z n - 1) (mv z n) (n - 1 - z.b) (by omega) (by omega) (by omega) (by omega) (by omega) f' g'
            rw [c] at this; cases this
      omega
  · rcases mv_ways z hz n (by omega) h2 with ⟨a', b'⟩ | ⟨a', c', b'⟩ | ⟨a', c', d', e', f', g'⟩
    · have : mv z (n - 1) = n - z.b - z.s := by
        by_cases k : mv z (n - 1) ≤ n - z.b - z.s
        · omega
        · exfalso
          by_cases k' : mv z (n - 1) - 1 = n - z.b - z.s
          · rw [k', a'] at f; cases f
          · have := C (n - 1 - z.b - z.s) (n - z.b - z.s) (mv z (n - 1) - 1) (by omega) (by omega) (by omega) (by omega) (by omega) a a'
            rw [f] at this; cases this
      omega
    · exfalso
      have := C (mv z (n - 1) - 1) (mv z (n - 1)) (n - z.b) (by omega) (by omega) (by omega) (by omega) (by omega) f g
      rw [c'] at this; cases this
    · have : mv z (n - 1) = mv z n := by
        by_cases k : mv z (n - 1) < mv z n
        · exfalso
          by_cases k' : mv z n - 1 = mv z (n - 1)
          · rw [k', g] at f'; cases f'
          · have := C (mv z (n - 1) - 1) (mv z (n - 1)) (mv z n - 1) (by omega) (by omega) (by omega) (by omega) (by omega) f g
            rw [f'] at this; cases this
        · by_cases k2 : mv z n < mv z (n - 1)
          · exfalso
            by_cases k' : mv z (n - 1) - 1 = mv z n
            · rw [k', g'] at f; cases f
            · have := C (mv z n - 1) (mv z n) (mv z (n - 1) - 1) (by omega) (by omega) (by omega) (by omega) (by omega) f' g'
              rw [f] at this; cases this
          · omega
      omega

theorem mv_bd (z : Zn) (hz : May z) (n : Int) (h1 : 578879 ≤ n) (h2 : n ≤ 5258867039) : n - 960 ≤ mv z n ∧ mv z n ≤ n + 720 := by
  have hz' := hz
  unfold May at hz'
  rcases mv_ways z hz n h1 h2 with ⟨a, b⟩ | ⟨a, c, b⟩ | ⟨a, c, d, e, f, g⟩ <;> omega

/-- Where minutes are not told, one is soon told behind them. -/
theorem told_soon (z : Zn) (hz : May z) (n : Int) (h1 : 578879 ≤ n) (h2 : n ≤ 5258867039) : ∃ j : Nat, (j : Int) ≤ z.s ∧ (∀ i : Nat, i < j → ins z (n + i) = []) ∧ ∃ r, ins z (n + j) = mv z n :: r := by
  have hz' := hz
  unfold May at hz'
  obtain ⟨b0, b1, s0, s1, _⟩ := hz'
  cases h : sm z (n - z.b - z.s)
  · cases h' : sm z (n - z.b)
    · refine ⟨0, by omega, fun i hi => absurd hi (by omega), [], ?_⟩
      rw [mv_late z n h h', show n + ((0 : Nat) : Int) = n by omega]
      exact ins_late z n h h'
    · obtain ⟨t, t0, t1, t2, t3, t4, ⟨r, t5⟩, t6⟩ := mv_skip z hz n h1 h2 h h'
      refine ⟨(t + z.b + z.s - n).toNat, by omega, fun i hi => t4 _ (by omega) (by omega), r, ?_⟩
      rw [t6, show n + ((t + z.b + z.s - n).toNat : Int) = t + z.b + z.s by omega]
      exact t5
  · obtain ⟨r, e⟩ := ins_early z n h
    refine ⟨0, by omega, fun i hi => absurd hi (by omega), r, ?_⟩
    rw [mv_early z n h, show n + ((0 : Nat) : Int) = n by omega]
    exact e

/-- The error of a minute, or 0; its moment, or 0. -/
def wE (z : Zn) (d m : Int) : Int := if ck z = 0 then (if 402 ≤ d ∧ d ≤ 3651990 ∧ 0 ≤ m ∧ m ≤ 1439 then 0 else 140) else ck z

def wV (z : Zn) (d m : Int) : Int := if wE z d m = 0 then mv z (d * 1440 + m) else 0

theorem wE_ok (z : Zn) (d m : Int) : wE z d m = 0 ↔ May z ∧ 402 ≤ d ∧ d ≤ 3651990 ∧ 0 ≤ m ∧ m ≤ 1439 := by
  unfold wE
  rw [← ck_may]
  by_cases h : ck z = 0
  · rw [if_pos h]; split <;> omega
  · rw [if_neg h]; omega

end Go.Proofs.YtihdijkplmfhfaaGreatDoor.Win

/- What Moment answers, by the program. Conditions: the table of months lies where the program lays it; the numbers are ints, as each theorem says. -/
namespace Go.Proofs.YtihdijkplmfhfaaGreatDoor.Window
set_option maxRecDepth 100000
set_option maxRecDepth 100000
open Go.ChangeShapes Go.WideShapes Go.ChangeAt Go.RowKit
open Go.Proofs.YtihdijkplmfhfaaGreatDoor.Divs Go.Proofs.YtihdijkplmfhfaaGreatDoor.Grow
open Go.Proofs.YtihdijkplmfhfaaGreatDoor.Greg (Laid)
open Go.Proofs.YtihdijkplmfhfaaGreatDoor.Zo Go.Proofs.YtihdijkplmfhfaaGreatDoor.Zone Go.Proofs.YtihdijkplmfhfaaGreatDoor.Win

/-- Instants of a minute that is told: the first of them. -/
theorem inst_first (z : Zn) (x v : Int) (r : List Int) (w : World) (hL : Laid w) (hz : May z) (x0 : 577440 ≤ x) (x1 : x ≤ 5258878559) (h : ins z x = v :: r) :
    Calls Tryz.prog 80 #[.agg (zc z), .int .i64 (x / 1440), .int .i64 (x % 1440)] w fun e w' => ∃ g len cap, e = .returned (.tuple #[.slice (some ⟨g, 0, none⟩) (len + 1) cap, .int .i64 0]) ∧ w'.cell? ⟨g, 0, none⟩ = some (.int .i64 v) ∧ Later w w' ∧ len ≤ 10 := by
  have hE : iE z (x / 1440) (x % 1440) = 0 := (iE_ok _ _ _).2 ⟨hz, by omega, by omega, by omega, by omega⟩
  refine (instants_any z (x / 1440) (x % 1440) w hL).mono ?_
  rintro e w' ⟨u, rfl, hs, hg⟩
  have hI : iL z (x / 1440) (x % 1440) = v :: r := by
    unfold iL
    rw [if_pos hE, show x / 1440 * 1440 + x % 1440 = x by omega, h]
  rw [hI] at hs
  have hr : r.length ≤ 10 := by
    have : (ins z x).length ≤ 2 := by unfold ins; split <;> split <;> simp
    rw [h] at this
    simp at this
    omega
  rcases hs with ⟨hs, _⟩ | ⟨g, cap, rfl, hc⟩
  · cases hs
  · rw [hE]
    exact ⟨g, r.length, cap, rfl, hc 0 v rfl, hg, hr⟩

theorem inst_none (z : Zn) (x : Int) (w : World) (hL : Laid w) (hz : May z) (x0 : 577440 ≤ x) (x1 : x ≤ 5258878559) (h : ins z x = []) :
    Calls Tryz.prog 80 #[.agg (zc z), .int .i64 (x / 1440), .int .i64 (x % 1440)] w fun e w' => ∃ a cap, e = .returned (.tuple #[.slice a 0 cap, .int .i64 0]) ∧ Later w w' := by
  have hE : iE z (x / 1440) (x % 1440) = 0 := (iE_ok _ _ _).2 ⟨hz, by omega, by omega, by omega, by omega⟩
  refine (instants_any z (x / 1440) (x % 1440) w hL).mono ?_
  rintro e w' ⟨u, rfl, hs, hg⟩
  have hI : iL z (x / 1440) (x % 1440) = [] := by
    unfold iL
    rw [if_pos hE, show x / 1440 * 1440 + x % 1440 = x by omega, h]
  rw [hI] at hs
  rw [hE]
  rcases hs with ⟨_, rfl⟩ | ⟨g, cap, rfl, hc⟩
  · exact ⟨none, 0, rfl, hg⟩
  · exact ⟨_, cap, rfl, hg⟩

def TRel (n : Int) (j : Nat) (w : World) (x : Value) (wr : World) : Prop := ∃ i : Nat, i ≤ j ∧ x = .int .i64 (n + i) ∧ Later w wr

set_option maxHeartbeats 1000000 in
theorem first_any (z : Zn) (d m : Int) (w : World) (hL : Laid w) (hz : May z) (d0 : 402 ≤ d) (d1 : d ≤ 3651990) (m0 : 0 ≤ m) (m1 : m ≤ 1439) :
    Calls Tryz.prog 51 #[.agg (zc z), .int .i64 d, .int .i64 m] w fun e w' => e = .returned (.int .i64 (mv z (d * 1440 + m))) ∧ Later w w' := by
  obtain ⟨j, hj, hn, r, hr⟩ := told_soon z hz (d * 1440 + m) (by omega) (by omega)
  have hz' := hz
  unfold May at hz'
  obtain ⟨_, _, s0, s1, _⟩ := hz'
  have HF := Lib.hid (fun W hW => inst_first z (d * 1440 + m + j) (mv z (d * 1440 + m)) r W hW hz (by omega) (by omega) hr)
  have HX := Lib.hid (fun (i : Nat) (hi : i < j) W hW => inst_none z (d * 1440 + m + i) W hW hz (by omega) (by omega) (hn i hi))
  have HN := Lib.hid (Zat.new w z)
  have HW := Lib.hid ((Later.refl w).alloc (zc z) 28)
  have HL := Lib.hid (hL.grown HW.out)
  clear hL hz hn hr s0 
  have hj' : (j : Int) ≤ 120 := by omega
  clear hj s1
  generalize mv z (d * 1440 + m) = v at *
  unfold zc
  go_enter Tryz.func51, Tryz.ntmps51
  go_wp2_with fail
  go_loopw [7] (fun x wr => TRel (d * 1440 + m) j (w.alloc (.cells (zc z) 28)) x wr) (fun x _ => (d * 1440 + m + j - intOf x).toNat)
  case atStart => exact ⟨0, by omega, by simp, Later.refl _⟩
  case round =>
    obtain ⟨i, hi, rfl, hg⟩ := hrel
    obtain ⟨k0, k1, k2, k3, k4, k5, k6, k7, k8, k9⟩ := HN.out.later hg
    have HG := Lib.hid hg
    have HL1 := Lib.hid (HL.out.grown hg)
    clear hg
    by_cases c : i = j
    · subst c
      have F := Lib.hid (HF.out _ HL1.out)
      go_wp2_with fail
      refine F.out.mono ?_
      rintro e w1 ⟨g, len, cap, rfl, hc, hg1, hl⟩
      have HG1 := Lib.hid hg1
      clear k0 k1 k2 k3 k4 k5 k6 k7 k8 k9 hg1
      go_wp2_with fail
      go_ret
      exact ⟨rfl, gtrans HW.out (gtrans HG.out HG1.out)⟩
    · have F := Lib.hid (HX.out i (by omega) _ HL1.out)
      go_wp2_with fail
      refine F.out.mono ?_
      rintro e w1 ⟨a, cap, rfl, hg1⟩
      have HG1 := Lib.hid (gtrans HG.out hg1)
      clear k0 k1 k2 k3 k4 k5 k6 k7 k8 k9 hg1
      go_wp2_with fail
      go_roundw
      case rel => exact ⟨i + 1, by omega, by simp; omega, HG1.out⟩
      case measure => simp [intOf]; omega

end Go.Proofs.YtihdijkplmfhfaaGreatDoor.Window

/- What the document's own answers of layer 1 come to, call by call. Conditions: the numbers are ints, as each theorem says. -/
namespace Go.Proofs.YtihdijkplmfhfaaGreatDoor.Divs
set_option maxRecDepth 100000
open Go.ChangeShapes Go.WideShapes Go.ChangeAt Go.RowKit

theorem tmod_nonpos (a b : Int) (h : a ≤ 0) : a.tmod b ≤ 0 := by
  have := Int.tmod_nonneg b (show 0 ≤ -a by omega)
  rw [Int.neg_tmod] at this
  omega

theorem rdiv_any (a b : Int) (w : World) (ha0 : -9223372036854775808 ≤ a) (ha1 : a ≤ 9223372036854775807) (hb0 : 1 ≤ b) (hb1 : b ≤ 9223372036854775807) :
    Calls Tryz.prog 46 #[.int .i64 a, .int .i64 b] w fun e w' => e = .returned (.int .i64 (a / b)) ∧ ∃ n, w' = w.drewN n := by
  have ht := tpair a b hb0
  have hbd := ediv_bd a b hb0
  have hz : (b == 0) = false := by simp; omega
  by_cases hs : a < 0
  · have hneg : a.tmod b ≤ 0 := tmod_nonpos a b (by omega)
    by_cases hr : a.tmod b < 0
    · obtain ⟨h1, h2⟩ := ht.1 hr
      have hq0 : -9223372036854775808 ≤ a.tdiv b - 1 := by omega
      have hq1 : a.tdiv b - 1 ≤ 9223372036854775807 := by omega
      have t1 : (a.tmod b != 0) = true := by simp; omega
      have H1 := Lib.hid h1
      clear h1 h2 ht hbd
      go_enter Tryz.func46, Tryz.ntmps46
      go_wp2
      go_ret
      exact ⟨ret1 H1.out, 0, rfl⟩
    · obtain ⟨h1, h2⟩ := ht.2 (by omega)
      have t1 : (a.tmod b != 0) = false := by simp; omega
      have H1 := Lib.hid h1
      clear h1 h2 ht hbd
      go_enter Tryz.func46, Tryz.ntmps46
      go_wp2
      go_ret
      exact ⟨ret1 H1.out, 0, rfl⟩
  · have h0 : 0 ≤ a := by omega
    clear ht
    by_cases hr : a % b = 0
    · have t1 : (a % b != 0) = false := by simp; omega
      clear hr
      go_enter Tryz.func46, Tryz.ntmps46
      go_wp2
      go_ret
      exact ⟨rfl, 0, rfl⟩
    · have t1 : (a % b != 0) = true := by simp; omega
      clear hr
      go_enter Tryz.func46, Tryz.ntmps46
      go_wp2
      go_ret
      exact ⟨rfl, 0, rfl⟩

theorem rmod_any (a b : Int) (w : World) (ha0 : -9223372036854775808 ≤ a) (ha1 : a ≤ 9223372036854775807) (hb0 : 1 ≤ b) (hb1 : b ≤ 9223372036854775807) :
    Calls Tryz.prog 126 #[.int .i64 a, .int .i64 b] w fun e w' => e = .returned (.int .i64 (a % b)) ∧ ∃ n, w' = w.drewN n := by
  have ht := tpair a b hb0
  have hm0 := Int.emod_nonneg a (show b ≠ 0 by omega)
  have hm1 := Int.emod_lt_of_pos a (show 0 < b by omega)
  have hz : (b == 0) = false := by simp; omega
  by_cases hs : a < 0
  · by_cases hr : a.tmod b < 0
    · obtain ⟨h1, h2⟩ := ht.1 hr
      have hr0 : 0 ≤ a.tmod b + b := by omega
      have hr1 : a.tmod b + b < b := by omega
      have H2 := Lib.hid h2
      clear h1 h2 ht hm0 hm1
      go_enter Tryz.func126, Tryz.ntmps126
      go_wp2
      go_ret
      exact ⟨ret1 H2.out, 0, rfl⟩
    · obtain ⟨h1, h2⟩ := ht.2 (by omega)
      have H2 := Lib.hid h2
      clear h1 h2 ht hm0 hm1
      go_enter Tryz.func126, Tryz.ntmps126
      go_wp2
      go_ret
      exact ⟨ret1 H2.out, 0, rfl⟩
  · have h0 : 0 ≤ a := by omega
    have h3 : ¬ a % b < 0 := by omega
    clear ht
    go_enter Tryz.func126, Tryz.ntmps126
    go_wp2
    go_ret
    exact ⟨rfl, 0, rfl⟩

end Go.Proofs.YtihdijkplmfhfaaGreatDoor.Divs

/- The document's answers of layer 6, call by call: whether a zone may be, a turn's instant, whether clocks are shifted, what they tell. Conditions: the numbers are ints, as each theorem says. -/
namespace Go.Proofs.YtihdijkplmfhfaaGreatDoor.Zone
set_option maxRecDepth 100000
open Go.ChangeShapes Go.WideShapes Go.ChangeAt Go.RowKit
open Go.Proofs.YtihdijkplmfhfaaGreatDoor.Divs Go.Proofs.YtihdijkplmfhfaaGreatDoor.Grow
open Go.Proofs.YtihdijkplmfhfaaGreatDoor.Greg (nthV nthE)
open Go.Proofs.YtihdijkplmfhfaaGreatDoor.Cal (ya yr om od)
open Go.Proofs.YtihdijkplmfhfaaGreatDoor.Zo

attribute [local go_sem high] equal_turn

set_option maxHeartbeats 1000000 in
theorem rturn_any (t : Tn) (w : World) : Calls Tryz.prog 59 #[.agg (tc t)] w fun e w' => e = .returned (.bool (okB t)) ∧ Later w w' := by
  have HV := Lib.hid (okB_iff t)
  have HL := Lib.hid ((Later.refl w).alloc (tc t) 26)
  unfold tc at *
  go_enter Tryz.func59, Tryz.ntmps59
  go_wp2
  all_goals
    go_ret
    refine ⟨retb ?_, HL.out⟩
    rw [Bool.eq_iff_iff, HV.out]
    simp
    omega

theorem rtime_any (t : Int) (w : World) : Calls Tryz.prog 44 #[.int .i64 t] w fun e w' => e = .returned (.bool (wiB t 576000 5258879999)) ∧ w = w' := by
  have HV := Lib.hid (wiB_iff t 576000 5258879999)
  go_enter Tryz.func44, Tryz.ntmps44
  go_wp2
  all_goals
    go_ret
    refine ⟨retb ?_, rfl⟩
    rw [Bool.eq_iff_iff, HV.out]
    simp
    omega

def dyB (d m : Int) : Bool := decide (401 ≤ d ∧ d ≤ 3651998 ∧ 0 ≤ m ∧ m ≤ 1439)

theorem dyB_iff (d m : Int) : dyB d m = true ↔ 401 ≤ d ∧ d ≤ 3651998 ∧ 0 ≤ m ∧ m ≤ 1439 := by simp [dyB]

theorem rcheck_low (z : Zn) (w : World) (h : z.b < -720 ∨ 840 < z.b ∨ z.s < 0 ∨ 120 < z.s) : Calls Tryz.prog 34 #[.agg (zc z)] w fun e w' => e = .returned (.int .i64 (ck z)) ∧ Later w w' := by
  have HL := Lib.hid ((Later.refl w).alloc (zc z) 28)
  unfold zc at *
  by_cases h1 : z.b < -720
  · have HV := Lib.hid (show 60 = ck z by unfold ck; rw [if_pos (by omega)])
    clear h
    go_enter Tryz.func34, Tryz.ntmps34
    go_wp2_with fail
    go_ret
    exact ⟨reti HV.out, HL.out⟩
  by_cases h2 : 840 < z.b
  · have HV := Lib.hid (show 60 = ck z by unfold ck; rw [if_pos (by omega)])
    clear h
    go_enter Tryz.func34, Tryz.ntmps34
    go_wp2_with fail
    go_ret
    exact ⟨reti HV.out, HL.out⟩
  by_cases h3 : z.s < 0
  · have HV := Lib.hid (show 61 = ck z by unfold ck; rw [if_neg (by omega), if_pos (by omega)])
    clear h
    go_enter Tryz.func34, Tryz.ntmps34
    go_wp2_with fail
    go_ret
    exact ⟨reti HV.out, HL.out⟩
  have h4 : 120 < z.s := by omega
  have HV := Lib.hid (show 61 = ck z by unfold ck; rw [if_neg (by omega), if_pos (by omega)])
  clear h
  go_enter Tryz.func34, Tryz.ntmps34
  go_wp2_with fail
  go_ret
  exact ⟨reti HV.out, HL.out⟩

theorem ck_zero (z : Zn) (b0 : -720 ≤ z.b) (b1 : z.b ≤ 840) (hs : z.s = 0) : ck z = if ztB z.p = true ∧ ztB z.q = true then 0 else 62 := by
  unfold ck
  rw [if_neg (by omega), if_neg (by omega)]
  have e : badB z = (!ztB z.p || !ztB z.q) := by unfold badB wrB; simp [hs]
  rw [e]
  cases ztB z.p <;> cases ztB z.q <;> simp

theorem ck_some (z : Zn) (b0 : -720 ≤ z.b) (b1 : z.b ≤ 840) (s0 : 1 ≤ z.s) (s1 : z.s ≤ 120) : ck z = if okB z.p = true ∧ okB z.q = true ∧ apB z = true then 0 else 62 := by
  unfold ck
  rw [if_neg (by omega), if_neg (by omega)]
  have hs : ¬ z.s = 0 := by omega
  have e : badB z = (!okB z.p || (!okB z.q || !apB z)) := by unfold badB wrB; simp [hs]
  rw [e]
  cases okB z.p <;> cases okB z.q <;> cases apB z <;> simp

set_option maxHeartbeats 1000000 in
theorem rcheck_zero (z : Zn) (w : World) (b0 : -720 ≤ z.b) (b1 : z.b ≤ 840) (hs : z.s = 0) : Calls Tryz.prog 34 #[.agg (zc z)] w fun e w' => e = .returned (.int .i64 (ck z)) ∧ Later w w' := by
  have HC := Lib.hid (ck_zero z b0 b1 hs)
  have e0 : (z.s == 0) = true := by simpa using hs
  have x0 : ¬ z.s < 0 := by omega
  have x1 : ¬ 120 < z.s := by omega
  clear hs
  unfold zc at *
  go_enter Tryz.func34, Tryz.ntmps34
  go_wp2_with fail
  all_goals
    go_ret
    refine ⟨reti ?_, ((Later.refl w).alloc _ _).alloc _ _⟩
    rw [HC.out]
    try simp only [Bool.not_eq_true', Bool.not_eq_false', beq_iff_eq, beq_eq_false_iff_ne, ne_eq] at *
    first
      | (rw [if_pos ⟨by rw [ztB_iff]; omega, by rw [ztB_iff]; omega⟩])
      | (rw [if_neg (by rw [ztB_iff, ztB_iff]; omega)])

set_option maxHeartbeats 1000000 in
theorem rcheck_some (z : Zn) (w : World) (b0 : -720 ≤ z.b) (b1 : z.b ≤ 840) (s0 : 1 ≤ z.s) (s1 : z.s ≤ 120) : Calls Tryz.prog 34 #[.agg (zc z)] w fun e w' => e = .returned (.int .i64 (ck z)) ∧ Later w w' := by
  have HC := Lib.hid (ck_some z b0 b1 s0 s1)
  have HN := Lib.hid (Zat.new w z)
  have HL := Lib.hid ((((Later.refl w).alloc (zc z) 28).alloc #[.int .i64 0, .int .i64 0, .int .i64 0, .int .i64 0] 26))
  have e0 : (z.s == 0) = false := by simp; omega
  have P := Lib.hid (fun W => rturn_any z.p W)
  have Q := Lib.hid (fun W => rturn_any z.q W)
  have HP := Lib.hid (okB_iff z.p)
  have HQ := Lib.hid (okB_iff z.q)
  have HA := Lib.hid (apB_iff z)
  unfold zc at HL ⊢
  go_enter Tryz.func34, Tryz.ntmps34
  go_wp2_with fail
  refine (P.out _).mono ?_
  rintro e w1 ⟨rfl, hg1⟩
  have HG1 := Lib.hid (gtrans HL.out hg1)
  have z1 := HN.out.later (gtrans ((Later.refl _).alloc _ _) hg1)
  have HZ1 := Lib.hid z1
  obtain ⟨c0, c1, c2, c3, c4, c5, c6, c7, c8, c9⟩ := z1
  clear hg1
  go_wp2_with fail
  refine (Q.out _).mono ?_
  rintro e w2 ⟨rfl, hg2⟩
  have HG2 := Lib.hid (gtrans HG1.out hg2)
  clear c0 c1 c2 c3 c4 c5 c6 c7 c8 c9
  obtain ⟨c0, c1, c2, c3, c4, c5, c6, c7, c8, c9⟩ := HZ1.out.later hg2
  clear hg2
  cases hp : okB z.p with
  | false =>
    have HP1 := Lib.hid hp
    clear hp
    go_wp2_with fail
    all_goals
      go_ret
      refine ⟨reti ?_, HG2.out⟩
      rw [HC.out, HP1.out]
      simp
  | true =>
    have HP1 := Lib.hid hp
    obtain ⟨p1, p2, _⟩ := HP.out.1 hp
    clear hp
    cases hq : okB z.q with
    | false =>
      have HQ1 := Lib.hid hq
      clear hq
      go_wp2_with fail
      all_goals
        go_ret
        refine ⟨reti ?_, HG2.out⟩
        rw [HC.out, HQ1.out]
        simp
    | true =>
      have HQ1 := Lib.hid hq
      obtain ⟨q1, q2, _⟩ := HQ.out.1 hq
      clear hq
      by_cases hlt : z.p.m - z.q.m < 0
      all_goals
        go_wp2_with fail
        all_goals
          go_ret
          refine ⟨reti ?_, HG2.out⟩
          rw [HC.out, HP1.out, HQ1.out]
          first
            | (rw [if_pos ⟨rfl, rfl, HA.out.2 (by omega)⟩])
            | (rw [if_neg (by rintro ⟨_, _, h⟩; have := HA.out.1 h; omega)])

theorem rcheck_any (z : Zn) (w : World) : Calls Tryz.prog 34 #[.agg (zc z)] w fun e w' => e = .returned (.int .i64 (ck z)) ∧ Later w w' := by
  by_cases h : z.b < -720 ∨ 840 < z.b ∨ z.s < 0 ∨ 120 < z.s
  · exact rcheck_low z w h
  by_cases hs : z.s = 0
  · exact rcheck_zero z w (by omega) (by omega) hs
  · exact rcheck_some z w (by omega) (by omega) (by omega) (by omega)

theorem rwhen_any (z : Zn) (t : Tn) (y : Int) (w : World) (b0 : -720 ≤ z.b) (b1 : z.b ≤ 840) (h1 : 1 ≤ y) (h2 : y ≤ 9999) (h : okB t = true) :
    Calls Tryz.prog 105 #[.agg (zc z), .agg (tc t), .int .i64 y] w fun e w' => e = .returned (.int .i64 (wn z t y)) ∧ Later w w' := by
  have N := Lib.hid (fun k W => Greg.rnth_all y t.m t.v k W)
  obtain ⟨f0, f1, f2, f3⟩ := wn_fits t y h1 h2 h
  have HV : Hid (nthV y t.m t.v (wk t.k) * 1440 + t.u - z.b = wn z t y) := (rfl : _ = wn z t y)
  have HZ := Lib.hid (Zat.new w z)
  have hT : ∀ w1, Later ((w.alloc (.cells (zc z) 28)).alloc (.cells (tc t) 26)) w1 → w1.cell? ⟨w.heap.size + 1, 3, none⟩ = some (.int .i64 t.u) := by
    intro w1 hg
    refine gsome hg ?_
    simp [tc]
  have HT := Lib.hid hT
  clear hT h h1 h2
  unfold wk at f0 f1 HV
  unfold zc tc
  by_cases h5 : t.k = 5
  · have e5 : (t.k == 5) = true := by simpa using h5
    rw [if_pos h5] at f0 f1 HV
    clear h5
    go_enter Tryz.func105, Tryz.ntmps105
    go_wp2_with fail
    refine (N.out _ _).mono ?_
    rintro e w1 ⟨rfl, hg1⟩
    have c3 := HT.out w1 hg1
    obtain ⟨c0, _⟩ := HZ.out.later (gtrans ((Later.refl _).alloc _ _) hg1)
    go_wp2_with fail
    go_ret
    exact ⟨reti HV.out, gtrans (((Later.refl w).alloc _ _).alloc _ _) hg1⟩
  · have e5 : (t.k == 5) = false := by simpa using h5
    rw [if_neg h5] at f0 f1 HV
    clear h5
    go_enter Tryz.func105, Tryz.ntmps105
    go_wp2_with fail
    refine (N.out _ _).mono ?_
    rintro e w1 ⟨rfl, hg1⟩
    have c3 := HT.out w1 hg1
    obtain ⟨c0, _⟩ := HZ.out.later (gtrans ((Later.refl _).alloc _ _) hg1)
    go_wp2_with fail
    go_ret
    exact ⟨reti HV.out, gtrans (((Later.refl w).alloc _ _).alloc _ _) hg1⟩

theorem rsummer_no (z : Zn) (t : Int) (w : World) (hs : z.s = 0) : Calls Tryz.prog 71 #[.agg (zc z), .int .i64 t] w fun e w' => e = .returned (.bool (sm z t)) ∧ Later w w' := by
  have HV := Lib.hid (sm_zero z t hs)
  have e0 : (z.s == 0) = true := by simpa using hs
  clear hs
  unfold zc
  go_enter Tryz.func71, Tryz.ntmps71
  go_wp2_with fail
  go_ret
  exact ⟨retb HV.out.symm, (Later.refl w).alloc _ _⟩

set_option maxHeartbeats 2000000 in
theorem rsummer_yes (z : Zn) (t : Int) (w : World) (h : May z) (hs : ¬ z.s = 0) (t0 : 576000 ≤ t) (t1 : t ≤ 5258879999) : Calls Tryz.prog 71 #[.agg (zc z), .int .i64 t] w fun e w' => e = .returned (.bool (sm z t)) ∧ Later w w' := by
  have e0 : (z.s == 0) = false := by simpa using hs
  obtain ⟨d0, d1⟩ := day_bd z t h t0 t1
  obtain ⟨y0, y1, _, _⟩ := Cal.yr_spec _ d0 d1
  obtain ⟨op, oq, _⟩ := may_on z h hs
  have b0 := h.1
  have b1 := h.2.1
  have D := Lib.hid (fun W => drew_g (rdiv_any (t + z.b) 1440 W (by omega) (by omega) (by omega) (by omega)))
  have O := Lib.hid (fun W => Greg.rof_any ((t + z.b) / 1440) W d0 d1)
  have P := Lib.hid (fun W => rwhen_any z z.p (yz z t) W h.1 h.2.1 y0 y1 op)
  have Q := Lib.hid (fun W => rwhen_any z z.q (yz z t) W h.1 h.2.1 y0 y1 oq)
  have HV : Hid (sm z t = inB (wn z z.p (yz z t)) (wn z z.q (yz z t)) t) := by
    have : sm z t = inB (wn z z.p (yz z t)) (wn z z.q (yz z t)) t := by unfold sm; rw [if_neg hs]
    exact this
  have HN := Lib.hid (Zat.new w z)
  have HY : Hid (yr ((t + z.b) / 1440) = yz z t) := (rfl : yr ((t + z.b) / 1440) = yz z t)
  clear hs d0 d1 y0 y1 op oq
  unfold zc
  go_enter Tryz.func71, Tryz.ntmps71
  go_wp2_with fail
  refine (D.out _).mono ?_
  rintro e w1 ⟨rfl, hg1⟩
  have HG1 := Lib.hid (gtrans ((Later.refl w).alloc _ _) hg1)
  have z1 := HN.out.later hg1
  have HZ1 := Lib.hid z1
  clear hg1 z1
  go_wp2_with fail
  refine (O.out _).mono ?_
  rintro e w2 ⟨rfl, hg2⟩
  rw [HY.out]
  have HG2 := Lib.hid (gtrans HG1.out hg2)
  have HZ2 := Lib.hid (HZ1.out.later hg2)
  have z2 := HZ1.out.later (hg2.alloc #[.int .i64 (yz z t), .int .i64 (om ((t + z.b) / 1440)), .int .i64 (od ((t + z.b) / 1440))] 63)
  obtain ⟨c0, c1, c2, c3, c4, c5, c6, c7, c8, c9⟩ := z2
  clear hg2
  go_wp2_with fail
  refine (P.out _).mono ?_
  rintro e w3 ⟨rfl, hg3⟩
  have HG3 := Lib.hid (gtrans (HG2.out.alloc _ _) hg3)
  have y3 : w3.cell? ⟨w2.heap.size, 0, none⟩ = some (.int .i64 (yz z t)) := gsome hg3 (by simp)
  have HY3 := Lib.hid y3
  have z3 := HZ2.out.later (gtrans ((Later.refl _).alloc _ _) hg3)
  clear c0 c1 c2 c3 c4 c5 c6 c7 c8 c9
  obtain ⟨c0, c1, c2, c3, c4, c5, c6, c7, c8, c9⟩ := z3
  clear hg3
  go_wp2_with fail
  refine (Q.out _).mono ?_
  rintro e w4 ⟨rfl, hg4⟩
  have HG4 := Lib.hid (gtrans HG3.out hg4)
  clear c0 c1 c2 c3 c4 c5 c6 c7 c8 c9 hg4 y3
  generalize wn z z.p (yz z t) = a at *
  generalize wn z z.q (yz z t) = b at *
  by_cases hab : a < b
  · by_cases h1 : a ≤ t
    · have R := Lib.hid (show inB a b t = decide (t < b) by rw [inB_lt a b t hab]; simp [h1])
      go_wp2_with fail
      go_ret
      exact ⟨retb (by rw [HV.out, R.out]), HG4.out⟩
    · have R := Lib.hid (show inB a b t = false by rw [inB_lt a b t hab]; simp [h1])
      go_wp2_with fail
      go_ret
      exact ⟨retb (by rw [HV.out, R.out]), HG4.out⟩
  · by_cases h1 : b ≤ t
    · have R := Lib.hid (show inB a b t = !decide (t < a) by
        rw [inB_ge a b t hab]
        rw [show decide (t < b) = false by simp; omega, Bool.false_or]
        by_cases h2 : t < a
        · rw [show decide (a ≤ t) = false by simp; omega, show decide (t < a) = true by simp; omega]; rfl
        · rw [show decide (a ≤ t) = true by simp; omega, show decide (t < a) = false by simp; omega]; rfl)
      go_wp2_with fail
      go_ret
      exact ⟨retb (by rw [HV.out, R.out]), HG4.out⟩
    · have R := Lib.hid (show inB a b t = true by rw [inB_ge a b t hab]; rw [show decide (t < b) = true by simp; omega]; rfl)
      go_wp2_with fail
      go_ret
      exact ⟨retb (by rw [HV.out, R.out]), HG4.out⟩

theorem rsummer_any (z : Zn) (t : Int) (w : World) (h : May z) (t0 : 576000 ≤ t) (t1 : t ≤ 5258879999) : Calls Tryz.prog 71 #[.agg (zc z), .int .i64 t] w fun e w' => e = .returned (.bool (sm z t)) ∧ Later w w' := by
  by_cases hs : z.s = 0
  · exact rsummer_no z t w hs
  · exact rsummer_yes z t w h hs t0 t1

theorem rtold_any (z : Zn) (t : Int) (w : World) (h : May z) (t0 : 576000 ≤ t) (t1 : t ≤ 5258879999) : Calls Tryz.prog 42 #[.agg (zc z), .int .i64 t] w fun e w' => e = .returned (.int .i64 (td z t)) ∧ Later w w' := by
  have S := fun W => rsummer_any z t W h t0 t1
  have HN := Lib.hid (Zat.new w z)
  unfold May at h
  obtain ⟨b0, b1, s0, s1, _⟩ := h
  unfold zc at *
  rcases td_cases z t with ⟨hs, ht⟩ | ⟨hs, ht⟩
  all_goals
    have HT := Lib.hid ht
    rw [hs] at S
    have HS := Lib.hid S
    clear S hs ht
    go_enter Tryz.func42, Tryz.ntmps42
    go_wp2_with fail
    refine (HS.out _).mono ?_
    rintro e w1 ⟨rfl, hg1⟩
    have HG1 := Lib.hid (gtrans ((Later.refl w).alloc _ _) hg1)
    obtain ⟨c0, c1, c2, c3, c4, c5, c6, c7, c8, c9⟩ := HN.out.later hg1
    clear hg1
    go_wp2_with fail
    go_ret
    exact ⟨reti HT.out.symm, HG1.out⟩

end Go.Proofs.YtihdijkplmfhfaaGreatDoor.Zone

/- The document's instants of a minute, and whether two rows of numbers are the same. Conditions: the zone may be, the day and the minute may be asked, as each theorem says; the rows are of at most two numbers. -/
namespace Go.Proofs.YtihdijkplmfhfaaGreatDoor.Zone
set_option maxRecDepth 100000
open Go.ChangeShapes Go.WideShapes Go.ChangeAt Go.RowKit
open Go.Proofs.YtihdijkplmfhfaaGreatDoor.Divs Go.Proofs.YtihdijkplmfhfaaGreatDoor.Grow
open Go.Proofs.YtihdijkplmfhfaaGreatDoor.Zo

theorem td_early (z : Zn) (n : Int) (hs : 0 < z.s) : (td z (n - z.b - z.s) == n) = sm z (n - z.b - z.s) := by
  rcases td_cases z (n - z.b - z.s) with ⟨h, e⟩ | ⟨h, e⟩
  · rw [h, e]; simp; omega
  · rw [h, e]; simp; omega

theorem td_late (z : Zn) (n : Int) : (td z (n - z.b) == n) = !sm z (n - z.b) := by
  rcases td_cases z (n - z.b) with ⟨h, e⟩ | ⟨h, e⟩
  · have hs : ¬ z.s = 0 := by
      intro h0
      rw [sm_zero z _ h0] at h
      exact absurd h (by simp)
    rw [h, e]; simp; omega
  · rw [h, e]; simp

set_option maxHeartbeats 2000000 in
theorem rinstants_any (z : Zn) (d m : Int) (w : World) (hz : May z) (d0 : 401 ≤ d) (d1 : d ≤ 3651998) (m0 : 0 ≤ m) (m1 : m ≤ 1439) : Calls Tryz.prog 68 #[.agg (zc z), .int .i64 d, .int .i64 m] w fun e w' => ∃ v, e = .returned v ∧ Sl w' v (ins z (d * 1440 + m)) ∧ Later w w' := by
  have hz' := hz
  unfold May at hz'
  obtain ⟨b0, b1, s0, s1, _⟩ := hz'
  have S1 := Lib.hid (fun W => rtold_any z (d * 1440 + m - z.b - z.s) W hz (by omega) (by omega))
  have S2 := Lib.hid (fun W => rtold_any z (d * 1440 + m - z.b) W hz (by omega) (by omega))
  have HN := Lib.hid (Zat.new w z)
  have HW := Lib.hid ((Later.refl w).alloc (zc z) 28)
  obtain ⟨i0, hi, hz0, hz1, hz2⟩ := info_parts info_int
  have HI := Lib.hid hi
  have HZ0 := Lib.hid hz0
  have HZ1 := Lib.hid hz1
  have HZ2 := Lib.hid hz2
  clear hi hz0 hz1 hz2 hz
  have t2 := td_late z (d * 1440 + m)
  unfold ins
  by_cases hs : 0 < z.s
  · have t1 := td_early z (d * 1440 + m) hs
    have t0 : decide (0 < z.s) = true := by simpa using hs
    cases p : sm z (d * 1440 + m - z.b - z.s) <;> cases q : sm z (d * 1440 + m - z.b)
    all_goals
      rw [p] at t1
      rw [q] at t2
      clear p q
    · unfold zc
      go_enter Tryz.func68, Tryz.ntmps68
      go_wp2_with fail
      refine (S1.out _).mono ?_
      rintro e w2 ⟨rfl, hg2⟩
      have HL2 : Hid (Later (w.alloc (.cells (zc z) 28)) w2) := Lib.hid hg2
      obtain ⟨c0, c1, c2, c3, c4, c5, c6, c7, c8, c9⟩ := HN.out.later HL2.out
      clear hg2
      go_wp2_with fail
      refine (S2.out _).mono ?_
      rintro e w5 ⟨rfl, hg5⟩
      have HL5 : Hid (Later (w.alloc (.cells (zc z) 28)) w5) := Lib.hid (gtrans HL2.out hg5)
      clear c0 c1 c2 c3 c4 c5 c6 c7 c8 c9
      obtain ⟨c0, c1, c2, c3, c4, c5, c6, c7, c8, c9⟩ := HN.out.later HL5.out
      clear hg5
      have ON : SL w5 (w.alloc (.cells (zc z) 28)).heap.size (.slice none 0 0) [] := World.ownsRow_nil _ _ _ _
      go_wp2_with (at_builtin; go_loud (refine wpList_append_own _ rfl _ _ 22 rfl (w.alloc (.cells (zc z) 28)).heap.size 3 i0 (.int .i64 0) 1 8 Tryz.underlying22 HI.out HZ0.out HZ1.out HZ2.out rfl (by decide) _ _ _ rfl (World.ownsRow.alloc ON _) ⟨w5.heap.size, 0, none⟩ 1 1 [.int .i64 (d * 1440 + m - z.b)] rfl rfl (cell_one_new _ _ _) (by simp [Value.oneCell']) (by simp only [maxLen]; simp) (by simp) (by have := HL5.out.size; simp only [World.size_alloc] at this ⊢; omega) ?_); go_loud (intro v' w4 hown' hgrow _; obtain ⟨g', cap', rfl⟩ := ownsRow_succ hown'; have HL6 := Lib.hid (later_grown (xs := ([] : List Int)) (HL5.out.put _) (ON.later ((Later.refl _).put _)) hgrow); have HO6 : Hid (SL w4 (w.alloc (.cells (zc z) 28)).heap.size _ (([] : List Int) ++ [d * 1440 + m - z.b])) := Lib.hid (by unfold SL; rw [List.length_append, List.map_append]; exact hown'); clear hown' hgrow; obtain ⟨c0, c1, c2, c3, c4, c5, c6, c7, c8, c9⟩ := HN.out.later HL6.out))
      go_ret
      exact ⟨_, rfl, HO6.out.sl, gtrans HW.out HL6.out⟩
    · unfold zc
      go_enter Tryz.func68, Tryz.ntmps68
      go_wp2_with fail
      refine (S1.out _).mono ?_
      rintro e w2 ⟨rfl, hg2⟩
      have HL2 : Hid (Later (w.alloc (.cells (zc z) 28)) w2) := Lib.hid hg2
      obtain ⟨c0, c1, c2, c3, c4, c5, c6, c7, c8, c9⟩ := HN.out.later HL2.out
      clear hg2
      go_wp2_with fail
      refine (S2.out _).mono ?_
      rintro e w5 ⟨rfl, hg5⟩
      have HL5 : Hid (Later (w.alloc (.cells (zc z) 28)) w5) := Lib.hid (gtrans HL2.out hg5)
      clear c0 c1 c2 c3 c4 c5 c6 c7 c8 c9
      obtain ⟨c0, c1, c2, c3, c4, c5, c6, c7, c8, c9⟩ := HN.out.later HL5.out
      clear hg5
      go_wp2_with fail
      go_ret
      exact ⟨_, rfl, sl_nil _, gtrans HW.out HL5.out⟩
    · unfold zc
      go_enter Tryz.func68, Tryz.ntmps68
      go_wp2_with fail
      refine (S1.out _).mono ?_
      rintro e w2 ⟨rfl, hg2⟩
      have HL2 : Hid (Later (w.alloc (.cells (zc z) 28)) w2) := Lib.hid hg2
      obtain ⟨c0, c1, c2, c3, c4, c5, c6, c7, c8, c9⟩ := HN.out.later HL2.out
      clear hg2
      have ON : SL w2 (w.alloc (.cells (zc z) 28)).heap.size (.slice none 0 0) [] := World.ownsRow_nil _ _ _ _
      go_wp2_with (at_builtin; go_loud (refine wpList_append_own _ rfl _ _ 22 rfl (w.alloc (.cells (zc z) 28)).heap.size 3 i0 (.int .i64 0) 1 8 Tryz.underlying22 HI.out HZ0.out HZ1.out HZ2.out rfl (by decide) _ _ _ rfl (World.ownsRow.alloc ON _) ⟨w2.heap.size, 0, none⟩ 1 1 [.int .i64 (d * 1440 + m - z.b - z.s)] rfl rfl (cell_one_new _ _ _) (by simp [Value.oneCell']) (by simp only [maxLen]; simp) (by simp) (by have := HL2.out.size; simp only [World.size_alloc] at this ⊢; omega) ?_); go_loud (intro v' w4 hown' hgrow _; obtain ⟨g', cap', rfl⟩ := ownsRow_succ hown'; have HL3 := Lib.hid (later_grown (xs := ([] : List Int)) (HL2.out.put _) (ON.later ((Later.refl _).put _)) hgrow); have HO3 : Hid (SL w4 (w.alloc (.cells (zc z) 28)).heap.size _ (([] : List Int) ++ [d * 1440 + m - z.b - z.s])) := Lib.hid (by unfold SL; rw [List.length_append, List.map_append]; exact hown'); clear hown' hgrow; obtain ⟨c0, c1, c2, c3, c4, c5, c6, c7, c8, c9⟩ := HN.out.later HL3.out))
      refine (S2.out _).mono ?_
      rintro e w5 ⟨rfl, hg5⟩
      have HL5 : Hid (Later (w.alloc (.cells (zc z) 28)) w5) := Lib.hid (gtrans HL3.out hg5)
      clear c0 c1 c2 c3 c4 c5 c6 c7 c8 c9
      obtain ⟨c0, c1, c2, c3, c4, c5, c6, c7, c8, c9⟩ := HN.out.later HL5.out
      have HO5 := Lib.hid (HO3.out.later hg5)
      clear hg5
      go_wp2_with (at_builtin; go_loud (refine wpList_append_own _ rfl _ _ 22 rfl (w.alloc (.cells (zc z) 28)).heap.size 3 i0 (.int .i64 0) 1 8 Tryz.underlying22 HI.out HZ0.out HZ1.out HZ2.out rfl (by decide) _ _ _ rfl (World.ownsRow.alloc HO5.out _) ⟨w5.heap.size, 0, none⟩ 1 1 [.int .i64 (d * 1440 + m - z.b)] rfl rfl (cell_one_new _ _ _) (by simp [Value.oneCell']) (by simp only [maxLen]; simp) (by simp) (by have := HL5.out.size; simp only [World.size_alloc] at this ⊢; omega) ?_); go_loud (intro v' w4 hown' hgrow _; obtain ⟨g', cap', rfl⟩ := ownsRow_succ hown'; have HL6 := Lib.hid (later_grown (xs := ([] ++ [d * 1440 + m - z.b - z.s] : List Int)) (HL5.out.put _) (HO5.out.later ((Later.refl _).put _)) hgrow); have HO6 : Hid (SL w4 (w.alloc (.cells (zc z) 28)).heap.size _ (([] ++ [d * 1440 + m - z.b - z.s] : List Int) ++ [d * 1440 + m - z.b])) := Lib.hid (by unfold SL; rw [List.length_append, List.map_append]; exact hown'); clear hown' hgrow; obtain ⟨c0, c1, c2, c3, c4, c5, c6, c7, c8, c9⟩ := HN.out.later HL6.out))
      go_ret
      exact ⟨_, rfl, HO6.out.sl, gtrans HW.out HL6.out⟩
    · unfold zc
      go_enter Tryz.func68, Tryz.ntmps68
      go_wp2_with fail
      refine (S1.out _).mono ?_
      rintro e w2 ⟨rfl, hg2⟩
      have HL2 : Hid (Later (w.alloc (.cells (zc z) 28)) w2) := Lib.hid hg2
      obtain ⟨c0, c1, c2, c3, c4, c5, c6, c7, c8, c9⟩ := HN.out.later HL2.out
      clear hg2
      have ON : SL w2 (w.alloc (.cells (zc z) 28)).heap.size (.slice none 0 0) [] := World.ownsRow_nil _ _ _ _
      go_wp2_with (at_builtin; go_loud (refine wpList_append_own _ rfl _ _ 22 rfl (w.alloc (.cells (zc z) 28)).heap.size 3 i0 (.int .i64 0) 1 8 Tryz.underlying22 HI.out HZ0.out HZ1.out HZ2.out rfl (by decide) _ _ _ rfl (World.ownsRow.alloc ON _) ⟨w2.heap.size, 0, none⟩ 1 1 [.int .i64 (d * 1440 + m - z.b - z.s)] rfl rfl (cell_one_new _ _ _) (by simp [Value.oneCell']) (by simp only [maxLen]; simp) (by simp) (by have := HL2.out.size; simp only [World.size_alloc] at this ⊢; omega) ?_); go_loud (intro v' w4 hown' hgrow _; obtain ⟨g', cap', rfl⟩ := ownsRow_succ hown'; have HL3 := Lib.hid (later_grown (xs := ([] : List Int)) (HL2.out.put _) (ON.later ((Later.refl _).put _)) hgrow); have HO3 : Hid (SL w4 (w.alloc (.cells (zc z) 28)).heap.size _ (([] : List Int) ++ [d * 1440 + m - z.b - z.s])) := Lib.hid (by unfold SL; rw [List.length_append, List.map_append]; exact hown'); clear hown' hgrow; obtain ⟨c0, c1, c2, c3, c4, c5, c6, c7, c8, c9⟩ := HN.out.later HL3.out))
      refine (S2.out _).mono ?_
      rintro e w5 ⟨rfl, hg5⟩
      have HL5 : Hid (Later (w.alloc (.cells (zc z) 28)) w5) := Lib.hid (gtrans HL3.out hg5)
      clear c0 c1 c2 c3 c4 c5 c6 c7 c8 c9
      obtain ⟨c0, c1, c2, c3, c4, c5, c6, c7, c8, c9⟩ := HN.out.later HL5.out
      have HO5 := Lib.hid (HO3.out.later hg5)
      clear hg5
      go_wp2_with fail
      go_ret
      exact ⟨_, rfl, HO5.out.sl, gtrans HW.out HL5.out⟩
  · have t0 : decide (0 < z.s) = false := by simpa using hs
    rw [sm_zero z _ (by omega)] at t2
    rw [sm_zero z _ (by omega), sm_zero z _ (by omega)]
    clear hs
    unfold zc
    go_enter Tryz.func68, Tryz.ntmps68
    have HL2 := Lib.hid (Later.refl (w.alloc (.cells (zc z) 28)))
    go_wp2_with fail
    refine (S2.out _).mono ?_
    rintro e w5 ⟨rfl, hg5⟩
    have HL5 : Hid (Later (w.alloc (.cells (zc z) 28)) w5) := Lib.hid (gtrans HL2.out hg5)
    obtain ⟨c0, c1, c2, c3, c4, c5, c6, c7, c8, c9⟩ := HN.out.later HL5.out
    clear hg5
    have ON : SL w5 (w.alloc (.cells (zc z) 28)).heap.size (.slice none 0 0) [] := World.ownsRow_nil _ _ _ _
    go_wp2_with (at_builtin; go_loud (refine wpList_append_own _ rfl _ _ 22 rfl (w.alloc (.cells (zc z) 28)).heap.size 3 i0 (.int .i64 0) 1 8 Tryz.underlying22 HI.out HZ0.out HZ1.out HZ2.out rfl (by decide) _ _ _ rfl (World.ownsRow.alloc ON _) ⟨w5.heap.size, 0, none⟩ 1 1 [.int .i64 (d * 1440 + m - z.b)] rfl rfl (cell_one_new _ _ _) (by simp [Value.oneCell']) (by simp only [maxLen]; simp) (by simp) (by have := HL5.out.size; simp only [World.size_alloc] at this ⊢; omega) ?_); go_loud (intro v' w4 hown' hgrow _; obtain ⟨g', cap', rfl⟩ := ownsRow_succ hown'; have HL6 := Lib.hid (later_grown (xs := ([] : List Int)) (HL5.out.put _) (ON.later ((Later.refl _).put _)) hgrow); have HO6 : Hid (SL w4 (w.alloc (.cells (zc z) 28)).heap.size _ (([] : List Int) ++ [d * 1440 + m - z.b])) := Lib.hid (by unfold SL; rw [List.length_append, List.map_append]; exact hown'); clear hown' hgrow; obtain ⟨c0, c1, c2, c3, c4, c5, c6, c7, c8, c9⟩ := HN.out.later HL6.out))
    go_ret
    exact ⟨_, rfl, HO6.out.sl, gtrans HW.out HL6.out⟩

end Go.Proofs.YtihdijkplmfhfaaGreatDoor.Zone
