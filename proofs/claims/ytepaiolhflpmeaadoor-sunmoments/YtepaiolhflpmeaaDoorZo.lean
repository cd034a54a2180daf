/-
  Plain facts on clocks, in whole numbers: which zones may be, a turn's instant, when clocks are shifted, what they tell, and what happens at a turn. No condition but those that each theorem states.
-/
import Derived.Test.YtepaiolhflpmeaaDoorRefNth
namespace Go.Proofs.YtepaiolhflpmeaaDoor.Zo
open Go.Proofs.YtepaiolhflpmeaaDoor.Cal (lp ln tab dm ya ma dn yr mo om od)
open Go.Proofs.YtepaiolhflpmeaaDoor.Greg (fo fst nthV nthE)

/-- A turn: month, week, weekday, minute. -/
structure Tn where
  m : Int
  k : Int
  v : Int
  u : Int

/-- A zone: base, shift, and its two turns. -/
structure Zn where
  b : Int
  s : Int
  p : Tn
  q : Tn

def ztB (t : Tn) : Bool := t.m == 0 && (t.k == 0 && (t.v == 0 && t.u == 0))

def okB (t : Tn) : Bool := decide (1 ≤ t.m ∧ t.m ≤ 12 ∧ 1 ≤ t.k ∧ t.k ≤ 5 ∧ 0 ≤ t.v ∧ t.v ≤ 6 ∧ 0 ≤ t.u ∧ t.u ≤ 1439)

theorem ztB_iff (t : Tn) : ztB t = true ↔ t.m = 0 ∧ t.k = 0 ∧ t.v = 0 ∧ t.u = 0 := by simp [ztB]

theorem okB_iff (t : Tn) : okB t = true ↔ 1 ≤ t.m ∧ t.m ≤ 12 ∧ 1 ≤ t.k ∧ t.k ≤ 5 ∧ 0 ≤ t.v ∧ t.v ≤ 6 ∧ 0 ≤ t.u ∧ t.u ≤ 1439 := by simp [okB]

/-- May a turn not be, where the shift is s? -/
def wrB (s : Int) (t : Tn) : Bool := if s = 0 then !ztB t else !okB t

/-- Are the months of both far enough from each other? -/
def apB (z : Zn) : Bool := decide ((2 ≤ z.p.m - z.q.m ∧ z.p.m - z.q.m ≤ 10) ∨ (2 ≤ z.q.m - z.p.m ∧ z.q.m - z.p.m ≤ 10))

theorem apB_iff (z : Zn) : apB z = true ↔ (2 ≤ z.p.m - z.q.m ∧ z.p.m - z.q.m ≤ 10) ∨ (2 ≤ z.q.m - z.p.m ∧ z.q.m - z.p.m ≤ 10) := by simp [apB]

def badB (z : Zn) : Bool := wrB z.s z.p || (wrB z.s z.q || (!decide (z.s = 0) && !apB z))

/-- The error of a zone, or 0. -/
def ck (z : Zn) : Int := if z.b < -720 ∨ 840 < z.b then 60 else if z.s < 0 ∨ 120 < z.s then 61 else if badB z = true then 62 else 0

/-- A zone that may be. -/
def May (z : Zn) : Prop := -720 ≤ z.b ∧ z.b ≤ 840 ∧ 0 ≤ z.s ∧ z.s ≤ 120 ∧ ((z.s = 0 ∧ ztB z.p = true ∧ ztB z.q = true) ∨ (1 ≤ z.s ∧ okB z.p = true ∧ okB z.q = true ∧ apB z = true))

theorem ck_may (z : Zn) : ck z = 0 ↔ May z := by
  unfold ck May
  by_cases h1 : z.b < -720 ∨ 840 < z.b
  · rw [if_pos h1]; constructor
    · intro h; omega
    · intro h; omega
  rw [if_neg h1]
  by_cases h2 : z.s < 0 ∨ 120 < z.s
  · rw [if_pos h2]; constructor
    · intro h; omega
    · intro h; omega
  rw [if_neg h2]
  by_cases h3 : z.s = 0
  · have e : badB z = (!ztB z.p || !ztB z.q) := by unfold badB wrB; simp [h3]
    rw [e]
    cases ztB z.p <;> cases ztB z.q <;> simp <;> omega
  · have e : badB z = (!okB z.p || (!okB z.q || !apB z)) := by unfold badB wrB; simp [h3]
    rw [e]
    cases okB z.p <;> cases okB z.q <;> cases apB z <;> simp <;> omega

theorem ck_cases (z : Zn) : ck z = 0 ∨ ck z = 60 ∨ ck z = 61 ∨ ck z = 62 := by
  unfold ck
  split
  · omega
  · split
    · omega
    · split <;> omega

/-- Which one of a month: 5 is the last one. -/
def wk (k : Int) : Int := if k = 5 then -1 else k

/-- A turn's instant in a year. -/
def wn (z : Zn) (t : Tn) (y : Int) : Int := nthV y t.m t.v (wk t.k) * 1440 + t.u - z.b

/-- The year of an instant's unshifted day. -/
def yz (z : Zn) (t : Int) : Int := yr ((t + z.b) / 1440)

/-- Is t between the turns a and b? -/
def inB (a b t : Int) : Bool := if a < b then decide (a ≤ t ∧ t < b) else decide (t < b ∨ a ≤ t)

/-- Are clocks shifted? -/
def sm (z : Zn) (t : Int) : Bool := if z.s = 0 then false else inB (wn z z.p (yz z t)) (wn z z.q (yz z t)) t

/-- What clocks tell. -/
def td (z : Zn) (t : Int) : Int := if sm z t = true then t + z.b + z.s else t + z.b

theorem td_cases (z : Zn) (t : Int) : (sm z t = true ∧ td z t = t + z.b + z.s) ∨ (sm z t = false ∧ td z t = t + z.b) := by
  unfold td; cases sm z t <;> simp

theorem sm_zero (z : Zn) (t : Int) (h : z.s = 0) : sm z t = false := by unfold sm; rw [if_pos h]

theorem inB_iff (a b t : Int) : inB a b t = true ↔ (a < b ∧ a ≤ t ∧ t < b) ∨ (b ≤ a ∧ (t < b ∨ a ≤ t)) := by
  unfold inB
  split <;> simp <;> omega

theorem inB_not (a b t : Int) : inB a b t = false ↔ (a < b ∧ (t < a ∨ b ≤ t)) ∨ (b ≤ a ∧ b ≤ t ∧ t < a) := by
  rw [← Bool.not_eq_true, inB_iff]; omega

/-- A turn's day lies in its month. -/
theorem nth_in (y : Int) (t : Tn) (h1 : 1 ≤ y) (h2 : y ≤ 9999) (h : okB t = true) :
    ya y + ma y t.m + 1 ≤ nthV y t.m t.v (wk t.k) ∧ nthV y t.m t.v (wk t.k) ≤ ya y + ma y t.m + dm y t.m ∧ nthE y t.m t.v (wk t.k) = 0 := by
  rw [okB_iff] at h
  have d := Cal.dm_bd y t.m h1 h2 (by omega) (by omega)
  have f1 := Greg.fo_bd (fst y t.m) t.v (by omega) (by omega)
  have f2 := Greg.fo_bd (fst y t.m + dm y t.m - 7) t.v (by omega) (by omega)
  unfold nthV nthE wk
  by_cases h5 : t.k = 5
  · rw [if_pos h5, if_neg (by omega), if_pos rfl, if_neg (by omega), if_neg (by omega), if_pos rfl]
    unfold fst at *
    omega
  · rw [if_neg h5, if_neg (by omega), if_neg (by omega), if_pos (by omega), if_neg (by omega), if_neg (by omega), if_neg (by omega), if_pos (by omega)]
    unfold fst at *
    omega

theorem ln_le (y : Int) : 365 ≤ ln y ∧ ln y ≤ 366 := by rcases Cal.ln_cases y with ⟨_, e⟩ | ⟨_, e⟩ <;> omega

/-- A turn's day lies in its year. -/
theorem nth_year (y : Int) (t : Tn) (h1 : 1 ≤ y) (h2 : y ≤ 9999) (h : okB t = true) :
    ya y < nthV y t.m t.v (wk t.k) ∧ nthV y t.m t.v (wk t.k) ≤ ya (y + 1) := by
  obtain ⟨a, b, _⟩ := nth_in y t h1 h2 h
  rw [okB_iff] at h
  have s := Cal.ma_succ y t.m h1 h2 (by omega) (by omega)
  have c := Cal.ma_bd y t.m (by omega)
  have d := Cal.ma_bd y (t.m + 1) (by omega)
  have e := Cal.ya_succ y
  omega

theorem wn_bd (z : Zn) (y : Int) (t : Tn) (hz : May z) (h1 : 1 ≤ y) (h2 : y ≤ 9999) (h : okB t = true) :
    ya y * 1440 + 600 ≤ wn z t y ∧ wn z t y < ya (y + 1) * 1440 + 1440 + 720 ∧ ya y * 1440 + 1440 ≤ wn z t y + z.b ∧ wn z t y + z.b < ya (y + 1) * 1440 + 1440 := by
  obtain ⟨a, b⟩ := nth_year y t h1 h2 h
  rw [okB_iff] at h
  unfold May at hz
  unfold wn
  omega

theorem yz_in (z : Zn) (t y : Int) (h1 : 1 ≤ y) (h2 : y ≤ 9999) (a : ya y * 1440 + 1440 ≤ t + z.b) (b : t + z.b < ya (y + 1) * 1440 + 1440) : yz z t = y := by
  unfold yz
  exact Cal.yr_only y _ h1 h2 (by omega) (by omega)

/-- Of two turns of a year the one in the earlier month comes first. -/
theorem wn_lt (z : Zn) (y : Int) (s t : Tn) (h1 : 1 ≤ y) (h2 : y ≤ 9999) (hs : okB s = true) (ht : okB t = true) (h : s.m + 2 ≤ t.m) :
    wn z s y + 28 * 1440 ≤ wn z t y := by
  obtain ⟨a, b, _⟩ := nth_in y s h1 h2 hs
  obtain ⟨c, d, _⟩ := nth_in y t h1 h2 ht
  rw [okB_iff] at hs ht
  have e := Cal.ma_succ y s.m h1 h2 (by omega) (by omega)
  have f := Cal.ma_succ y (s.m + 1) h1 h2 (by omega) (by omega)
  have g := Cal.ma_mono y (s.m + 1 + 1) t.m (by omega)
  have i := Cal.dm_bd y (s.m + 1) h1 h2 (by omega) (by omega)
  unfold wn
  omega

/-- A turn that is not in the last month lies ahead of the next year's beginning, by a month's days. -/
theorem wn_end (z : Zn) (y : Int) (t : Tn) (h1 : 1 ≤ y) (h2 : y ≤ 9999) (ht : okB t = true) (h : t.m ≤ 11) :
    wn z t y + z.b + 28 * 1440 < ya (y + 1) * 1440 + 1440 := by
  obtain ⟨c, d, _⟩ := nth_in y t h1 h2 ht
  rw [okB_iff] at ht
  have e := Cal.ma_succ y t.m h1 h2 (by omega) (by omega)
  have f := Cal.ma_mono y (t.m + 1) 12 (by omega)
  have g := Cal.ma_succ y 12 h1 h2 (by omega) (by omega)
  have g2 : ma y (12 + 1) = ln y := Cal.ma_end y
  have i := Cal.dm_bd y 12 h1 h2 (by omega) (by omega)
  have j := Cal.ya_succ y
  unfold wn
  omega

theorem sm_of (z : Zn) (t y : Int) (hs : ¬ z.s = 0) (h1 : 1 ≤ y) (h2 : y ≤ 9999) (a : ya y * 1440 + 1440 ≤ t + z.b) (b : t + z.b < ya (y + 1) * 1440 + 1440) :
    sm z t = inB (wn z z.p y) (wn z z.q y) t := by
  unfold sm
  rw [if_neg hs, yz_in z t y h1 h2 a b]

/-- The two turns' months, told apart. -/
theorem may_on (z : Zn) (hz : May z) (hs : ¬ z.s = 0) : okB z.p = true ∧ okB z.q = true ∧ (z.p.m + 2 ≤ z.q.m ∨ z.q.m + 2 ≤ z.p.m) := by
  unfold May at hz
  rcases hz with ⟨_, _, _, _, ⟨h, _⟩ | ⟨_, a, b, c⟩⟩
  · exact absurd h hs
  · rw [apB_iff] at c
    exact ⟨a, b, by omega⟩

/-- A minute ahead of a turn it is the same year, or the one ahead of it, if the turn is at its very beginning. -/
theorem ahead (z : Zn) (y : Int) (t : Tn) (hz : May z) (h1 : 2 ≤ y) (h2 : y ≤ 9999) (h : okB t = true) :
    (ya y * 1440 + 1440 ≤ wn z t y - 1 + z.b ∧ wn z t y - 1 + z.b < ya (y + 1) * 1440 + 1440) ∨ (t.m = 1 ∧ wn z t y + z.b = ya y * 1440 + 1440) := by
  obtain ⟨_, _, c, d⟩ := wn_bd z y t hz (by omega) h2 h
  by_cases e : ya y * 1440 + 1440 ≤ wn z t y - 1 + z.b
  · left; omega
  · right
    refine ⟨?_, by omega⟩
    obtain ⟨f, _, _⟩ := nth_in y t (by omega) h2 h
    rw [okB_iff] at h
    by_cases hm : t.m = 1
    · exact hm
    · have g := Cal.ma_mono y 2 t.m (by omega)
      have i := Cal.ma_succ y 1 (by omega) h2 (by omega) (by omega)
      have j := Cal.dm_bd y 1 (by omega) h2 (by omega) (by omega)
      have k := Cal.ma_one y
      have l : ma y (1 + 1) = ma y 2 := rfl
      unfold wn at e c
      omega

/-- At a turn clocks are set, and not a minute ahead. -/
theorem turns (z : Zn) (y : Int) (hz : May z) (hs : ¬ z.s = 0) (h1 : 3 ≤ y) (h2 : y ≤ 9990) :
    sm z (wn z z.p y) = true ∧ sm z (wn z z.p y - 1) = false ∧ sm z (wn z z.q y) = false ∧ sm z (wn z z.q y - 1) = true := by
  obtain ⟨op, oq, hm⟩ := may_on z hz hs
  have hmp := (okB_iff z.p).1 op
  have hmq := (okB_iff z.q).1 oq
  obtain ⟨p1, p2, p3, p4⟩ := wn_bd z y z.p hz (by omega) (by omega) op
  obtain ⟨q1, q2, q3, q4⟩ := wn_bd z y z.q hz (by omega) (by omega) oq
  have ne : wn z z.p y + 28 * 1440 ≤ wn z z.q y ∨ wn z z.q y + 28 * 1440 ≤ wn z z.p y := by
    rcases hm with h | h
    · exact .inl (wn_lt z y z.p z.q (by omega) (by omega) op oq h)
    · exact .inr (wn_lt z y z.q z.p (by omega) (by omega) oq op h)
  have e : y - 1 + 1 = y := by omega
  refine ⟨?_, ?_, ?_, ?_⟩
  · rw [sm_of z _ y hs (by omega) (by omega) p3 p4, inB_iff]; omega
  · rcases ahead z y z.p hz (by omega) (by omega) op with ⟨a, b⟩ | ⟨a, b⟩
    · rw [sm_of z _ y hs (by omega) (by omega) a b, inB_not]; omega
    · have l := Cal.ya_lt (y - 1) y (by omega)
      rw [sm_of z _ (y - 1) hs (by omega) (by omega) (by omega) (by rw [e]; omega), inB_not]
      have h := wn_lt z (y - 1) z.p z.q (by omega) (by omega) op oq (by omega)
      have g := wn_end z (y - 1) z.q (by omega) (by omega) oq (by unfold May at hz; rw [apB_iff] at hz; omega)
      rw [e] at g
      omega
  · rw [sm_of z _ y hs (by omega) (by omega) q3 q4, inB_not]; omega
  · rcases ahead z y z.q hz (by omega) (by omega) oq with ⟨a, b⟩ | ⟨a, b⟩
    · rw [sm_of z _ y hs (by omega) (by omega) a b, inB_iff]; omega
    · have l := Cal.ya_lt (y - 1) y (by omega)
      rw [sm_of z _ (y - 1) hs (by omega) (by omega) (by omega) (by rw [e]; omega), inB_iff]
      have h := wn_lt z (y - 1) z.q z.p (by omega) (by omega) oq op (by omega)
      have g := wn_end z (y - 1) z.p (by omega) (by omega) op (by unfold May at hz; rw [apB_iff] at hz; omega)
      rw [e] at g
      omega

/-- The instants at which clocks tell a minute. -/
def ins (z : Zn) (n : Int) : List Int := (if sm z (n - z.b - z.s) = true then [n - z.b - z.s] else []) ++ (if sm z (n - z.b) = true then [] else [n - z.b])

/-- An instant's day, and its year, are reckoned. -/
theorem day_bd (z : Zn) (t : Int) (hz : May z) (h1 : 576000 ≤ t) (h2 : t ≤ 5258879999) : 1 ≤ (t + z.b) / 1440 ∧ (t + z.b) / 1440 ≤ 3652059 := by
  unfold May at hz; omega

end Go.Proofs.YtepaiolhflpmeaaDoor.Zo
