/-
  Plain facts on configurations, in whole numbers: which windows, and which configurations, may be, and which are the same. No condition but those that each theorem states.
-/
import Derived.Test.YthbgllbbliijlaaSu
namespace Go.Proofs.Ythbgllbbliijlaa.Cf
open Go.Proofs.Ythbgllbbliijlaa.Zo Go.Proofs.Ythbgllbbliijlaa.Su

/-- A window: kind, mode, weight, argument, shift, minute, length. -/
structure Wn where
  k : Int
  m : Int
  p : Int
  a : Int
  h : Int
  u : Int
  l : Int

/-- A configuration: floors, cars, park; stops; travel, level, open, dwell, lead, close, hold; rest, pater; zone, sunsets, abroad; windows. -/
structure Cg where
  f : Int
  n : Int
  p : Int
  st : List Int
  t : Int
  l : Int
  o : Int
  d : Int
  e : Int
  c : Int
  h : Int
  r : Int
  q : Int
  z : Zn
  s : Nat → Int
  ab : Bool
  ws : List Wn

/-- From a to b. -/
def bt (n a b : Int) : Bool := decide (a ≤ n) && decide (n ≤ b)

theorem bt_iff (n a b : Int) : bt n a b = true ↔ a ≤ n ∧ n ≤ b := by simp [bt]

/-- The ends of what goes by a window's kind: argument, shift, minute, length. -/
structure Ru where
  a0 : Int
  a1 : Int
  h0 : Int
  h1 : Int
  u0 : Int
  u1 : Int
  l0 : Int
  l1 : Int

def rz : Ru := ⟨0, 0, 0, 0, 0, 0, 0, 0⟩

def ru (k : Int) : Ru :=
  if k = 1 then ⟨1, 127, 0, 0, 0, 1439, 1, 10080⟩ else if k = 2 then ⟨401, 3651998, 0, 0, 0, 1439, 1, 10080⟩ else if k = 3 then ⟨1, 7, -7, 7, 0, 1439, 1, 10080⟩ else if k = 4 then ⟨0, 0, 0, 0, 0, 180, 0, 180⟩ else rz

def kn (k : Int) : Bool := bt k 1 4

/-- Does a window keep to a rule? -/
def al (r : Ru) (x : Wn) : Bool := bt x.a r.a0 r.a1 && (bt x.h r.h0 r.h1 && (bt x.u r.u0 r.u1 && bt x.l r.l0 r.l1))

/-- May a window be? -/
def wo (x : Wn) : Bool := kn x.k && (bt x.m 0 5 && (bt x.p 0 99 && al (ru x.k) x))

/-- The error of a window, or 0. -/
def we (x : Wn) : Int := if wo x = true then 0 else 104

theorem we_ok (x : Wn) : we x = 0 ↔ wo x = true := by
  unfold we
  split <;> simp_all

theorem we_two (x : Wn) : we x = 0 ∨ we x = 104 := by
  unfold we
  split <;> simp

/-- Is the size one that may be? -/
def so (c : Cg) : Bool := bt c.f 2 64 && (bt c.n 1 8 && bt c.p 0 (c.f - 1))

/-- The least that a stop may be, by the one ahead of it. -/
def lo (st : List Int) (i : Nat) : Int := if i = 0 then 0 else st.getD (i - 1) 0 + 1

def sg (f : Int) (st : List Int) (i : Nat) : Prop := lo st i ≤ st.getD i 0 ∧ st.getD i 0 ≤ f - 1

instance (f : Int) (st : List Int) (i : Nat) : Decidable (sg f st i) := by unfold sg; infer_instance

/-- Do the first k stops rise, each one a floor? -/
def su (f : Int) (st : List Int) (k : Nat) : Prop := ∀ i, i < k → sg f st i

instance (f : Int) (st : List Int) (k : Nat) : Decidable (su f st k) := by unfold su; infer_instance

/-- May the stops be? -/
def to (c : Cg) : Bool := decide (2 ≤ c.st.length ∧ su c.f c.st c.st.length)

theorem to_iff (c : Cg) : to c = true ↔ 2 ≤ c.st.length ∧ su c.f c.st c.st.length := by simp [to]

theorem su_zero (f : Int) (st : List Int) : su f st 0 := fun i h => absurd h (by omega)

theorem su_on {f : Int} {st : List Int} {k : Nat} (h : su f st k) (g : sg f st k) : su f st (k + 1) := by
  intro i hi
  by_cases e : i = k
  · rw [e]; exact g
  · exact h i (by omega)

theorem lo_succ (st : List Int) (i : Nat) : lo st (i + 1) = st.getD i 0 + 1 := by simp [lo]

theorem su_pos {f : Int} {st : List Int} {k : Nat} (h : su f st k) : ∀ i, i < k → 0 ≤ st.getD i 0 ∧ st.getD i 0 ≤ f - 1 := by
  intro i
  induction i with
  | zero =>
    intro hi
    have := h 0 hi
    simp only [sg, lo, if_true] at this
    exact this
  | succ j ih =>
    intro hi
    have a := ih (by omega)
    have b := h (j + 1) hi
    rw [sg, lo_succ] at b
    omega

theorem lo_pos {f : Int} {st : List Int} {k : Nat} (h : su f st k) : 0 ≤ lo st k := by
  cases k with
  | zero => simp [lo]
  | succ j =>
    rw [lo_succ]
    have := su_pos h j (by omega)
    omega

/-- May the times be? -/
def ti (c : Cg) : Bool :=
  (bt c.t 1 60 && (bt c.l 1 60 && (bt c.o 1 60 && (bt c.d 1 60 && bt c.c 1 60)))) && (bt c.h 0 60 && ((bt c.r 1 300 && bt c.q 1 300) && bt c.e 1 (min (min c.d c.r) c.q)))

/-- May the windows be? -/
def wa (ws : List Wn) : Bool := ws.all wo

/-- The error of a configuration, or 0. -/
def ce (c : Cg) : Int :=
  if so c = true then (if to c = true then (if ti c = true then (if ck c.z = 0 then (if sk c.s = 0 then (if c.ws.length ≤ 16 then (if wa c.ws = true then 0 else 104) else 103) else sk c.s) else ck c.z) else 102) else 101) else 100

/-- Are two windows the same? -/
def ws (x y : Wn) : Bool := x.k == y.k && (x.m == y.m && (x.p == y.p && (x.a == y.a && (x.h == y.h && (x.u == y.u && x.l == y.l)))))

theorem ws_iff (x y : Wn) : ws x y = true ↔ x = y := by
  cases x; cases y
  simp [ws]

end Go.Proofs.Ythbgllbbliijlaa.Cf
