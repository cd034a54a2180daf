/-
  Texts of mine, merged: each part says what it holds. Conditions: as each theorem states.
-/
import Derived.Deep.MidRow
import Derived.RegionTactic
import Derived.StillTail
import Derived.Test.YtihdijkplmfhfaaGreatDoorM8

/- The cells of windows and of configurations, and rows of windows, wherever they lie. No condition but those that each theorem states. -/
namespace Go.Proofs.YtihdijkplmfhfaaGreatDoor.Conf
set_option maxRecDepth 100000
set_option maxRecDepth 100000
open Go.ChangeShapes Go.WideShapes Go.ChangeAt Go.RowKit
open Go.Proofs.YtihdijkplmfhfaaGreatDoor.Divs Go.Proofs.YtihdijkplmfhfaaGreatDoor.Grow Go.Proofs.YtihdijkplmfhfaaGreatDoor.Zone
open Go.Proofs.YtihdijkplmfhfaaGreatDoor.By (Sk SL)
open Go.Proofs.YtihdijkplmfhfaaGreatDoor.Zo Go.Proofs.YtihdijkplmfhfaaGreatDoor.Su Go.Proofs.YtihdijkplmfhfaaGreatDoor.Cf

/-- A window's cells. -/
def wc (x : Wn) : List Value := [.int .i64 x.k, .int .i64 x.m, .int .i64 x.p, .int .i64 x.a, .int .i64 x.h, .int .i64 x.u, .int .i64 x.l]

/-- The cells of windows in a row. -/
def fl (xs : List Wn) : List Value := xs.flatMap wc

theorem fl_len (xs : List Wn) : (fl xs).length = xs.length * 7 := by
  induction xs with
  | nil => rfl
  | cons x r ih =>
    have : fl (x :: r) = wc x ++ fl r := rfl
    rw [this, List.length_append, ih]
    simp only [wc, List.length_cons, List.length_nil]
    omega

theorem fl_app (xs ys : List Wn) : fl (xs ++ ys) = fl xs ++ fl ys := by simp [fl]

theorem fl_one (x : Wn) : fl [x] = wc x := by simp [fl]

theorem fl_take (xs : List Wn) (k : Nat) : fl (xs.take k) = (fl xs).take (k * 7) := by
  induction xs generalizing k with
  | nil => simp [fl]
  | cons x r ih =>
    cases k with
    | zero => simp [fl]
    | succ j =>
      have e : fl (x :: r) = wc x ++ fl r := rfl
      have e' : fl ((x :: r).take (j + 1)) = wc x ++ fl (r.take j) := rfl
      have l : (wc x).length = 7 := rfl
      rw [e, e', ih, List.take_append, l, List.take_of_length_le (l := wc x) (by omega), show (j + 1) * 7 - 7 = j * 7 by omega]

theorem fl_drop (xs : List Wn) (k : Nat) : fl (xs.drop k) = (fl xs).drop (k * 7) := by
  induction xs generalizing k with
  | nil => simp [fl]
  | cons x r ih =>
    cases k with
    | zero => simp [fl]
    | succ j =>
      have e : fl (x :: r) = wc x ++ fl r := rfl
      have e' : fl ((x :: r).drop (j + 1)) = fl (r.drop j) := rfl
      have l : (wc x).length = 7 := rfl
      rw [e, e', ih, List.drop_append, l, List.drop_of_length_le (l := wc x) (by omega), show (j + 1) * 7 - 7 = j * 7 by omega, List.nil_append]

theorem fl_get {xs : List Wn} {i : Nat} {x : Wn} (h : xs[i]? = some x) {j : Nat} (hj : j < 7) : (fl xs)[i * 7 + j]? = (wc x)[j]? := by
  have e : xs.drop i = x :: xs.drop (i + 1) := by
    obtain ⟨hi, rfl⟩ := List.getElem?_eq_some_iff.1 h
    exact List.drop_eq_getElem_cons hi
  have d := fl_drop xs i
  rw [e] at d
  have e2 : fl (x :: xs.drop (i + 1)) = wc x ++ fl (xs.drop (i + 1)) := rfl
  rw [← List.getElem?_drop, ← d, e2, List.getElem?_append_left (by simpa [wc] using hj)]

/-- v is a slice of these windows. -/
def Wk (W : World) (v : Value) (xs : List Wn) : Prop :=
  ∃ (ad : Option Addr) (cap : Nat), v = .slice ad xs.length cap ∧ xs.length ≤ cap ∧ cap ≤ 9223372036854775807 ∧ (ad = none → cap = 0) ∧
    ∀ (i : Nat) (x : Value), (fl xs)[i]? = some x → ∃ b off, ad = some ⟨b, off, none⟩ ∧ W.cell? ⟨b, off + i, none⟩ = some x

theorem Wk.later {W W' : World} {v : Value} {xs : List Wn} (h : Wk W v xs) (g : Later W W') : Wk W' v xs := by
  obtain ⟨ad, cap, rfl, h1, h2, h3, h4⟩ := h
  refine ⟨ad, cap, rfl, h1, h2, h3, fun i x hx => ?_⟩
  obtain ⟨b, off, e, c⟩ := h4 i x hx
  exact ⟨b, off, e, gsome g c⟩

theorem Wk.len {W : World} {v : Value} {xs : List Wn} (h : Wk W v xs) : ∃ ad cap, v = .slice ad xs.length cap ∧ xs.length ≤ 9223372036854775807 := by
  obtain ⟨ad, cap, rfl, h1, h2, _⟩ := h
  exact ⟨ad, cap, rfl, by omega⟩

/-- The cells of a slice of windows that has some. -/
theorem Wk.has {W : World} {v : Value} {xs : List Wn} (h : Wk W v xs) (hp : 0 < xs.length) :
    ∃ b off cap, v = .slice (some ⟨b, off, none⟩) xs.length cap ∧ xs.length ≤ 9223372036854775807 ∧ b < W.heap.size ∧ ∀ i x, xs[i]? = some x → W.rangeAt b (off + i * 7) (wc x) := by
  obtain ⟨ad, cap, rfl, h1, h2, h3, h4⟩ := h
  have hl := fl_len xs
  obtain ⟨c, hc⟩ : ∃ c, (fl xs)[0]? = some c := ⟨_, List.getElem?_eq_getElem (by omega)⟩
  obtain ⟨b, off, rfl, c0⟩ := h4 0 c hc
  refine ⟨b, off, cap, rfl, by omega, World.block_lt_of_cell? _ _ c0, fun i x hx j y hy => ?_⟩
  have hj : j < 7 := by
    have := (List.getElem?_eq_some_iff.1 hy).1
    simpa [wc] using this
  obtain ⟨b', off', e, c⟩ := h4 (i * 7 + j) y (by rw [fl_get hx hj]; exact hy)
  simp only [Option.some.injEq, Addr.mk.injEq, and_true] at e
  obtain ⟨rfl, rfl⟩ := e
  rw [Nat.add_assoc]
  exact c

/-- A configuration's cells, by its two slices. -/
def cc (c : Cg) (u v : Value) : Array Value := #[.int .i64 c.f, .int .i64 c.n, .int .i64 c.p, u, .int .i64 c.t, .int .i64 c.l, .int .i64 c.o, .int .i64 c.d, .int .i64 c.e, .int .i64 c.c, .int .i64 c.h, .int .i64 c.r, .int .i64 c.q,
  .int .i64 c.z.b, .int .i64 c.z.s, .int .i64 c.z.p.m, .int .i64 c.z.p.k, .int .i64 c.z.p.v, .int .i64 c.z.p.u, .int .i64 c.z.q.m, .int .i64 c.z.q.k, .int .i64 c.z.q.v, .int .i64 c.z.q.u,
  .int .i64 (c.s 0), .int .i64 (c.s 1), .int .i64 (c.s 2), .int .i64 (c.s 3), .int .i64 (c.s 4), .int .i64 (c.s 5), .int .i64 (c.s 6), .int .i64 (c.s 7), .int .i64 (c.s 8), .int .i64 (c.s 9), .int .i64 (c.s 10), .int .i64 (c.s 11), .bool c.ab, v]

end Go.Proofs.YtihdijkplmfhfaaGreatDoor.Conf

/- Whether numbers lie between two ends, the rule of a window's kind, and whether a window may be, by the program. No condition but those that each theorem states. -/
namespace Go.Proofs.YtihdijkplmfhfaaGreatDoor.Conf
set_option maxRecDepth 100000
set_option maxRecDepth 100000
open Go.ChangeShapes Go.WideShapes Go.ChangeAt Go.RowKit
open Go.Proofs.YtihdijkplmfhfaaGreatDoor.Divs Go.Proofs.YtihdijkplmfhfaaGreatDoor.Grow Go.Proofs.YtihdijkplmfhfaaGreatDoor.Zone
open Go.Proofs.YtihdijkplmfhfaaGreatDoor.By (Sk SL)
open Go.Proofs.YtihdijkplmfhfaaGreatDoor.Zo Go.Proofs.YtihdijkplmfhfaaGreatDoor.Su Go.Proofs.YtihdijkplmfhfaaGreatDoor.Cf

/-- The first i numbers lie between the ends. -/
def HRel (a b : Int) (xs : List Int) (i : Value) : Prop := ∃ k : Nat, k ≤ xs.length ∧ i = .int .i64 (k : Int) ∧ ∀ j, j < k → bt (xs.getD j 0) a b = true

theorem all_no (a b : Int) (xs : List Int) (k : Nat) (hk : k < xs.length) (h : bt (xs.getD k 0) a b = false) : xs.all (fun x => bt x a b) = false := by
  rw [List.all_eq_false]
  refine ⟨xs.getD k 0, ?_, by rw [h]; simp⟩
  rw [List.getD_eq_getElem?_getD, List.getElem?_eq_getElem hk]
  exact List.getElem_mem hk

theorem all_yes (a b : Int) (xs : List Int) (h : ∀ j, j < xs.length → bt (xs.getD j 0) a b = true) : xs.all (fun x => bt x a b) = true := by
  rw [List.all_eq_true]
  intro x hx
  obtain ⟨i, hi, rfl⟩ := List.mem_iff_getElem.1 hx
  have := h i hi
  rwa [List.getD_eq_getElem?_getD, List.getElem?_eq_getElem hi] at this

set_option maxHeartbeats 1000000 in
theorem hold_any (a b : Int) (xs : List Int) (v : Value) (w : World) (hs : Sk .i64 w v xs) (hp : 0 < xs.length) :
    Calls Tryz.prog 110 #[.agg #[.int .i64 a, .int .i64 b], v] w fun e w' => e = .returned (.bool (xs.all (fun x => bt x a b))) ∧ Later w w' := by
  obtain ⟨B, off, cap, rfl, hc1, hc2, hB, hc⟩ := hs.has hp
  have HC : Hid (∀ i, i < xs.length → (w.alloc (.cells #[.int .i64 a, .int .i64 b] 133)).cell? ⟨B, off + i, none⟩ = some (.int .i64 (xs.getD i 0))) := Lib.hid (fun i hi => gsome ((Later.refl w).alloc _ _) (hc i hi))
  have HM : Hid (xs.length ≤ 9223372036854775807) := Lib.hid (by omega)
  have HG := Lib.hid ((Later.refl w).alloc #[.int .i64 a, .int .i64 b] 133)
  clear hs hc hc1 hc2 hB
  obtain ⟨n, hn⟩ : ∃ n, xs.length = n := ⟨_, rfl⟩
  rw [hn] at hp ⊢
  have HN := Lib.hid hn
  clear hn
  go_enter Tryz.func110, Tryz.ntmps110
  go_wp2
  go_loop [9] (fun i => HRel a b xs i) (fun i => n - (intOf i).toNat)
  case atStart => exact ⟨0, by omega, rfl, by omega⟩
  case round =>
    obtain ⟨k, hk, rfl, hj⟩ := hrel
    rw [HN.out] at hk
    by_cases hlt : k < n
    · have c := HC.out k (by rw [HN.out]; exact hlt)
      obtain ⟨x, hx⟩ : ∃ x, xs.getD k 0 = x := ⟨_, rfl⟩
      rw [hx] at c
      have hm : n ≤ 9223372036854775807 := by have := HM.out; rw [HN.out] at this; exact this
      by_cases h1 : x < a
      · have HV := Lib.hid (all_no a b xs k (by rw [HN.out]; exact hlt) (by rw [hx]; unfold bt; rw [decide_eq_false (by omega)]; rfl))
        clear hj hx
        go_wp2
        go_ret
        exact ⟨retb HV.out.symm, HG.out⟩
      · by_cases h2 : x > b
        · have HV := Lib.hid (all_no a b xs k (by rw [HN.out]; exact hlt) (by rw [hx]; unfold bt; rw [decide_eq_false (p := x ≤ b) (by omega)]; simp))
          clear hj hx
          go_wp2
          go_ret
          exact ⟨retb HV.out.symm, HG.out⟩
        · have HJ : Hid (∀ j, j < k + 1 → bt (xs.getD j 0) a b = true) := Lib.hid (fun j h => by
            by_cases e : j = k
            · rw [e, hx, bt_iff]; omega
            · exact hj j (by omega))
          clear hj hx
          go_wp2
          go_round
          case rel => exact ⟨k + 1, by rw [HN.out]; omega, by go_num, HJ.out⟩
          case measure => simp [intOf]; omega
    · obtain rfl : k = n := by omega
      have HV := Lib.hid (all_yes a b xs (fun j h => hj j (by rw [← HN.out]; exact h)))
      clear hj
      go_wp2
      go_ret
      exact ⟨retb HV.out.symm, HG.out⟩

theorem sk_cells (W : World) (g : Nat) (xs : List Int) (hn : xs.length ≤ 1000) (h : ∀ i x, xs[i]? = some x → W.cell? ⟨g, i, none⟩ = some (.int .i64 x)) : Sk .i64 W (.slice (some ⟨g, 0, none⟩) xs.length xs.length) xs :=
  ⟨_, _, rfl, Nat.le_refl _, by omega, by simp, fun i x hx => ⟨g, 0, rfl, by rw [Nat.zero_add]; exact h i x hx⟩⟩

theorem new_cell (W : World) (cs : Array Value) (t : TypeId) (i : Nat) (v : Value) (g : Nat) (hg : g = W.heap.size) (h : cs[i]? = some v) : (W.alloc (.cells cs t)).cell? ⟨g, i, none⟩ = some v := by
  subst hg
  rw [World.cell?_alloc_new]
  exact h

theorem hold_one (a b x : Int) (g : Nat) (w : World) (h : w.cell? ⟨g, 0, none⟩ = some (.int .i64 x)) :
    Calls Tryz.prog 110 #[.agg #[.int .i64 a, .int .i64 b], .slice (some ⟨g, 0, none⟩) 1 1] w fun e w' => e = .returned (.bool (bt x a b)) ∧ Later w w' := by
  have := hold_any a b [x] _ w (sk_cells w g [x] (by simp) (fun i y hy => by
    match i with
    | 0 => simp at hy; subst hy; exact h
    | i + 1 => simp at hy)) (by simp)
  simpa using this

theorem hold_two (a b x y : Int) (g : Nat) (w : World) (h : w.cell? ⟨g, 0, none⟩ = some (.int .i64 x)) (h1 : w.cell? ⟨g, 1, none⟩ = some (.int .i64 y)) :
    Calls Tryz.prog 110 #[.agg #[.int .i64 a, .int .i64 b], .slice (some ⟨g, 0, none⟩) 2 2] w fun e w' => e = .returned (.bool (bt x a b && bt y a b)) ∧ Later w w' := by
  have := hold_any a b [x, y] _ w (sk_cells w g [x, y] (by simp) (fun i z hz => by
    match i with
    | 0 => simp at hz; subst hz; exact h
    | 1 => simp at hz; subst hz; exact h1
    | i + 2 => simp at hz)) (by simp)
  simpa using this

theorem hold_five (a b x y z s t : Int) (g : Nat) (w : World) (h : w.cell? ⟨g, 0, none⟩ = some (.int .i64 x)) (h1 : w.cell? ⟨g, 1, none⟩ = some (.int .i64 y)) (h2 : w.cell? ⟨g, 2, none⟩ = some (.int .i64 z)) (h3 : w.cell? ⟨g, 3, none⟩ = some (.int .i64 s)) (h4 : w.cell? ⟨g, 4, none⟩ = some (.int .i64 t)) :
    Calls Tryz.prog 110 #[.agg #[.int .i64 a, .int .i64 b], .slice (some ⟨g, 0, none⟩) 5 5] w fun e w' => e = .returned (.bool (bt x a b && (bt y a b && (bt z a b && (bt s a b && bt t a b))))) ∧ Later w w' := by
  have := hold_any a b [x, y, z, s, t] _ w (sk_cells w g [x, y, z, s, t] (by simp) (fun i r hr => by
    match i with
    | 0 => simp at hr; subst hr; exact h
    | 1 => simp at hr; subst hr; exact h1
    | 2 => simp at hr; subst hr; exact h2
    | 3 => simp at hr; subst hr; exact h3
    | 4 => simp at hr; subst hr; exact h4
    | i + 5 => simp at hr)) (by simp)
  simpa using this

/-- A rule's cells. -/
def rc (r : Ru) : Array Value := #[.int .i64 r.a0, .int .i64 r.a1, .int .i64 r.h0, .int .i64 r.h1, .int .i64 r.u0, .int .i64 r.u1, .int .i64 r.l0, .int .i64 r.l1]

/-- These cells lie in the block b. -/
def At (W : World) (b : Nat) (cs : Array Value) : Prop := ∀ (i : Nat) (v : Value), cs[i]? = some v → W.cell? ⟨b, i, none⟩ = some v

theorem At.later {W W' : World} {b : Nat} {cs : Array Value} (h : At W b cs) (g : Later W W') : At W' b cs := fun i v e => gsome g (h i v e)

theorem At.new (W : World) (cs : Array Value) (t : TypeId) : At (W.alloc (.cells cs t)) W.heap.size cs := by
  intro i v e
  rw [World.cell?_alloc_new]
  exact e

theorem At.put {W : World} {b : Nat} {cs : Array Value} (h : At W b cs) (o : Obj) : At (W.alloc o) b cs := h.later ((Later.refl W).put o)

theorem off_put {W W' : World} {o : Obj} (h : Later (W.alloc o) W') : Later W W' := gtrans ((Later.refl W).put o) h

theorem size_one (W : World) (o : Obj) : (W.alloc o).heap.size = W.heap.size + 1 := by simp

set_option maxHeartbeats 1000000 in
theorem rule_any (k : Int) (w : World) : Calls Tryz.prog 136 #[.int .i64 k] w fun e w' => e = .returned (.tuple #[.agg (rc (ru k)), .bool (kn k)]) ∧ Later w w' := by
  by_cases h1 : k = 1
  · subst h1
    go_enter Tryz.func136, Tryz.ntmps136
    go_wp2
    exact bodyPost_ret (v := .tuple #[.agg (rc (ru 1)), .bool true]) (by simp [results, Tryz.results136, go_sem, rc, ru]) rfl ⟨rfl, (((Later.refl w).alloc _ _).alloc _ _).alloc _ _⟩
  by_cases h2 : k = 2
  · subst h2
    clear h1
    go_enter Tryz.func136, Tryz.ntmps136
    go_wp2
    exact bodyPost_ret (v := .tuple #[.agg (rc (ru 2)), .bool true]) (by simp [results, Tryz.results136, go_sem, rc, ru]) rfl ⟨rfl, (((Later.refl w).alloc _ _).alloc _ _).alloc _ _⟩
  by_cases h3 : k = 3
  · subst h3
    clear h1 h2
    go_enter Tryz.func136, Tryz.ntmps136
    go_wp2
    exact bodyPost_ret (v := .tuple #[.agg (rc (ru 3)), .bool true]) (by simp [results, Tryz.results136, go_sem, rc, ru]) rfl ⟨rfl, (((Later.refl w).alloc _ _).alloc _ _).alloc _ _⟩
  by_cases h4 : k = 4
  · subst h4
    clear h1 h2 h3
    go_enter Tryz.func136, Tryz.ntmps136
    go_wp2
    exact bodyPost_ret (v := .tuple #[.agg (rc (ru 4)), .bool true]) (by simp [results, Tryz.results136, go_sem, rc, ru]) rfl ⟨rfl, ((((Later.refl w).alloc _ _).alloc _ _).alloc _ _).alloc _ _⟩
  · have t1 : (k == 1) = false := by simpa using h1
    have t2 : (k == 2) = false := by simpa using h2
    have t3 : (k == 3) = false := by simpa using h3
    have t4 : (k == 4) = false := by simpa using h4
    have hr : ru k = rz := by unfold ru; rw [if_neg h1, if_neg h2, if_neg h3, if_neg h4]
    have hk : kn k = false := by
      cases e : kn k with
      | false => rfl
      | true => have := (bt_iff _ _ _).1 e; omega
    rw [hr, hk]
    clear hr hk h1 h2 h3 h4
    go_enter Tryz.func136, Tryz.ntmps136
    go_wp2
    exact bodyPost_ret (v := .tuple #[.agg (rc rz), .bool false]) (by simp [results, Tryz.results136, go_sem, rc, rz]) rfl ⟨rfl, (((Later.refl w).alloc _ _).alloc _ _).alloc _ _⟩

set_option maxHeartbeats 1000000 in
theorem allows_any (r : Ru) (x : Wn) (w : World) : Calls Tryz.prog 137 #[.agg (rc r), .agg (wc x).toArray] w fun e w' => e = .returned (.bool (al r x)) ∧ Later w w' := by
  have K := Lib.hid (fun a b y g W h => hold_one a b y g W h)
  have HA : Hid (∀ W', Later ((w.alloc (.cells (rc r) 155)).alloc (.cells (wc x).toArray 65)) W' → At W' w.heap.size (rc r) ∧ At W' (w.heap.size + 1) (wc x).toArray ∧ Later w W') := Lib.hid (fun W' g =>
    ⟨((At.new w (rc r) 155).put _).later g, by rw [← size_one w (.cells (rc r) 155)]; exact (At.new _ _ _).later g, off_put (off_put g)⟩)
  obtain ⟨b1, e1⟩ : ∃ b, bt x.a r.a0 r.a1 = b := ⟨_, rfl⟩
  obtain ⟨b2, e2⟩ : ∃ b, bt x.h r.h0 r.h1 = b := ⟨_, rfl⟩
  obtain ⟨b3, e3⟩ : ∃ b, bt x.u r.u0 r.u1 = b := ⟨_, rfl⟩
  obtain ⟨b4, e4⟩ : ∃ b, bt x.l r.l0 r.l1 = b := ⟨_, rfl⟩
  have hv : al r x = (b1 && (b2 && (b3 && b4))) := by unfold al; rw [e1, e2, e3, e4]
  rw [hv]
  have E1 := Lib.hid e1
  have E2 := Lib.hid e2
  have E3 := Lib.hid e3
  have E4 := Lib.hid e4
  clear hv e1 e2 e3 e4
  unfold rc wc at *
  go_enter Tryz.func137, Tryz.ntmps137
  go_wp2_with fail
  refine (K.out _ _ x.a _ _ (new_cell _ _ _ 0 _ _ (by simp) rfl)).mono ?_
  rintro e w1 ⟨rfl, hg1⟩
  rw [E1.out]
  obtain ⟨ha, hb, hg⟩ := HA.out w1 (off_put hg1)
  cases b1 with
  | false =>
    clear ha hb hg1
    go_wp2_with fail
    go_ret
    exact ⟨rfl, hg⟩
  | true =>
    have c1 := ha 2 _ rfl
    have c2 := ha 3 _ rfl
    have c3 := hb 4 _ rfl
    have HA1 := Lib.hid (off_put hg1)
    clear ha hb hg1 hg
    go_wp2_with fail
    refine (K.out _ _ x.h _ _ (new_cell _ _ _ 0 _ _ (by simp) rfl)).mono ?_
    rintro e w2 ⟨rfl, hg2⟩
    rw [E2.out]
    clear c1 c2 c3
    have hl := gtrans HA1.out (off_put hg2)
    obtain ⟨ha, hb, hg⟩ := HA.out w2 hl
    cases b2 with
    | false =>
      clear ha hb hg2 hl
      go_wp2_with fail
      go_ret
      exact ⟨rfl, hg⟩
    | true =>
      have c1 := ha 4 _ rfl
      have c2 := ha 5 _ rfl
      have c3 := hb 5 _ rfl
      have HA2 := Lib.hid hl
      clear ha hb hg2 hg hl
      go_wp2_with fail
      refine (K.out _ _ x.u _ _ (new_cell _ _ _ 0 _ _ (by simp) rfl)).mono ?_
      rintro e w3 ⟨rfl, hg3⟩
      rw [E3.out]
      clear c1 c2 c3
      have hl := gtrans HA2.out (off_put hg3)
      obtain ⟨ha, hb, hg⟩ := HA.out w3 hl
      cases b3 with
      | false =>
        clear ha hb hg3 hl
        go_wp2_with fail
        go_ret
        exact ⟨rfl, hg⟩
      | true =>
        have c1 := ha 6 _ rfl
        have c2 := ha 7 _ rfl
        have c3 := hb 6 _ rfl
        clear ha hb hg3
        go_wp2_with fail
        refine (K.out _ _ x.l _ _ (new_cell _ _ _ 0 _ _ (by simp) rfl)).mono ?_
        rintro e w4 ⟨rfl, hg4⟩
        rw [E4.out]
        go_wp2_with fail
        go_ret
        exact ⟨rfl, gtrans hg (off_put hg4)⟩

set_option maxHeartbeats 1000000 in
theorem window_any (x : Wn) (w : World) : Calls Tryz.prog 113 #[.agg (wc x).toArray] w fun e w' => e = .returned (.int .i64 (we x)) ∧ Later w w' := by
  have K := Lib.hid (fun a b y g W h => hold_one a b y g W h)
  have R := Lib.hid (fun W => rule_any x.k W)
  have A := Lib.hid (fun W => allows_any (ru x.k) x W)
  obtain ⟨b1, e1⟩ : ∃ b, kn x.k = b := ⟨_, rfl⟩
  obtain ⟨b2, e2⟩ : ∃ b, bt x.m 0 5 = b := ⟨_, rfl⟩
  obtain ⟨b3, e3⟩ : ∃ b, bt x.p 0 99 = b := ⟨_, rfl⟩
  obtain ⟨b4, e4⟩ : ∃ b, al (ru x.k) x = b := ⟨_, rfl⟩
  have hv : we x = if (b1 && (b2 && (b3 && b4))) = true then 0 else 104 := by unfold we wo; rw [e1, e2, e3, e4]
  rw [hv]
  rw [e1] at R
  rw [e4] at A
  generalize ru x.k = r at *
  have E2 := Lib.hid e2
  have E3 := Lib.hid e3
  clear hv e1 e2 e3 e4
  unfold rc wc at *
  go_enter Tryz.func113, Tryz.ntmps113
  go_wp2_with fail
  refine (R.out _).mono ?_
  rintro e w1 ⟨rfl, hg1⟩
  have hn1 := (((At.new w #[.int .i64 x.k, .int .i64 x.m, .int .i64 x.p, .int .i64 x.a, .int .i64 x.h, .int .i64 x.u, .int .i64 x.l] 65).put _).put _).later hg1
  have hn2 := ((At.new (w.alloc (.cells #[.int .i64 x.k, .int .i64 x.m, .int .i64 x.p, .int .i64 x.a, .int .i64 x.h, .int .i64 x.u, .int .i64 x.l] 65)) #[.int .i64 0, .int .i64 5] 133).put _).later hg1
  have hn3 := (At.new ((w.alloc (.cells #[.int .i64 x.k, .int .i64 x.m, .int .i64 x.p, .int .i64 x.a, .int .i64 x.h, .int .i64 x.u, .int .i64 x.l] 65)).alloc (.cells #[.int .i64 0, .int .i64 5] 133)) #[.int .i64 0, .int .i64 99] 133).later hg1
  simp only [World.size_alloc] at hn2 hn3
  have HG := Lib.hid (off_put (off_put (off_put hg1)))
  clear hg1
  have HN1 := Lib.hid hn1
  have HN2 := Lib.hid hn2
  have HN3 := Lib.hid hn3
  clear hn1 hn2 hn3
  cases b1 with
  | false =>
    go_wp2_with fail
    go_ret
    exact ⟨rfl, HG.out.put _⟩
  | true =>
    have hW := HN2.out.put (.cells #[.int .i64 r.a0, .int .i64 r.a1, .int .i64 r.h0, .int .i64 r.h1, .int .i64 r.u0, .int .i64 r.u1, .int .i64 r.l0, .int .i64 r.l1] 155)
    have c1 := hW 0 _ rfl
    have c2 := hW 1 _ rfl
    have c3 := HN1.out.put (.cells #[.int .i64 r.a0, .int .i64 r.a1, .int .i64 r.h0, .int .i64 r.h1, .int .i64 r.u0, .int .i64 r.u1, .int .i64 r.l0, .int .i64 r.l1] 155) 1 _ rfl
    clear hW
    go_wp2_with fail
    refine (K.out _ _ x.m _ _ (new_cell _ _ _ 0 _ _ (by simp) rfl)).mono ?_
    rintro e w2 ⟨rfl, hg2⟩
    rw [E2.out]
    clear c1 c2 c3
    have HR := Lib.hid ((At.new w1 #[.int .i64 r.a0, .int .i64 r.a1, .int .i64 r.h0, .int .i64 r.h1, .int .i64 r.u0, .int .i64 r.u1, .int .i64 r.l0, .int .i64 r.l1] 155).later (off_put hg2))
    have HG2 := Lib.hid (off_put (off_put hg2))
    clear hg2
    cases b2 with
    | false =>
      go_wp2_with fail
      go_ret
      exact ⟨rfl, gtrans HG.out HG2.out⟩
    | true =>
      have hW := HN3.out.later HG2.out
      have c1 := hW 0 _ rfl
      have c2 := hW 1 _ rfl
      have c3 := HN1.out.later HG2.out 2 _ rfl
      clear hW
      go_wp2_with fail
      refine (K.out _ _ x.p _ _ (new_cell _ _ _ 0 _ _ (by simp) rfl)).mono ?_
      rintro e w3 ⟨rfl, hg3⟩
      rw [E3.out]
      clear c1 c2 c3
      have HG3 := Lib.hid (off_put hg3)
      clear hg3
      cases b3 with
      | false =>
        go_wp2_with fail
        go_ret
        exact ⟨rfl, gtrans (gtrans HG.out HG2.out) HG3.out⟩
      | true =>
        have hR := HR.out.later HG3.out
        have hX := HN1.out.later (gtrans HG2.out HG3.out)
        have c0 := hR 0 _ rfl
        have c1 := hR 1 _ rfl
        have c2 := hR 2 _ rfl
        have c3 := hR 3 _ rfl
        have c4 := hR 4 _ rfl
        have c5 := hR 5 _ rfl
        have c6 := hR 6 _ rfl
        have c7 := hR 7 _ rfl
        have d0 := hX 0 _ rfl
        have d1 := hX 1 _ rfl
        have d2 := hX 2 _ rfl
        have d3 := hX 3 _ rfl
        have d4 := hX 4 _ rfl
        have d5 := hX 5 _ rfl
        have d6 := hX 6 _ rfl
        clear hR hX
        go_wp2_with fail
        refine (A.out _).mono ?_
        rintro e w4 ⟨rfl, hg4⟩
        clear c0 c1 c2 c3 c4 c5 c6 c7 d0 d1 d2 d3 d4 d5 d6
        have HG4 := Lib.hid (gtrans (gtrans (gtrans HG.out HG2.out) HG3.out) hg4)
        clear hg4
        cases b4 with
        | false =>
          go_wp2_with fail
          go_ret
          exact ⟨rfl, HG4.out⟩
        | true =>
          go_wp2_with fail
          go_ret
          exact ⟨rfl, HG4.out⟩

end Go.Proofs.YtihdijkplmfhfaaGreatDoor.Conf

/- A region that draws its order, operation by operation: what each one yields, in every world that has grown and whatever else has come up, is told by a relation of its own that lasts; then each order is served by one look at each operation. No condition but those that each theorem states. -/
namespace Go.Proofs.YtihdijkplmfhfaaGreatDoor.Each
set_option maxRecDepth 100000
open Go.ChangeShapes Go.WideShapes Go.ChangeAt Go.RowKit
open Go.Proofs.YtihdijkplmfhfaaGreatDoor.Divs Go.Proofs.YtihdijkplmfhfaaGreatDoor.Grow

theorem wpAny_inv {P : Program} {md : Region.Mode} {ops : Array Oper} {Q : Exit → Act → World → Prop} (I : Nat → Array Bool → Act → World → Prop)
    (h0 : ∀ fuel listed a w, I fuel listed a w → Region.ready md ops listed = [] → Q .normal a w) (hz : ∀ listed a w, I 0 listed a w → Region.ready md ops listed = [])
    (hs : ∀ fuel listed a w i, I (fuel + 1) listed a w → i ∈ Region.ready md ops listed → wpOp P ops Q i (fun a' w' => I fuel (listed.setIfInBounds i true) a' w') a w) :
    ∀ fuel listed a w, I fuel listed a w → wpAny P md ops Q fuel listed a w := by
  intro fuel
  induction fuel with
  | zero => exact fun listed a w h => ⟨hz listed a w h, h0 _ _ _ _ h (hz listed a w h)⟩
  | succ fuel ih => exact fun listed a w h => ⟨fun e => h0 _ _ _ _ h e, fun i hi => wpOp_mono (fun a' w' h' => ih _ _ _ h') (hs _ _ _ _ i h hi)⟩

/-- What has come up: its slots hold what V says, the others are as they were. -/
structure Up (ops : Array Oper) (V : Nat → Value → World → Prop) (a0 : Act) (w0 : World) (listed : Array Bool) (a : Act) (w : World) : Prop where
  late : Later w0 w
  defers : a.defers = a0.defers
  size : a.tmps.size = a0.tmps.size
  old : ∀ s, (∀ i o, ops[i]? = some o → o.dst = some s → listed.getD i false = false) → a.tmps[s]? = a0.tmps[s]?
  come : ∀ i o s, ops[i]? = some o → listed.getD i false = true → o.dst = some s → ∃ v, a.tmps[s]? = some v ∧ V i v w

/-- No two operations write one slot, each slot is there, and each operation waits for earlier ones alone. -/
def fitB (ops : Array Oper) (n : Nat) : Bool :=
  (List.range ops.size).all fun i => match ops[i]? with
    | none => true
    | some o => o.after.all (fun e => !Region.binds .any e || decide (e.on < i)) && (match o.dst with
      | none => true
      | some s => decide (s < n) && (List.range ops.size).all fun j => decide (j = i) || (match ops[j]? with
        | none => true
        | some q => !(q.dst == some s)))

theorem fit_low {ops : Array Oper} {n : Nat} (h : fitB ops n = true) {i : Nat} {o : Oper} (ho : ops[i]? = some o) {e : Edge} (he : e ∈ o.after) (hb : Region.binds .any e = true) : e.on < i := by
  have hi : i < ops.size := (Array.getElem?_eq_some_iff.1 ho).1
  have := List.all_eq_true.1 h i (List.mem_range.2 hi)
  rw [ho] at this
  simp only [Bool.and_eq_true] at this
  have := Array.all_eq_true_iff_forall_mem.1 this.1 e he
  simpa [hb] using this

theorem fit_dst {ops : Array Oper} {n : Nat} (h : fitB ops n = true) {i j : Nat} {o q : Oper} {s : Tmp} (ho : ops[i]? = some o) (hq : ops[j]? = some q) (hs : o.dst = some s) (ht : q.dst = some s) : j = i := by
  have hi : i < ops.size := (Array.getElem?_eq_some_iff.1 ho).1
  have hj : j < ops.size := (Array.getElem?_eq_some_iff.1 hq).1
  have := List.all_eq_true.1 h i (List.mem_range.2 hi)
  rw [ho] at this
  simp only [Bool.and_eq_true, hs] at this
  have := List.all_eq_true.1 this.2.2 j (List.mem_range.2 hj)
  rw [hq] at this
  simpa [ht] using this

theorem fit_in {ops : Array Oper} {n : Nat} (h : fitB ops n = true) {i : Nat} {o : Oper} {s : Tmp} (ho : ops[i]? = some o) (hs : o.dst = some s) : s < n := by
  have hi : i < ops.size := (Array.getElem?_eq_some_iff.1 ho).1
  have := List.all_eq_true.1 h i (List.mem_range.2 hi)
  rw [ho] at this
  simp only [Bool.and_eq_true, hs] at this
  simpa using this.2.1

theorem getD_set {listed : Array Bool} {i : Nat} (hi : i < listed.size) (j : Nat) : (listed.setIfInBounds i true).getD j false = (decide (j = i) || listed.getD j false) := by
  by_cases e : j = i
  · subst e
    simp [hi]
  · simp [Array.getElem?_setIfInBounds_ne (Ne.symm e), e]

/-- How many have not come up. -/
def leftN (listed : Array Bool) : Nat := listed.toList.countP (fun b => !b)

theorem count_set : ∀ (l : List Bool) (i : Nat), l[i]? = some false → (l.set i true).countP (fun b => !b) + 1 = l.countP (fun b => !b)
  | [], i, h => by simp at h
  | b :: r, 0, h => by
    simp at h
    subst h
    simp
  | b :: r, i + 1, h => by
    have := count_set r i (by simpa using h)
    simp only [List.set_cons_succ, List.countP_cons]
    omega

theorem left_set {listed : Array Bool} {i : Nat} (h : listed.getD i true = false) : leftN (listed.setIfInBounds i true) + 1 = leftN listed := by
  have hi : i < listed.size := by
    rcases Nat.lt_or_ge i listed.size with h' | h'
    · exact h'
    · simp [Array.getElem?_eq_none h'] at h
  unfold leftN
  rw [Array.toList_setIfInBounds]
  refine count_set _ _ ?_
  simp [hi] at h
  simp [hi, h]

theorem left_none {listed : Array Bool} (h : leftN listed = 0) (i : Nat) : listed.getD i true = true := by
  rcases Nat.lt_or_ge i listed.size with hi | hi
  · have := List.countP_eq_zero.1 h (listed[i]) (by simp)
    simpa [hi] using this
  · simp [Array.getElem?_eq_none hi]

/-- Where nothing is ready, all has come up. -/
theorem all_up {ops : Array Oper} {n : Nat} (hf : fitB ops n = true) {listed : Array Bool} (hz : listed.size = ops.size) (h : Region.ready .any ops listed = []) : ∀ i, i < ops.size → listed.getD i false = true := by
  intro i
  induction i using Nat.strongRecOn with
  | _ i ih =>
    intro hi
    cases hb : listed.getD i false with
    | true => rfl
    | false =>
      exfalso
      have hm : i ∈ Region.ready .any ops listed := by
        rw [mem_ready]
        refine ⟨?_, ops[i], by simp [hi], fun e he hbb => ?_⟩
        · have hj : i < listed.size := by omega
          simp [hj] at hb ⊢
          exact hb
        · have := fit_low hf (i := i) (o := ops[i]) (by simp [hi]) he hbb
          exact ih e.on this (by omega)
      rw [h] at hm
      cases hm

/-- The look at one operation. -/
def Step (P : Program) (ops : Array Oper) (Q : Exit → Act → World → Prop) (V : Nat → Value → World → Prop) (a0 : Act) (w0 : World) (i : Nat) : Prop :=
  ∀ o, ops[i]? = some o → ∀ (a : Act) (w : World), Later w0 w → (∀ s, (∀ (j : Nat) (q : Oper), ops[j]? = some q → q.dst ≠ some s) → a.tmps[s]? = a0.tmps[s]?) →
    (∀ j ∈ (o.after.toList.filter (Region.binds .any)).map (·.on), ∀ (q : Oper) (s : Tmp), ops[j]? = some q → q.dst = some s → ∃ v, a.tmps[s]? = some v ∧ V j v w) →
    if Region.wanted o (yielded ops a.tmps) = true then Oper.wp P o a w (fun a' w' => ∃ v, a' = a.put o.dst v ∧ V i v w' ∧ Later w w') Q else V i undef w

theorem region_each {P : Program} {id : Nat} {Q : Exit → Act → World → Prop} {a0 : Act} {w : World} {ops : Array Oper} (V : Nat → Value → World → Prop) (hm : P.follows .mixedOrders = true) (hf : fitB ops a0.tmps.size = true)
    (hV : ∀ i v W W', V i v W → Later W W' → V i v W')
    (hs : ∀ i, i < ops.size → Step P ops Q V a0 w i)
    (hq : ∀ a w', Later w w' → a.defers = a0.defers → a.tmps.size = a0.tmps.size → (∀ s, (∀ (j : Nat) (q : Oper), ops[j]? = some q → q.dst ≠ some s) → a.tmps[s]? = a0.tmps[s]?) → (∀ (i : Nat) (o : Oper) (s : Tmp), ops[i]? = some o → o.dst = some s → ∃ v, a.tmps[s]? = some v ∧ V i v w') → Q .normal a w') :
    (Code.region id ops true).wp P Q a0 w := by
  refine wp_region_any hm ?_
  refine wpAny_inv (fun fuel listed a w' => Up ops V a0 w listed a w' ∧ listed.size = ops.size ∧ leftN listed ≤ fuel) ?_ ?_ ?_ _ _ _ _ ?_
  · rintro fuel listed a w' ⟨u, hz, _⟩ hr
    have hall := all_up hf hz hr
    refine hq a w' u.late u.defers u.size (fun s hn => u.old s (fun i o ho hd => absurd hd (hn i o ho))) (fun i o s ho hd => u.come i o s ho (hall i (Array.getElem?_eq_some_iff.1 ho).1) hd)
  · rintro listed a w' ⟨u, hz, hl⟩
    refine List.eq_nil_iff_forall_not_mem.2 fun i hi => ?_
    have := (mem_ready.1 hi).1
    rw [left_none (by omega) i] at this
    cases this
  · rintro fuel listed a w' i ⟨u, hz, hl⟩ hi
    obtain ⟨hi0, o, ho, hdep⟩ := mem_ready.1 hi
    have hlt : i < listed.size := by
      rw [hz]
      exact (Array.getElem?_eq_some_iff.1 ho).1
    have hlf := left_set hi0
    have hi1 : listed.getD i false = false := by
      simp [hlt] at hi0 ⊢
      exact hi0
    have hst := (show Step P ops Q V a0 w i from hs i (by omega)) o ho a w' u.late (fun s hn => u.old s (fun j q hq hd => absurd hd (hn j q hq))) (by
      intro j hj q s hq hd
      obtain ⟨e, he, rfl⟩ := List.mem_map.1 hj
      obtain ⟨he1, he2⟩ := List.mem_filter.1 he
      exact u.come e.on q s hq (hdep e (Array.mem_toList_iff.1 he1) he2) hd)
    have key : ∀ v w'', V i v w'' → Later w' w'' → Up ops V a0 w (listed.setIfInBounds i true) (a.put o.dst v) w'' := by
      intro v w'' hv hg
      refine ⟨gtrans u.late hg, ?_, ?_, ?_, ?_⟩
      · cases o.dst <;> exact u.defers
      · cases hd : o.dst with
        | none => exact u.size
        | some d => simp [Act.put, u.size]
      · intro s hn
        have h1 : a.tmps[s]? = a0.tmps[s]? := u.old s (fun j q hq hd => by
          have := hn j q hq hd
          rw [getD_set hlt] at this
          simp at this
          simpa using this.2)
        cases hd : o.dst with
        | none => exact h1
        | some d =>
          have hne : d ≠ s := by
            rintro rfl
            have := hn i o ho hd
            rw [getD_set hlt] at this
            simp at this
          simp only [Act.put]
          rw [Array.getElem?_setIfInBounds_ne hne]
          exact h1
      · intro j q s hq hl' hd
        by_cases hji : j = i
        · subst hji
          obtain rfl : q = o := Option.some.inj (hq.symm.trans ho)
          refine ⟨v, ?_, hv⟩
          rw [hd]
          have := fit_in hf ho hd
          rw [← u.size] at this
          simp [Act.put, this]
        · rw [getD_set hlt] at hl'
          simp [hji] at hl'
          obtain ⟨x, hx, hx'⟩ := u.come j q s hq (by simpa using hl') hd
          refine ⟨x, ?_, hV _ _ _ _ hx' hg⟩
          cases hd' : o.dst with
          | none => exact hx
          | some d =>
            have hne : d ≠ s := by
              rintro rfl
              exact hji (fit_dst hf ho hq hd' hd)
            simp only [Act.put]
            rw [Array.getElem?_setIfInBounds_ne hne]
            exact hx
    unfold wpOp
    rw [ho]
    show if Region.wanted o (yielded ops a.tmps) = true then _ else _
    split
    · rename_i hw
      rw [if_pos hw] at hst
      refine .inl (Oper.wp_mono ?_ hst)
      rintro a' w'' ⟨v, rfl, hv, hg⟩
      exact ⟨key v w'' hv hg, by simp [hz], by omega⟩
    · rename_i hw
      rw [if_neg hw] at hst
      exact ⟨key undef w' hst (Later.refl _), by simp [hz], by omega⟩
  · refine ⟨⟨Later.refl w, rfl, rfl, fun _ _ => rfl, fun i o s ho hl _ => ?_⟩, by simp, ?_⟩
    · rw [getD_replicate_false] at hl
      cases hl
    · unfold leftN
      have := List.countP_le_length (p := fun b => !b) (l := (Array.replicate ops.size false).toList)
      simpa using this

theorem ev {a : Act} {k : Tmp} {v : Value} (h : a.tmps[k]? = some v) : a.eval (.tmp k) = v := by
  simp [Act.eval, h]

/-- No operation writes this slot. -/
def freeB (ops : Array Oper) (s : Tmp) : Bool := ops.toList.all fun q => !(q.dst == some s)

theorem free_of {ops : Array Oper} {s : Tmp} (h : freeB ops s = true) : ∀ (j : Nat) (q : Oper), ops[j]? = some q → q.dst ≠ some s := by
  intro j q hq hd
  have := List.all_eq_true.1 h q (by
    rw [Array.mem_toList_iff]
    exact Array.mem_of_getElem? hq)
  simp [hd] at this

theorem want_of {ops : Array Oper} {o : Oper} {a : Act} {j : Nat} {q : Oper} {s : Tmp} {b c : Bool} (hg : o.guard = some (j, c)) (hq : ops[j]? = some q) (hd : q.dst = some s) (h : a.tmps[s]? = some (.bool b)) : Region.wanted o (yielded ops a.tmps) = (b == c) := by
  unfold Region.wanted yielded
  rw [hg]
  simp [hq, hd, h]

theorem ite_yes {c : Prop} [Decidable c] {A B : Prop} (h : c) (ha : A) : if c then A else B := by rw [if_pos h]; exact ha

theorem ite_by {x : Bool} {A B : Prop} {b : Bool} (h : x = b) (h1 : b = true → A) (h2 : b = false → B) : if x = true then A else B := by
  subst h
  split
  · exact h1 (by assumption)
  · exact h2 (by simpa using ‹¬ x = true›)

theorem act_eta (a : Act) (n : Nat) (d : List Deferred) (hz : a.tmps.size = n) (hd : a.defers = d) : a = ⟨((List.range n).map fun s => a.tmps.getD s undef).toArray, d⟩ := by
  obtain ⟨t, e⟩ := a
  subst hd
  simp only [Act.mk.injEq, and_true]
  apply Array.ext
  · simp at hz ⊢
    exact hz
  · intro i h1 h2
    simp [h1]

theorem getD_of {a : Act} {s : Tmp} {v : Value} (h : a.tmps[s]? = some v) : a.tmps.getD s undef = v := by simp [h]

end Go.Proofs.YtihdijkplmfhfaaGreatDoor.Each

/- Whether a configuration's size, zone, sunsets and number of windows may be, by the program. No condition but those that each theorem states. -/
namespace Go.Proofs.YtihdijkplmfhfaaGreatDoor.Conf
set_option maxRecDepth 100000
set_option maxRecDepth 100000
open Go.ChangeShapes Go.WideShapes Go.ChangeAt Go.RowKit
open Go.Proofs.YtihdijkplmfhfaaGreatDoor.Divs Go.Proofs.YtihdijkplmfhfaaGreatDoor.Grow Go.Proofs.YtihdijkplmfhfaaGreatDoor.Zone
open Go.Proofs.YtihdijkplmfhfaaGreatDoor.By (Sk SL)
open Go.Proofs.YtihdijkplmfhfaaGreatDoor.Each
open Go.Proofs.YtihdijkplmfhfaaGreatDoor.Zo Go.Proofs.YtihdijkplmfhfaaGreatDoor.Su Go.Proofs.YtihdijkplmfhfaaGreatDoor.Cf

theorem floors_any (c : Cg) (u v : Value) (w : World) (h0 : 2 ≤ c.f) (h1 : c.f ≤ 64) : Calls Tryz.prog 111 #[.agg (cc c u v)] w fun e w' => e = .returned (.agg #[.int .i64 0, .int .i64 (c.f - 1)]) ∧ Later w w' := by
  unfold cc
  go_enter Tryz.func111, Tryz.ntmps111
  go_wp2_with fail
  exact bodyPost_ret (v := .agg #[.int .i64 0, .int .i64 (c.f - 1)]) (by simp [results, Tryz.results111, go_sem]) rfl ⟨rfl, ((Later.refl w).alloc _ _).alloc _ _⟩

theorem new_celld (W : World) (cs : Array Value) (t : TypeId) (i : Nat) (v : Value) (g : Nat) (hg : g = W.heap.size) (h : cs[i]? = some v) : (W.alloc (.cells cs t)).drew.cell? ⟨g, i, none⟩ = some v := new_cell W cs t i v g hg h

theorem load_cfg (C : Array Value) (hC : C.size = 37) (W : World) (g : Nat) (h : At W g C) : (Instr.loadAt 33 (.pointer (some ⟨g, 0, none⟩))).run Tryz.prog W = .ok (.agg C) W := by
  have hi : (Tryz.prog.info? 33).map (·.size) = some C.toList.length := by
    rw [Array.length_toList, hC]
    kernel_rfl
  have := run_loadAt_mid (P := Tryz.prog) W g 0 33 C.toList _ (fun j v hv => by rw [Nat.zero_add]; exact h j v (by simpa using hv)) Tryz.underlying33 rfl hi
  simpa using this

theorem wp_load_cfg {o : Oper} {a : Act} {K : Act → World → Prop} {Q : Exit → Act → World → Prop} (C : Array Value) (hC : C.size = 37) (W : World) (g : Nat) (h : At W g C) (x : Operand) (ho : o.op = .load 33 x) (hx : a.eval x = .pointer (some ⟨g, 0, none⟩)) (hK : K (a.put o.dst (.agg C)) W) : o.wp Tryz.prog a W K Q := by
  have hi : (Tryz.prog.info? 33).map (·.size) = some C.toList.length := by
    rw [Array.length_toList, hC]
    kernel_rfl
  refine wp_load_mid (P := Tryz.prog) 33 x ho g 0 hx C.toList _ (fun j v hv => by rw [Nat.zero_add]; exact h j v (by simpa using hv)) Tryz.underlying33 rfl hi ?_
  simpa using hK

/-- A configuration is loaded whole. -/
theorem load_at {ops : Array Oper} {rest : List Oper} {o : Oper} {a : Act} {W : World} {Q : Exit → Act → World → Prop} (C : Array Value) (hC : C.size = 37) (hgd : o.guard = none) (x : Operand) (ho : o.op = .load 33 x) (g : Nat) (hx : a.eval x = .pointer (some ⟨g, 0, none⟩)) (h : At W g C) (hK : wpList Tryz.prog ops Q rest (a.put o.dst (.agg C)) W) : wpList Tryz.prog ops Q (o :: rest) a W := by
  have hi : (Tryz.prog.info? 33).map (·.size) = some C.toList.length := by
    rw [Array.length_toList, hC]
    kernel_rfl
  refine wpList_load_mid (P := Tryz.prog) hgd 33 x ho g 0 hx C.toList _ (fun j v hv => by rw [Nat.zero_add]; exact h j v (by simpa using hv)) Tryz.underlying33 rfl hi ?_
  simpa using hK

/-- A row of one number. -/
def One (x : Int) (v : Value) (W : World) : Prop := ∃ g, v = .slice (some ⟨g, 0, none⟩) 1 1 ∧ W.cell? ⟨g, 0, none⟩ = some (.int .i64 x)

theorem One.later {x : Int} {v : Value} {W W' : World} (h : One x v W) (g : Later W W') : One x v W' := by
  obtain ⟨b, e, c⟩ := h
  exact ⟨b, e, gsome g c⟩

def SV (C : Array Value) (f n p : Int) (A : Nat) (b1 b2 b3 : Bool) : Nat → Value → World → Prop
  | 0, v, _ => v = .agg #[.int .i64 2, .int .i64 64]
  | 1, v, _ => v = .pointer (some ⟨A, 0, none⟩)
  | 2, v, _ => v = .int .i64 f
  | 3, v, W => One f v W
  | 4, v, _ => v = .bool b1
  | 5, v, _ => v = .bool b1
  | 6, v, _ => b1 = true → v = .agg #[.int .i64 1, .int .i64 8]
  | 7, v, _ => b1 = true → v = .pointer (some ⟨A, 1, none⟩)
  | 8, v, _ => b1 = true → v = .int .i64 n
  | 9, v, W => b1 = true → One n v W
  | 10, v, _ => b1 = true → v = .bool b2
  | 11, v, _ => v = .bool (b1 && b2)
  | 12, v, _ => v = .bool (b1 && b2)
  | 13, v, _ => (b1 && b2) = true → v = .agg C
  | 14, v, _ => (b1 && b2) = true → v = .agg #[.int .i64 0, .int .i64 (f - 1)]
  | 15, v, _ => (b1 && b2) = true → v = .pointer (some ⟨A, 2, none⟩)
  | 16, v, _ => (b1 && b2) = true → v = .int .i64 p
  | 17, v, W => (b1 && b2) = true → One p v W
  | 18, v, _ => (b1 && b2) = true → v = .bool b3
  | 19, v, _ => v = .bool (b1 && b2 && b3)
  | _, _, _ => True

theorem SV.later (C : Array Value) (f n p : Int) (A : Nat) (b1 b2 b3 : Bool) (i : Nat) (v : Value) (W W' : World) (h : SV C f n p A b1 b2 b3 i v W) (g : Later W W') : SV C f n p A b1 b2 b3 i v W' := by
  match i, h with
  | 0, h | 1, h | 2, h | 4, h | 5, h | 6, h | 7, h | 8, h | 10, h | 11, h | 12, h | 13, h | 14, h | 15, h | 16, h | 18, h | 19, h => exact h
  | 3, h => exact One.later h g
  | 9, h | 17, h => exact fun e => One.later (h e) g
  | _ + 20, h => trivial

set_option maxHeartbeats 2000000 in
theorem size_any' (C : Array Value) (f n p N : Int) (B1 B2 B3 : Bool) (w : World) (hC : C.size = 37) (f0 : C[0]? = some (.int .i64 f)) (f1 : C[1]? = some (.int .i64 n)) (f2 : C[2]? = some (.int .i64 p))
    (HN : Hid (N = if (B1 && B2 && B3) = true then 0 else 100)) (X1 : Hid (bt f 2 64 = B1)) (X2 : Hid (bt n 1 8 = B2)) (X3 : Hid (bt p 0 (f - 1) = B3))
    (HF : Hid ((B1 && B2) = true → ∀ W, Calls Tryz.prog 111 #[.agg C] W fun e w' => e = .returned (.agg #[.int .i64 0, .int .i64 (f - 1)]) ∧ Later W w')) :
    Calls Tryz.prog 84 #[.agg C] w fun e w' => e = .returned (.int .i64 N) ∧ Later w w' := by
  have HA := Lib.hid (((At.new w C 33).put (.cells #[.int .i64 2, .int .i64 64] 133)).put (.cells #[.int .i64 1, .int .i64 8] 133))
  have HE := Lib.hid ((At.new (w.alloc (.cells C 33)) #[.int .i64 2, .int .i64 64] 133).put (.cells #[.int .i64 1, .int .i64 8] 133))
  have HD := Lib.hid (At.new ((w.alloc (.cells C 33)).alloc (.cells #[.int .i64 2, .int .i64 64] 133)) #[.int .i64 1, .int .i64 8] 133)
  have HL := Lib.hid ((((Later.refl w).alloc C 33).alloc #[.int .i64 2, .int .i64 64] 133).alloc #[.int .i64 1, .int .i64 8] 133)
  go_enter Tryz.func84, Tryz.ntmps84
  go_wp2_with fail
  generalize ((w.alloc (.cells C 33)).alloc (.cells #[.int .i64 2, .int .i64 64] 133)).alloc (.cells #[.int .i64 1, .int .i64 8] 133) = W0 at *
  simp only [World.size_alloc] at HE HD
  refine region_each (SV C f n p w.heap.size B1 B2 B3) (by kernel_rfl) (by kernel_rfl) (SV.later C f n p w.heap.size _ _ _) ?_ ?_
  · intro i hi
    match i with
    | 0 =>
      intro o ho
      simp only [List.getElem?_toArray, List.getElem?_cons_zero, Option.some.injEq] at ho
      subst ho
      intro a W hl hold hdep
      refine ite_yes rfl ?_
      have h3 : a.tmps[3]? = some (.pointer (some ⟨w.heap.size + 1, 0, none⟩)) := hold 3 (free_of (by kernel_rfl))
      have e0 := HE.out.later hl 0 _ rfl
      have e1 := HE.out.later hl 1 _ rfl
      clear hold hdep
      unfold Oper.wp
      go_simp
      exact ⟨_, rfl, rfl, Later.refl _⟩
    | 1 =>
      intro o ho
      simp only [List.getElem?_toArray, List.getElem?_cons_zero, List.getElem?_cons_succ, Option.some.injEq] at ho
      subst ho
      intro a W hl hold hdep
      refine ite_yes rfl ?_
      have h1 : a.tmps[1]? = some (.pointer (some ⟨w.heap.size, 0, none⟩)) := hold 1 (free_of (by kernel_rfl))
      clear hold hdep
      unfold Oper.wp
      go_simp
      exact ⟨_, rfl, rfl, Later.refl _⟩
    | 2 =>
      intro o ho
      simp only [List.getElem?_toArray, List.getElem?_cons_zero, List.getElem?_cons_succ, Option.some.injEq] at ho
      subst ho
      intro a W hl hold hdep
      refine ite_yes rfl ?_
      obtain ⟨_, h8, rfl⟩ := hdep 1 (by decide) _ _ rfl rfl
      have e0 := HA.out.later hl 0 _ f0
      clear hold hdep
      unfold Oper.wp
      go_simp
      exact ⟨_, rfl, rfl, Later.refl _⟩
    | 3 =>
      intro o ho
      simp only [List.getElem?_toArray, List.getElem?_cons_zero, List.getElem?_cons_succ, Option.some.injEq] at ho
      subst ho
      intro a W hl hold hdep
      refine ite_yes rfl ?_
      obtain ⟨_, h9, rfl⟩ := hdep 2 (by decide) _ _ rfl rfl
      clear hold hdep
      unfold Oper.wp
      go_simp
      exact ⟨_, rfl, ⟨_, rfl, new_cell _ _ _ 0 _ _ rfl rfl⟩, (Later.refl _).put _⟩
    | 4 =>
      intro o ho
      simp only [List.getElem?_toArray, List.getElem?_cons_zero, List.getElem?_cons_succ, Option.some.injEq] at ho
      subst ho
      intro a W hl hold hdep
      refine ite_yes rfl ?_
      obtain ⟨_, h7, rfl⟩ := hdep 0 (by decide) _ _ rfl rfl
      obtain ⟨_, h10, ⟨g, rfl, c⟩⟩ := hdep 3 (by decide) _ _ rfl rfl
      clear hold hdep
      unfold Oper.wp
      go_simp
      refine (hold_one 2 64 f _ _ c).mono ?_
      rintro e w1 ⟨rfl, hg1⟩
      exact ⟨_, rfl, congrArg Value.bool X1.out, hg1⟩
    | 5 =>
      intro o ho
      simp only [List.getElem?_toArray, List.getElem?_cons_zero, List.getElem?_cons_succ, Option.some.injEq] at ho
      subst ho
      intro a W hl hold hdep
      refine ite_yes rfl ?_
      obtain ⟨_, h11, rfl⟩ := hdep 4 (by decide) _ _ rfl rfl
      clear hold hdep
      unfold Oper.wp
      go_simp
      exact ⟨_, rfl, rfl, Later.refl _⟩
    | 6 =>
      intro o ho
      simp only [List.getElem?_toArray, List.getElem?_cons_zero, List.getElem?_cons_succ, Option.some.injEq] at ho
      subst ho
      intro a W hl hold hdep
      obtain ⟨_, hg, rfl⟩ := hdep 5 (by decide) _ _ rfl rfl
      refine ite_by (want_of rfl rfl rfl hg) (fun hb => ?_) (fun hb e => by rw [e] at hb; cases hb)
      have hb : B1 = true := by simpa using hb
      have h4 : a.tmps[4]? = some (.pointer (some ⟨w.heap.size + 1 + 1, 0, none⟩)) := hold 4 (free_of (by kernel_rfl))
      have e0 := HD.out.later hl 0 _ rfl
      have e1 := HD.out.later hl 1 _ rfl
      clear hold hdep
      unfold Oper.wp
      go_simp
      exact ⟨_, rfl, fun _ => rfl, Later.refl _⟩
    | 7 =>
      intro o ho
      simp only [List.getElem?_toArray, List.getElem?_cons_zero, List.getElem?_cons_succ, Option.some.injEq] at ho
      subst ho
      intro a W hl hold hdep
      obtain ⟨_, hg, rfl⟩ := hdep 5 (by decide) _ _ rfl rfl
      refine ite_by (want_of rfl rfl rfl hg) (fun hb => ?_) (fun hb e => by rw [e] at hb; cases hb)
      have hb : B1 = true := by simpa using hb
      have h1 : a.tmps[1]? = some (.pointer (some ⟨w.heap.size, 0, none⟩)) := hold 1 (free_of (by kernel_rfl))
      clear hold hdep
      unfold Oper.wp
      go_simp
      exact ⟨_, rfl, fun _ => rfl, Later.refl _⟩
    | 8 =>
      intro o ho
      simp only [List.getElem?_toArray, List.getElem?_cons_zero, List.getElem?_cons_succ, Option.some.injEq] at ho
      subst ho
      intro a W hl hold hdep
      obtain ⟨_, hg, rfl⟩ := hdep 5 (by decide) _ _ rfl rfl
      refine ite_by (want_of rfl rfl rfl hg) (fun hb => ?_) (fun hb e => by rw [e] at hb; cases hb)
      have hb : B1 = true := by simpa using hb
      obtain ⟨_, h14, v⟩ := hdep 7 (by decide) _ _ rfl rfl
      obtain rfl := v hb
      have e0 := HA.out.later hl 1 _ f1
      clear hold hdep
      unfold Oper.wp
      go_simp
      exact ⟨_, rfl, fun _ => rfl, Later.refl _⟩
    | 9 =>
      intro o ho
      simp only [List.getElem?_toArray, List.getElem?_cons_zero, List.getElem?_cons_succ, Option.some.injEq] at ho
      subst ho
      intro a W hl hold hdep
      obtain ⟨_, hg, rfl⟩ := hdep 5 (by decide) _ _ rfl rfl
      refine ite_by (want_of rfl rfl rfl hg) (fun hb => ?_) (fun hb e => by rw [e] at hb; cases hb)
      have hb : B1 = true := by simpa using hb
      obtain ⟨_, h15, v⟩ := hdep 8 (by decide) _ _ rfl rfl
      obtain rfl := v hb
      clear hold hdep
      unfold Oper.wp
      go_simp
      exact ⟨_, rfl, fun _ => ⟨_, rfl, new_cell _ _ _ 0 _ _ rfl rfl⟩, (Later.refl _).put _⟩
    | 10 =>
      intro o ho
      simp only [List.getElem?_toArray, List.getElem?_cons_zero, List.getElem?_cons_succ, Option.some.injEq] at ho
      subst ho
      intro a W hl hold hdep
      obtain ⟨_, hg, rfl⟩ := hdep 5 (by decide) _ _ rfl rfl
      refine ite_by (want_of rfl rfl rfl hg) (fun hb => ?_) (fun hb e => by rw [e] at hb; cases hb)
      have hb : B1 = true := by simpa using hb
      obtain ⟨_, h13, v⟩ := hdep 6 (by decide) _ _ rfl rfl
      obtain rfl := v hb
      obtain ⟨_, h16, vo⟩ := hdep 9 (by decide) _ _ rfl rfl
      obtain ⟨g, rfl, c⟩ := vo hb
      clear hold hdep
      unfold Oper.wp
      go_simp
      refine (hold_one 1 8 n _ _ c).mono ?_
      rintro e w1 ⟨rfl, hg1⟩
      exact ⟨_, rfl, fun _ => congrArg Value.bool X2.out, hg1⟩
    | 11 =>
      intro o ho
      simp only [List.getElem?_toArray, List.getElem?_cons_zero, List.getElem?_cons_succ, Option.some.injEq] at ho
      subst ho
      intro a W hl hold hdep
      refine ite_yes rfl ?_
      obtain ⟨_, h12, rfl⟩ := hdep 5 (by decide) _ _ rfl rfl
      obtain ⟨x, h17, hx⟩ := hdep 10 (by decide) _ _ rfl rfl
      clear hold hdep
      unfold Oper.wp
      cases hb : B1 with
      | false =>
        rw [hb] at h12
        go_simp
        exact ⟨_, rfl, rfl, Later.refl _⟩
      | true =>
        obtain rfl := hx hb
        rw [hb] at h12
        go_simp
        exact ⟨_, rfl, rfl, Later.refl _⟩
    | 12 =>
      intro o ho
      simp only [List.getElem?_toArray, List.getElem?_cons_zero, List.getElem?_cons_succ, Option.some.injEq] at ho
      subst ho
      intro a W hl hold hdep
      refine ite_yes rfl ?_
      obtain ⟨_, h18, rfl⟩ := hdep 11 (by decide) _ _ rfl rfl
      clear hold hdep
      unfold Oper.wp
      go_simp
      exact ⟨_, rfl, rfl, Later.refl _⟩
    | 13 =>
      intro o ho
      simp only [List.getElem?_toArray, List.getElem?_cons_zero, List.getElem?_cons_succ, Option.some.injEq] at ho
      subst ho
      intro a W hl hold hdep
      obtain ⟨_, hg, rfl⟩ := hdep 12 (by decide) _ _ rfl rfl
      refine ite_by (want_of rfl rfl rfl hg) (fun hb => ?_) (fun hb e => by rw [e] at hb; cases hb)
      have hb : (B1 && B2) = true := by simpa using hb
      have h1 : a.tmps[1]? = some (.pointer (some ⟨w.heap.size, 0, none⟩)) := hold 1 (free_of (by kernel_rfl))
      clear hold hdep
      exact wp_load_cfg C hC W w.heap.size (HA.out.later hl) (.tmp 1) rfl (ev h1) ⟨_, rfl, fun _ => rfl, Later.refl _⟩
    | 14 =>
      intro o ho
      simp only [List.getElem?_toArray, List.getElem?_cons_zero, List.getElem?_cons_succ, Option.some.injEq] at ho
      subst ho
      intro a W hl hold hdep
      obtain ⟨_, hg, rfl⟩ := hdep 12 (by decide) _ _ rfl rfl
      refine ite_by (want_of rfl rfl rfl hg) (fun hb => ?_) (fun hb e => by rw [e] at hb; cases hb)
      have hb : (B1 && B2) = true := by simpa using hb
      obtain ⟨_, h20, v⟩ := hdep 13 (by decide) _ _ rfl rfl
      obtain rfl := v hb
      have hF := HF.out hb W
      clear hold hdep
      unfold Oper.wp
      go_simp
      refine hF.mono ?_
      rintro e w1 ⟨rfl, hg1⟩
      exact ⟨_, rfl, fun _ => rfl, hg1⟩
    | 15 =>
      intro o ho
      simp only [List.getElem?_toArray, List.getElem?_cons_zero, List.getElem?_cons_succ, Option.some.injEq] at ho
      subst ho
      intro a W hl hold hdep
      obtain ⟨_, hg, rfl⟩ := hdep 12 (by decide) _ _ rfl rfl
      refine ite_by (want_of rfl rfl rfl hg) (fun hb => ?_) (fun hb e => by rw [e] at hb; cases hb)
      have hb : (B1 && B2) = true := by simpa using hb
      have h1 : a.tmps[1]? = some (.pointer (some ⟨w.heap.size, 0, none⟩)) := hold 1 (free_of (by kernel_rfl))
      clear hold hdep
      unfold Oper.wp
      go_simp
      exact ⟨_, rfl, fun _ => rfl, Later.refl _⟩
    | 16 =>
      intro o ho
      simp only [List.getElem?_toArray, List.getElem?_cons_zero, List.getElem?_cons_succ, Option.some.injEq] at ho
      subst ho
      intro a W hl hold hdep
      obtain ⟨_, hg, rfl⟩ := hdep 12 (by decide) _ _ rfl rfl
      refine ite_by (want_of rfl rfl rfl hg) (fun hb => ?_) (fun hb e => by rw [e] at hb; cases hb)
      have hb : (B1 && B2) = true := by simpa using hb
      obtain ⟨_, h22, v⟩ := hdep 15 (by decide) _ _ rfl rfl
      obtain rfl := v hb
      have e0 := HA.out.later hl 2 _ f2
      clear hold hdep
      unfold Oper.wp
      go_simp
      exact ⟨_, rfl, fun _ => rfl, Later.refl _⟩
    | 17 =>
      intro o ho
      simp only [List.getElem?_toArray, List.getElem?_cons_zero, List.getElem?_cons_succ, Option.some.injEq] at ho
      subst ho
      intro a W hl hold hdep
      obtain ⟨_, hg, rfl⟩ := hdep 12 (by decide) _ _ rfl rfl
      refine ite_by (want_of rfl rfl rfl hg) (fun hb => ?_) (fun hb e => by rw [e] at hb; cases hb)
      have hb : (B1 && B2) = true := by simpa using hb
      obtain ⟨_, h23, v⟩ := hdep 16 (by decide) _ _ rfl rfl
      obtain rfl := v hb
      clear hold hdep
      unfold Oper.wp
      go_simp
      exact ⟨_, rfl, fun _ => ⟨_, rfl, new_cell _ _ _ 0 _ _ rfl rfl⟩, (Later.refl _).put _⟩
    | 18 =>
      intro o ho
      simp only [List.getElem?_toArray, List.getElem?_cons_zero, List.getElem?_cons_succ, Option.some.injEq] at ho
      subst ho
      intro a W hl hold hdep
      obtain ⟨_, hg, rfl⟩ := hdep 12 (by decide) _ _ rfl rfl
      refine ite_by (want_of rfl rfl rfl hg) (fun hb => ?_) (fun hb e => by rw [e] at hb; cases hb)
      have hb : (B1 && B2) = true := by simpa using hb
      obtain ⟨_, h21, v⟩ := hdep 14 (by decide) _ _ rfl rfl
      obtain rfl := v hb
      obtain ⟨_, h24, vo⟩ := hdep 17 (by decide) _ _ rfl rfl
      obtain ⟨g, rfl, c⟩ := vo hb
      clear hold hdep
      unfold Oper.wp
      go_simp
      refine (hold_one 0 (f - 1) p _ _ c).mono ?_
      rintro e w1 ⟨rfl, hg1⟩
      exact ⟨_, rfl, fun _ => congrArg Value.bool X3.out, hg1⟩
    | 19 =>
      intro o ho
      simp only [List.getElem?_toArray, List.getElem?_cons_zero, List.getElem?_cons_succ, Option.some.injEq] at ho
      subst ho
      intro a W hl hold hdep
      refine ite_yes rfl ?_
      obtain ⟨_, h19, rfl⟩ := hdep 12 (by decide) _ _ rfl rfl
      obtain ⟨x, h25, hx⟩ := hdep 18 (by decide) _ _ rfl rfl
      clear hold hdep
      unfold Oper.wp
      cases hb : (B1 && B2) with
      | false =>
        rw [hb] at h19
        go_simp
        exact ⟨_, rfl, by show _ = Value.bool ((B1 && B2) && B3); rw [hb]; rfl, Later.refl _⟩
      | true =>
        obtain rfl := hx hb
        rw [hb] at h19
        go_simp
        exact ⟨_, rfl, by show _ = Value.bool ((B1 && B2) && B3); rw [hb]; rfl, Later.refl _⟩
    | k + 20 => exact absurd hi (by simp)
  · intro a W hl hd hz hold hall
    obtain ⟨x, hx, rfl⟩ := hall 19 _ _ rfl rfl
    have ha := act_eta a 27 [] hz hd
    rw [show (List.range 27).map (fun s => a.tmps.getD s undef) = [a.tmps.getD 0 undef, a.tmps.getD 1 undef, a.tmps.getD 2 undef, a.tmps.getD 3 undef, a.tmps.getD 4 undef, a.tmps.getD 5 undef, a.tmps.getD 6 undef, a.tmps.getD 7 undef, a.tmps.getD 8 undef, a.tmps.getD 9 undef, a.tmps.getD 10 undef, a.tmps.getD 11 undef, a.tmps.getD 12 undef, a.tmps.getD 13 undef, a.tmps.getD 14 undef, a.tmps.getD 15 undef, a.tmps.getD 16 undef, a.tmps.getD 17 undef, a.tmps.getD 18 undef, a.tmps.getD 19 undef, a.tmps.getD 20 undef, a.tmps.getD 21 undef, a.tmps.getD 22 undef, a.tmps.getD 23 undef, a.tmps.getD 24 undef, a.tmps.getD 25 undef, a.tmps.getD 26 undef] from rfl, getD_of hx] at ha
    rw [ha]
    clear hall hold hz hd ha hx
    generalize a.tmps.getD 0 undef = x0
    generalize a.tmps.getD 1 undef = x1
    generalize a.tmps.getD 2 undef = x2
    generalize a.tmps.getD 3 undef = x3
    generalize a.tmps.getD 4 undef = x4
    generalize a.tmps.getD 5 undef = x5
    generalize a.tmps.getD 6 undef = x6
    generalize a.tmps.getD 7 undef = x7
    generalize a.tmps.getD 8 undef = x8
    generalize a.tmps.getD 9 undef = x9
    generalize a.tmps.getD 10 undef = x10
    generalize a.tmps.getD 11 undef = x11
    generalize a.tmps.getD 12 undef = x12
    generalize a.tmps.getD 13 undef = x13
    generalize a.tmps.getD 14 undef = x14
    generalize a.tmps.getD 15 undef = x15
    generalize a.tmps.getD 16 undef = x16
    generalize a.tmps.getD 17 undef = x17
    generalize a.tmps.getD 18 undef = x18
    generalize a.tmps.getD 19 undef = x19
    generalize a.tmps.getD 20 undef = x20
    generalize a.tmps.getD 21 undef = x21
    generalize a.tmps.getD 22 undef = x22
    generalize a.tmps.getD 23 undef = x23
    generalize a.tmps.getD 24 undef = x24
    generalize a.tmps.getD 25 undef = x25
    have HW := Lib.hid (gtrans HL.out hl)
    clear hl
    cases hb : (B1 && B2 && B3) with
    | false =>
      have HV : Hid (N = 100) := Lib.hid (by rw [HN.out, hb]; rfl)
      clear hb
      go_wp2_with fail
      go_ret
      exact ⟨ret1 HV.out.symm, HW.out⟩
    | true =>
      have HV : Hid (N = 0) := Lib.hid (by rw [HN.out, hb]; rfl)
      clear hb
      go_wp2_with fail
      go_ret
      exact ⟨ret1 HV.out.symm, HW.out⟩

theorem size_any (c : Cg) (u v : Value) (w : World) : Calls Tryz.prog 84 #[.agg (cc c u v)] w fun e w' => e = .returned (.int .i64 (if so c = true then 0 else 100)) ∧ Later w w' := by
  have := size_any' (cc c u v) c.f c.n c.p _ _ _ _ w rfl rfl rfl rfl (Lib.hid rfl) (Lib.hid rfl) (Lib.hid rfl) (Lib.hid rfl) (Lib.hid (fun h W => by
    simp only [Bool.and_eq_true, bt_iff] at h
    exact floors_any c u v W h.1.1 h.1.2))
  rwa [Bool.and_assoc] at this

theorem many_any (c : Cg) (u v : Value) (w : World) (hv : Wk w v c.ws) : Calls Tryz.prog 89 #[.agg (cc c u v)] w fun e w' => e = .returned (.int .i64 (if c.ws.length ≤ 16 then 0 else 103)) ∧ Later w w' := by
  unfold cc
  obtain ⟨ad, cap, rfl, hm⟩ := hv.len
  clear hv
  by_cases h : c.ws.length ≤ 16
  · have t : decide ((c.ws.length : Int) > 16) = false := by simp; omega
    rw [if_pos h]
    go_enter Tryz.func89, Tryz.ntmps89
    go_wp2_with fail
    go_ret
    exact ⟨rfl, (Later.refl w).alloc _ _⟩
  · have t : decide ((c.ws.length : Int) > 16) = true := by simp; omega
    rw [if_neg h]
    go_enter Tryz.func89, Tryz.ntmps89
    go_wp2_with fail
    go_ret
    exact ⟨rfl, (Later.refl w).alloc _ _⟩

theorem zone_any (c : Cg) (u v : Value) (w : World) : Calls Tryz.prog 87 #[.agg (cc c u v)] w fun e w' => e = .returned (.int .i64 (ck c.z)) ∧ Later w w' := by
  unfold cc
  have K := Lib.hid (fun W => Zone.check_any c.z W)
  unfold zc at K
  go_enter Tryz.func87, Tryz.ntmps87
  go_wp2_with fail
  refine (K.out _).mono ?_
  rintro e w1 ⟨rfl, hg1⟩
  go_wp2_with fail
  go_ret
  exact ⟨rfl, gtrans ((Later.refl w).alloc _ _) hg1⟩

theorem sun_any (c : Cg) (u v : Value) (w : World) : Calls Tryz.prog 88 #[.agg (cc c u v)] w fun e w' => e = .returned (.int .i64 (sk c.s)) ∧ Later w w' := by
  unfold cc
  have K := Lib.hid (fun W => Sun.check_any c.s W)
  unfold Sun.sc at K
  go_enter Tryz.func88, Tryz.ntmps88
  go_wp2_with fail
  refine (K.out _).mono ?_
  rintro e w1 ⟨rfl, hg1⟩
  go_wp2_with fail
  go_ret
  exact ⟨rfl, gtrans ((Later.refl w).alloc _ _) hg1⟩
end Go.Proofs.YtihdijkplmfhfaaGreatDoor.Conf
