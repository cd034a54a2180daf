/-
  Whether numbers lie between two ends, the rule of a window's kind, and whether a window may be, by the program. No condition but those that each theorem states.
-/
import Derived.Test.YthbgllbbliijlaaCw
namespace Go.Proofs.Ythbgllbbliijlaa.Conf
open Go.ChangeShapes Go.WideShapes Go.ChangeAt Go.RowKit
open Go.Proofs.Ythbgllbbliijlaa.Divs Go.Proofs.Ythbgllbbliijlaa.Grow Go.Proofs.Ythbgllbbliijlaa.Zone
open Go.Proofs.Ythbgllbbliijlaa.By (Sk SL)
open Go.Proofs.Ythbgllbbliijlaa.Zo Go.Proofs.Ythbgllbbliijlaa.Su Go.Proofs.Ythbgllbbliijlaa.Cf

/-- The first i numbers lie between the ends. -/
def HRel (a b : Int) (xs : List Int) (i : Value) : Prop := ∃ k : Nat, k ≤ xs.length ∧ i = .int .i64 (k : Int) ∧ ∀ j, j < k → bt (xs.getD j 0) a b = true

theorem all_no (a b : Int) (xs : List Int) (k : Nat) (hk : k < xs.length) (h : bt (xs.getD k 0) a b = false) : xs.all (fun x => bt x a b) = false := by
  rw [List.all_eq_false]
  refine ⟨xs.getD k 0, ?_, by rw [h]; simp⟩
  rw [List.getD_eq_getElem?_getD, List.getElem?_eq_getElem hk]
  exact List.getElem_mem hk

theorem all_yes (a b : Int) (xs : List Int) (h : ∀ j, j < xs.length → bt (xs.getD j 0) a b = true) : xs.all (fun x => bt x a b) = true := by
  rw [List.all_eq_true]
  intro x hx
  obtain ⟨i, hi, rfl⟩ := List.mem_iff_getElem.1 hx
  have := h i hi
  rwa [List.getD_eq_getElem?_getD, List.getElem?_eq_getElem hi] at this

set_option maxHeartbeats 1000000 in
theorem hold_any (a b : Int) (xs : List Int) (v : Value) (w : World) (hs : Sk .i64 w v xs) (hp : 0 < xs.length) :
    Calls Try.prog 21 #[.agg #[.int .i64 a, .int .i64 b], v] w fun e w' => e = .returned (.bool (xs.all (fun x => bt x a b))) ∧ Later w w' := by
  obtain ⟨B, off, cap, rfl, hc1, hc2, hB, hc⟩ := hs.has hp
  have HC : Hid (∀ i, i < xs.length → (w.alloc (.cells #[.int .i64 a, .int .i64 b] 48)).cell? ⟨B, off + i, none⟩ = some (.int .i64 (xs.getD i 0))) := Lib.hid (fun i hi => gsome ((Later.refl w).alloc _ _) (hc i hi))
  have HM : Hid (xs.length ≤ 9223372036854775807) := Lib.hid (by omega)
  have HG := Lib.hid ((Later.refl w).alloc #[.int .i64 a, .int .i64 b] 48)
  clear hs hc hc1 hc2 hB
  obtain ⟨n, hn⟩ : ∃ n, xs.length = n := ⟨_, rfl⟩
  rw [hn] at hp ⊢
  have HN := Lib.hid hn
  clear hn
  go_enter Try.func21, Try.ntmps21
  go_wp2
  go_loop [9] (fun i => HRel a b xs i) (fun i => n - (intOf i).toNat)
  case atStart => exact ⟨0, by omega, rfl, by omega⟩
  case round =>
    obtain ⟨k, hk, rfl, hj⟩ := hrel
    rw [HN.out] at hk
    by_cases hlt : k < n
    · have c := HC.out k (by rw [HN.out]; exact hlt)
      obtain ⟨x, hx⟩ : ∃ x, xs.getD k 0 = x := ⟨_, rfl⟩
      rw [hx] at c
      have hm : n ≤ 9223372036854775807 := by have := HM.out; rw [HN.out] at this; exact this
      by_cases h1 : x < a
      · have HV := Lib.hid (all_no a b xs k (by rw [HN.out]; exact hlt) (by rw [hx]; unfold bt; rw [decide_eq_false (by omega)]; rfl))
        clear hj hx
        go_wp2
        go_ret
        exact ⟨retb HV.out.symm, HG.out⟩
      · by_cases h2 : x > b
        · have HV := Lib.hid (all_no a b xs k (by rw [HN.out]; exact hlt) (by rw [hx]; unfold bt; rw [decide_eq_false (p := x ≤ b) (by omega)]; simp))
          clear hj hx
          go_wp2
          go_ret
          exact ⟨retb HV.out.symm, HG.out⟩
        · have HJ : Hid (∀ j, j < k + 1 → bt (xs.getD j 0) a b = true) := Lib.hid (fun j h => by
            by_cases e : j = k
            · rw [e, hx, bt_iff]; omega
            · exact hj j (by omega))
          clear hj hx
          go_wp2
          go_round
          case rel => exact ⟨k + 1, by rw [HN.out]; omega, by go_num, HJ.out⟩
          case measure => simp [intOf]; omega
    · obtain rfl : k = n := by omega
      have HV := Lib.hid (all_yes a b xs (fun j h => hj j (by rw [← HN.out]; exact h)))
      clear hj
      go_wp2
      go_ret
      exact ⟨retb HV.out.symm, HG.out⟩

theorem sk_cells (W : World) (g : Nat) (xs : List Int) (hn : xs.length ≤ 1000) (h : ∀ i x, xs[i]? = some x → W.cell? ⟨g, i, none⟩ = some (.int .i64 x)) : Sk .i64 W (.slice (some ⟨g, 0, none⟩) xs.length xs.length) xs :=
  ⟨_, _, rfl, Nat.le_refl _, by omega, by simp, fun i x hx => ⟨g, 0, rfl, by rw [Nat.zero_add]; exact h i x hx⟩⟩

theorem new_cell (W : World) (cs : Array Value) (t : TypeId) (i : Nat) (v : Value) (g : Nat) (hg : g = W.heap.size) (h : cs[i]? = some v) : (W.alloc (.cells cs t)).cell? ⟨g, i, none⟩ = some v := by
  subst hg
  rw [World.cell?_alloc_new]
  exact h

theorem hold_one (a b x : Int) (g : Nat) (w : World) (h : w.cell? ⟨g, 0, none⟩ = some (.int .i64 x)) :
    Calls Try.prog 21 #[.agg #[.int .i64 a, .int .i64 b], .slice (some ⟨g, 0, none⟩) 1 1] w fun e w' => e = .returned (.bool (bt x a b)) ∧ Later w w' := by
  have := hold_any a b [x] _ w (sk_cells w g [x] (by simp) (fun i y hy => by
    match i with
    | 0 => simp at hy; subst hy; exact h
    | i + 1 => simp at hy)) (by simp)
  simpa using this

theorem hold_two (a b x y : Int) (g : Nat) (w : World) (h : w.cell? ⟨g, 0, none⟩ = some (.int .i64 x)) (h1 : w.cell? ⟨g, 1, none⟩ = some (.int .i64 y)) :
    Calls Try.prog 21 #[.agg #[.int .i64 a, .int .i64 b], .slice (some ⟨g, 0, none⟩) 2 2] w fun e w' => e = .returned (.bool (bt x a b && bt y a b)) ∧ Later w w' := by
  have := hold_any a b [x, y] _ w (sk_cells w g [x, y] (by simp) (fun i z hz => by
    match i with
    | 0 => simp at hz; subst hz; exact h
    | 1 => simp at hz; subst hz; exact h1
    | i + 2 => simp at hz)) (by simp)
  simpa using this

theorem hold_five (a b x y z s t : Int) (g : Nat) (w : World) (h : w.cell? ⟨g, 0, none⟩ = some (.int .i64 x)) (h1 : w.cell? ⟨g, 1, none⟩ = some (.int .i64 y)) (h2 : w.cell? ⟨g, 2, none⟩ = some (.int .i64 z)) (h3 : w.cell? ⟨g, 3, none⟩ = some (.int .i64 s)) (h4 : w.cell? ⟨g, 4, none⟩ = some (.int .i64 t)) :
    Calls Try.prog 21 #[.agg #[.int .i64 a, .int .i64 b], .slice (some ⟨g, 0, none⟩) 5 5] w fun e w' => e = .returned (.bool (bt x a b && (bt y a b && (bt z a b && (bt s a b && bt t a b))))) ∧ Later w w' := by
  have := hold_any a b [x, y, z, s, t] _ w (sk_cells w g [x, y, z, s, t] (by simp) (fun i r hr => by
    match i with
    | 0 => simp at hr; subst hr; exact h
    | 1 => simp at hr; subst hr; exact h1
    | 2 => simp at hr; subst hr; exact h2
    | 3 => simp at hr; subst hr; exact h3
    | 4 => simp at hr; subst hr; exact h4
    | i + 5 => simp at hr)) (by simp)
  simpa using this

/-- A rule's cells. -/
def rc (r : Ru) : Array Value := #[.int .i64 r.a0, .int .i64 r.a1, .int .i64 r.h0, .int .i64 r.h1, .int .i64 r.u0, .int .i64 r.u1, .int .i64 r.l0, .int .i64 r.l1]

/-- These cells lie in the block b. -/
def At (W : World) (b : Nat) (cs : Array Value) : Prop := ∀ (i : Nat) (v : Value), cs[i]? = some v → W.cell? ⟨b, i, none⟩ = some v

theorem At.later {W W' : World} {b : Nat} {cs : Array Value} (h : At W b cs) (g : Later W W') : At W' b cs := fun i v e => gsome g (h i v e)

theorem At.new (W : World) (cs : Array Value) (t : TypeId) : At (W.alloc (.cells cs t)) W.heap.size cs := by
  intro i v e
  rw [World.cell?_alloc_new]
  exact e

theorem At.put {W : World} {b : Nat} {cs : Array Value} (h : At W b cs) (o : Obj) : At (W.alloc o) b cs := h.later ((Later.refl W).put o)

theorem off_put {W W' : World} {o : Obj} (h : Later (W.alloc o) W') : Later W W' := gtrans ((Later.refl W).put o) h

theorem size_one (W : World) (o : Obj) : (W.alloc o).heap.size = W.heap.size + 1 := by simp

set_option maxHeartbeats 1000000 in
theorem rule_any (k : Int) (w : World) : Calls Try.prog 20 #[.int .i64 k] w fun e w' => e = .returned (.tuple #[.agg (rc (ru k)), .bool (kn k)]) ∧ Later w w' := by
  by_cases h1 : k = 1
  · subst h1
    go_enter Try.func20, Try.ntmps20
    go_wp2
    exact bodyPost_ret (v := .tuple #[.agg (rc (ru 1)), .bool true]) (by simp [results, Try.results20, go_sem, rc, ru]) rfl ⟨rfl, (((Later.refl w).alloc _ _).alloc _ _).alloc _ _⟩
  by_cases h2 : k = 2
  · subst h2
    clear h1
    go_enter Try.func20, Try.ntmps20
    go_wp2
    exact bodyPost_ret (v := .tuple #[.agg (rc (ru 2)), .bool true]) (by simp [results, Try.results20, go_sem, rc, ru]) rfl ⟨rfl, (((Later.refl w).alloc _ _).alloc _ _).alloc _ _⟩
  by_cases h3 : k = 3
  · subst h3
    clear h1 h2
    go_enter Try.func20, Try.ntmps20
    go_wp2
    exact bodyPost_ret (v := .tuple #[.agg (rc (ru 3)), .bool true]) (by simp [results, Try.results20, go_sem, rc, ru]) rfl ⟨rfl, (((Later.refl w).alloc _ _).alloc _ _).alloc _ _⟩
  by_cases h4 : k = 4
  · subst h4
    clear h1 h2 h3
    go_enter Try.func20, Try.ntmps20
    go_wp2
    exact bodyPost_ret (v := .tuple #[.agg (rc (ru 4)), .bool true]) (by simp [results, Try.results20, go_sem, rc, ru]) rfl ⟨rfl, ((((Later.refl w).alloc _ _).alloc _ _).alloc _ _).alloc _ _⟩
  · have t1 : (k == 1) = false := by simpa using h1
    have t2 : (k == 2) = false := by simpa using h2
    have t3 : (k == 3) = false := by simpa using h3
    have t4 : (k == 4) = false := by simpa using h4
    have hr : ru k = rz := by unfold ru; rw [if_neg h1, if_neg h2, if_neg h3, if_neg h4]
    have hk : kn k = false := by
      cases e : kn k with
      | false => rfl
      | true => have := (bt_iff _ _ _).1 e; omega
    rw [hr, hk]
    clear hr hk h1 h2 h3 h4
    go_enter Try.func20, Try.ntmps20
    go_wp2
    exact bodyPost_ret (v := .tuple #[.agg (rc rz), .bool false]) (by simp [results, Try.results20, go_sem, rc, rz]) rfl ⟨rfl, (((Later.refl w).alloc _ _).alloc _ _).alloc _ _⟩

set_option maxHeartbeats 1000000 in
theorem allows_any (r : Ru) (x : Wn) (w : World) : Calls Try.prog 22 #[.agg (rc r), .agg (wc x).toArray] w fun e w' => e = .returned (.bool (al r x)) ∧ Later w w' := by
  have K := Lib.hid (fun a b y g W h => hold_one a b y g W h)
  have HA : Hid (∀ W', Later ((w.alloc (.cells (rc r) 50)).alloc (.cells (wc x).toArray 35)) W' → At W' w.heap.size (rc r) ∧ At W' (w.heap.size + 1) (wc x).toArray ∧ Later w W') := Lib.hid (fun W' g =>
    ⟨((At.new w (rc r) 50).put _).later g, by rw [← size_one w (.cells (rc r) 50)]; exact (At.new _ _ _).later g, off_put (off_put g)⟩)
  obtain ⟨b1, e1⟩ : ∃ b, bt x.a r.a0 r.a1 = b := ⟨_, rfl⟩
  obtain ⟨b2, e2⟩ : ∃ b, bt x.h r.h0 r.h1 = b := ⟨_, rfl⟩
  obtain ⟨b3, e3⟩ : ∃ b, bt x.u r.u0 r.u1 = b := ⟨_, rfl⟩
  obtain ⟨b4, e4⟩ : ∃ b, bt x.l r.l0 r.l1 = b := ⟨_, rfl⟩
  have hv : al r x = (b1 && (b2 && (b3 && b4))) := by unfold al; rw [e1, e2, e3, e4]
  rw [hv]
  have E1 := Lib.hid e1
  have E2 := Lib.hid e2
  have E3 := Lib.hid e3
  have E4 := Lib.hid e4
  clear hv e1 e2 e3 e4
  unfold rc wc at *
  go_enter Try.func22, Try.ntmps22
  go_wp2_with fail
  refine (K.out _ _ x.a _ _ (new_cell _ _ _ 0 _ _ (by simp) rfl)).mono ?_
  rintro e w1 ⟨rfl, hg1⟩
  rw [E1.out]
  obtain ⟨ha, hb, hg⟩ := HA.out w1 (off_put hg1)
  cases b1 with
  | false =>
    clear ha hb hg1
    go_wp2_with fail
    go_ret
    exact ⟨rfl, hg⟩
  | true =>
    have c1 := ha 2 _ rfl
    have c2 := ha 3 _ rfl
    have c3 := hb 4 _ rfl
    have HA1 := Lib.hid (off_put hg1)
    clear ha hb hg1 hg
    go_wp2_with fail
    refine (K.out _ _ x.h _ _ (new_cell _ _ _ 0 _ _ (by simp) rfl)).mono ?_
    rintro e w2 ⟨rfl, hg2⟩
    rw [E2.out]
    clear c1 c2 c3
    have hl := gtrans HA1.out (off_put hg2)
    obtain ⟨ha, hb, hg⟩ := HA.out w2 hl
    cases b2 with
    | false =>
      clear ha hb hg2 hl
      go_wp2_with fail
      go_ret
      exact ⟨rfl, hg⟩
    | true =>
      have c1 := ha 4 _ rfl
      have c2 := ha 5 _ rfl
      have c3 := hb 5 _ rfl
      have HA2 := Lib.hid hl
      clear ha hb hg2 hg hl
      go_wp2_with fail
      refine (K.out _ _ x.u _ _ (new_cell _ _ _ 0 _ _ (by simp) rfl)).mono ?_
      rintro e w3 ⟨rfl, hg3⟩
      rw [E3.out]
      clear c1 c2 c3
      have hl := gtrans HA2.out (off_put hg3)
      obtain ⟨ha, hb, hg⟩ := HA.out w3 hl
      cases b3 with
      | false =>
        clear ha hb hg3 hl
        go_wp2_with fail
        go_ret
        exact ⟨rfl, hg⟩
      | true =>
        have c1 := ha 6 _ rfl
        have c2 := ha 7 _ rfl
        have c3 := hb 6 _ rfl
        clear ha hb hg3
        go_wp2_with fail
        refine (K.out _ _ x.l _ _ (new_cell _ _ _ 0 _ _ (by simp) rfl)).mono ?_
        rintro e w4 ⟨rfl, hg4⟩
        rw [E4.out]
        go_wp2_with fail
        go_ret
        exact ⟨rfl, gtrans hg (off_put hg4)⟩

set_option maxHeartbeats 1000000 in
theorem window_any (x : Wn) (w : World) : Calls Try.prog 11 #[.agg (wc x).toArray] w fun e w' => e = .returned (.int .i64 (we x)) ∧ Later w w' := by
  have K := Lib.hid (fun a b y g W h => hold_one a b y g W h)
  have R := Lib.hid (fun W => rule_any x.k W)
  have A := Lib.hid (fun W => allows_any (ru x.k) x W)
  obtain ⟨b1, e1⟩ : ∃ b, kn x.k = b := ⟨_, rfl⟩
  obtain ⟨b2, e2⟩ : ∃ b, bt x.m 0 5 = b := ⟨_, rfl⟩
  obtain ⟨b3, e3⟩ : ∃ b, bt x.p 0 99 = b := ⟨_, rfl⟩
  obtain ⟨b4, e4⟩ : ∃ b, al (ru x.k) x = b := ⟨_, rfl⟩
  have hv : we x = if (b1 && (b2 && (b3 && b4))) = true then 0 else 104 := by unfold we wo; rw [e1, e2, e3, e4]
  rw [hv]
  rw [e1] at R
  rw [e4] at A
  generalize ru x.k = r at *
  have E2 := Lib.hid e2
  have E3 := Lib.hid e3
  clear hv e1 e2 e3 e4
  unfold rc wc at *
  go_enter Try.func11, Try.ntmps11
  go_wp2_with fail
  refine (R.out _).mono ?_
  rintro e w1 ⟨rfl, hg1⟩
  have hn1 := (((At.new w #[.int .i64 x.k, .int .i64 x.m, .int .i64 x.p, .int .i64 x.a, .int .i64 x.h, .int .i64 x.u, .int .i64 x.l] 35).put _).put _).later hg1
  have hn2 := ((At.new (w.alloc (.cells #[.int .i64 x.k, .int .i64 x.m, .int .i64 x.p, .int .i64 x.a, .int .i64 x.h, .int .i64 x.u, .int .i64 x.l] 35)) #[.int .i64 0, .int .i64 5] 48).put _).later hg1
  have hn3 := (At.new ((w.alloc (.cells #[.int .i64 x.k, .int .i64 x.m, .int .i64 x.p, .int .i64 x.a, .int .i64 x.h, .int .i64 x.u, .int .i64 x.l] 35)).alloc (.cells #[.int .i64 0, .int .i64 5] 48)) #[.int .i64 0, .int .i64 99] 48).later hg1
  simp only [World.size_alloc] at hn2 hn3
  have HG := Lib.hid (off_put (off_put (off_put hg1)))
  clear hg1
  have HN1 := Lib.hid hn1
  have HN2 := Lib.hid hn2
  have HN3 := Lib.hid hn3
  clear hn1 hn2 hn3
  cases b1 with
  | false =>
    go_wp2_with fail
    go_ret
    exact ⟨rfl, HG.out.put _⟩
  | true =>
    have hW := HN2.out.put (.cells #[.int .i64 r.a0, .int .i64 r.a1, .int .i64 r.h0, .int .i64 r.h1, .int .i64 r.u0, .int .i64 r.u1, .int .i64 r.l0, .int .i64 r.l1] 50)
    have c1 := hW 0 _ rfl
    have c2 := hW 1 _ rfl
    have c3 := HN1.out.put (.cells #[.int .i64 r.a0, .int .i64 r.a1, .int .i64 r.h0, .int .i64 r.h1, .int .i64 r.u0, .int .i64 r.u1, .int .i64 r.l0, .int .i64 r.l1] 50) 1 _ rfl
    clear hW
    go_wp2_with fail
    refine (K.out _ _ x.m _ _ (new_cell _ _ _ 0 _ _ (by simp) rfl)).mono ?_
    rintro e w2 ⟨rfl, hg2⟩
    rw [E2.out]
    clear c1 c2 c3
    have HR := Lib.hid ((At.new w1 #[.int .i64 r.a0, .int .i64 r.a1, .int .i64 r.h0, .int .i64 r.h1, .int .i64 r.u0, .int .i64 r.u1, .int .i64 r.l0, .int .i64 r.l1] 50).later (off_put hg2))
    have HG2 := Lib.hid (off_put (off_put hg2))
    clear hg2
    cases b2 with
    | false =>
      go_wp2_with fail
      go_ret
      exact ⟨rfl, gtrans HG.out HG2.out⟩
    | true =>
      have hW := HN3.out.later HG2.out
      have c1 := hW 0 _ rfl
      have c2 := hW 1 _ rfl
      have c3 := HN1.out.later HG2.out 2 _ rfl
      clear hW
      go_wp2_with fail
      refine (K.out _ _ x.p _ _ (new_cell _ _ _ 0 _ _ (by simp) rfl)).mono ?_
      rintro e w3 ⟨rfl, hg3⟩
      rw [E3.out]
      clear c1 c2 c3
      have HG3 := Lib.hid (off_put hg3)
      clear hg3
      cases b3 with
      | false =>
        go_wp2_with fail
        go_ret
        exact ⟨rfl, gtrans (gtrans HG.out HG2.out) HG3.out⟩
      | true =>
        have hR := HR.out.later HG3.out
        have hX := HN1.out.later (gtrans HG2.out HG3.out)
        have c0 := hR 0 _ rfl
        have c1 := hR 1 _ rfl
        have c2 := hR 2 _ rfl
        have c3 := hR 3 _ rfl
        have c4 := hR 4 _ rfl
        have c5 := hR 5 _ rfl
        have c6 := hR 6 _ rfl
        have c7 := hR 7 _ rfl
        have d0 := hX 0 _ rfl
        have d1 := hX 1 _ rfl
        have d2 := hX 2 _ rfl
        have d3 := hX 3 _ rfl
        have d4 := hX 4 _ rfl
        have d5 := hX 5 _ rfl
        have d6 := hX 6 _ rfl
        clear hR hX
        go_wp2_with fail
        refine (A.out _).mono ?_
        rintro e w4 ⟨rfl, hg4⟩
        clear c0 c1 c2 c3 c4 c5 c6 c7 d0 d1 d2 d3 d4 d5 d6
        have HG4 := Lib.hid (gtrans (gtrans (gtrans HG.out HG2.out) HG3.out) hg4)
        clear hg4
        cases b4 with
        | false =>
          go_wp2_with fail
          go_ret
          exact ⟨rfl, HG4.out⟩
        | true =>
          go_wp2_with fail
          go_ret
          exact ⟨rfl, HG4.out⟩

end Go.Proofs.Ythbgllbbliijlaa.Conf
