/-
  Configurations that are stored whole, and the example. Conditions: as each theorem states.
-/
import Derived.Test.YthbgllbbliijlaaDi
import Derived.Test.YthbgllbbliijlaaDl
namespace Go.Proofs.Ythbgllbbliijlaa.Conf
open Go.ChangeShapes Go.WideShapes Go.ChangeAt Go.RowKit
open Go.Proofs.Ythbgllbbliijlaa.Divs Go.Proofs.Ythbgllbbliijlaa.Grow Go.Proofs.Ythbgllbbliijlaa.Zone
open Go.Proofs.Ythbgllbbliijlaa.By (Sk SL bool_no bool_yes)
open Go.Proofs.Ythbgllbbliijlaa.Each
open Go.Proofs.Ythbgllbbliijlaa.Zo Go.Proofs.Ythbgllbbliijlaa.Su Go.Proofs.Ythbgllbbliijlaa.Cf

/-- Cells that are set, from one on. -/
def sets (cs : Array Value) (o : Nat) : List Value → Array Value
  | [] => cs
  | v :: r => sets (cs.setIfInBounds o v) (o + 1) r

theorem Row.sets {B : Nat} {t : TypeId} (vs : List Value) : ∀ (W : World) (cs : Array Value) (o : Nat), Row B t cs W → Row B t (Conf.sets cs o vs) (W.setCells B o vs) := by
  induction vs with
  | nil => intro W cs o h; exact h
  | cons y r ih => intro W cs o h; exact ih _ _ _ (h.set o y)

theorem sets_get (vs : List Value) : ∀ (cs : Array Value) (o i : Nat), o + vs.length ≤ cs.size → (sets cs o vs)[i]? = if o ≤ i ∧ i < o + vs.length then vs[i - o]? else cs[i]? := by
  induction vs with
  | nil =>
    intro cs o i h
    rw [if_neg (by simp)]
    rfl
  | cons y r ih =>
    intro cs o i h
    simp only [List.length_cons] at h
    show (sets (cs.setIfInBounds o y) (o + 1) r)[i]? = _
    rw [ih _ _ _ (by simp; omega)]
    by_cases e : i = o
    · subst e
      rw [if_neg (by omega), if_pos (by simp), Nat.sub_self]
      simp [show i < cs.size by omega]
    · rw [Array.getElem?_setIfInBounds_ne (Ne.symm e)]
      by_cases g : o + 1 ≤ i ∧ i < o + 1 + r.length
      · rw [if_pos g, if_pos (by simp; omega)]
        obtain ⟨k, rfl⟩ : ∃ k, i = o + 1 + k := ⟨i - (o + 1), by omega⟩
        have e1 : o + 1 + k - (o + 1) = k := by omega
        have e2 : o + 1 + k - o = k + 1 := by omega
        rw [e1, e2, List.getElem?_cons_succ]
      · rw [if_neg g, if_neg (by simp; omega)]

theorem sets_all (cs D : Array Value) (h : cs.size = D.size) : sets cs 0 D.toList = D := by
  apply Array.ext_getElem?
  intro i
  rw [sets_get _ _ _ _ (by simp; omega)]
  by_cases g : 0 ≤ i ∧ i < 0 + D.toList.length
  · rw [if_pos g]
    simp
  · rw [if_neg g]
    simp only [Array.length_toList] at g
    rw [Array.getElem?_eq_none (by omega), Array.getElem?_eq_none (by omega)]

theorem heap_sets_other {A g : Nat} (h : g ≠ A) (vs : List Value) : ∀ (W : World) (o : Nat), (W.setCells A o vs).heap[g]? = W.heap[g]? := by
  induction vs with
  | nil => intro W o; rfl
  | cons y r ih => intro W o; exact (ih _ _).trans (heap_set_other _ _ _ _ _ h)

/-- A configuration is stored whole. -/
theorem store_row {ops : Array Oper} {rest : List Oper} {o : Oper} {a : Act} {W : World} {Q : Exit → Act → World → Prop} (hgd : o.guard = none) (x y : Operand) (ho : o.op = .store 33 x y) (g : Nat) (hx : a.eval x = .pointer (some ⟨g, 0, none⟩)) (D : Array Value) (hD : D.size = 37) (hone : D.all (·.oneCell') = true) (hy : a.eval y = .agg D)
    (cs : Array Value) {t : TypeId} (hcs : cs.size = 37) (hR : Row g t cs W) (w0 : World) (hL : Later w0 W) (hB : w0.heap.size ≤ g) (hK : ∀ W', Row g t D W' → Later w0 W' → (∀ b, b ≠ g → W'.heap[b]? = W.heap[b]?) → wpList Try.prog ops Q rest (a.put o.dst undef) W') : wpList Try.prog ops Q (o :: rest) a W := by
  refine wpList_store_mid hgd 33 x y ho g 0 D hx hy ?_ (by rw [hD]; kernel_rfl) hone ?_
  · have := hR.there
    rw [hcs] at this
    rw [hD]
    exact this
  · refine hK _ ?_ (later_sets hB _ _ _ hL) (fun b hb => heap_sets_other hb _ _ _)
    have := Row.sets D.toList W cs 0 hR
    rwa [sets_all cs D (by omega)] at this

theorem row_new' (W : World) (cs : Array Value) (t : TypeId) (g : Nat) (hg : g = W.heap.size) : Row g t cs (W.alloc (.cells cs t)) := by
  subst hg
  exact Row.new W cs t

theorem cc_size (c : Cg) (u v : Value) : (cc c u v).size = 37 := rfl

theorem cc_one (c : Cg) (d d' : Option Addr) (n q n' q' : Nat) : (cc c (.slice d n q) (.slice d' n' q')).all (·.oneCell') = true := by
  unfold cc
  simp [Value.oneCell']

set_option maxHeartbeats 1000000 in
theorem plain_any (w : World) : Calls Try.prog 19 #[] w fun e w' => ∃ u v, e = .returned (.agg (cc pc u v)) ∧ Sk .i64 w' u pc.st ∧ Wk w' v pc.ws ∧ Later w w' := by
  obtain ⟨D, hD⟩ : ∃ D, D = cc pc (.slice (some ⟨w.heap.size + 1, 0, none⟩) 3 3) (.slice (some ⟨w.heap.size + 1 + 1, 0, none⟩) 1 1) := ⟨_, rfl⟩
  have HD := Lib.hid hD
  have D37 : Hid (D.size = 37) := Lib.hid (by rw [hD]; rfl)
  have D1 : Hid (D.all (·.oneCell') = true) := Lib.hid (by rw [hD]; exact cc_one _ _ _ _ _ _ _)
  clear hD
  go_enter Try.func19, Try.ntmps19
  go_wp2_with (refine store_row rfl (.tmp 0) (.tmp 6) rfl w.heap.size rfl D D37.out D1.out (by rw [HD.out]; rfl) _ rfl (((Row.new w _ _).later ((Later.refl _).alloc _ _)).later ((Later.refl _).alloc _ _)) w ((((Later.refl w).alloc _ _).alloc _ _).alloc _ _) (Nat.le_refl _) ?_; intro W' hR hL ho)
  refine bodyPost_ret (v := .agg D) (results_at (fn := Try.f19) Try.results19 _ _ w.heap.size D D37.out rfl hR.at) rfl ?_
  refine ⟨_, _, by rw [HD.out], ?_, ?_, hL⟩
  · have h1 : Row (w.heap.size + 1) 3 #[.int .i64 0, .int .i64 1, .int .i64 3] W' := by
      unfold Row
      rw [ho _ (by omega)]
      exact (row_new' _ _ _ _ (by simp)).later ((Later.refl _).alloc _ _)
    refine Sk.row (xs := pc.st) (cap := 3) h1 ?_ (by decide) (by decide)
    intro i x hx
    match i with
    | 0 => simp [pc] at hx; subst hx; rfl
    | 1 => simp [pc] at hx; subst hx; rfl
    | 2 => simp [pc] at hx; subst hx; rfl
    | i + 3 => simp [pc] at hx
  · have h2 : Row (w.heap.size + 1 + 1) 35 (wc pw).toArray W' := by
      unfold Row
      rw [ho _ (by omega)]
      exact row_new' _ _ _ _ (by simp)
    refine ⟨_, 1, rfl, by decide, by decide, by simp, fun i x hx => ⟨_, 0, rfl, ?_⟩⟩
    rw [Nat.zero_add]
    refine h2.cell i ?_
    have e : fl pc.ws = wc pw := rfl
    rw [e] at hx
    simpa using hx

end Go.Proofs.Ythbgllbbliijlaa.Conf
