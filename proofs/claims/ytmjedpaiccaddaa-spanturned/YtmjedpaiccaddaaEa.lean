/-
  A region that draws its order, operation by operation: what each one yields, in every world that has grown and whatever else has come up, is told by a relation of its own that lasts; then each order is served by one look at each operation. No condition but those that each theorem states.
-/
import Derived.Test.YtmjedpaiccaddaaGrow
import Derived.RegionTactic
import Derived.StillTail
namespace Go.Proofs.Ytmjedpaiccaddaa.Each
open Go.ChangeShapes Go.WideShapes Go.ChangeAt Go.RowKit
open Go.Proofs.Ytmjedpaiccaddaa.Divs Go.Proofs.Ytmjedpaiccaddaa.Grow

theorem wpAny_inv {P : Program} {md : Region.Mode} {ops : Array Oper} {Q : Exit → Act → World → Prop} (I : Nat → Array Bool → Act → World → Prop)
    (h0 : ∀ fuel listed a w, I fuel listed a w → Region.ready md ops listed = [] → Q .normal a w) (hz : ∀ listed a w, I 0 listed a w → Region.ready md ops listed = [])
    (hs : ∀ fuel listed a w i, I (fuel + 1) listed a w → i ∈ Region.ready md ops listed → wpOp P ops Q i (fun a' w' => I fuel (listed.setIfInBounds i true) a' w') a w) :
    ∀ fuel listed a w, I fuel listed a w → wpAny P md ops Q fuel listed a w := by
  intro fuel
  induction fuel with
  | zero => exact fun listed a w h => ⟨hz listed a w h, h0 _ _ _ _ h (hz listed a w h)⟩
  | succ fuel ih => exact fun listed a w h => ⟨fun e => h0 _ _ _ _ h e, fun i hi => wpOp_mono (fun a' w' h' => ih _ _ _ h') (hs _ _ _ _ i h hi)⟩

/-- What has come up: its slots hold what V says, the others are as they were. -/
structure Up (ops : Array Oper) (V : Nat → Value → World → Prop) (a0 : Act) (w0 : World) (listed : Array Bool) (a : Act) (w : World) : Prop where
  late : Later w0 w
  defers : a.defers = a0.defers
  size : a.tmps.size = a0.tmps.size
  old : ∀ s, (∀ i o, ops[i]? = some o → o.dst = some s → listed.getD i false = false) → a.tmps[s]? = a0.tmps[s]?
  come : ∀ i o s, ops[i]? = some o → listed.getD i false = true → o.dst = some s → ∃ v, a.tmps[s]? = some v ∧ V i v w

/-- No two operations write one slot, each slot is there, and each operation waits for earlier ones alone. -/
def fitB (ops : Array Oper) (n : Nat) : Bool :=
  (List.range ops.size).all fun i => match ops[i]? with
    | none => true
    | some o => o.after.all (fun e => !Region.binds .any e || decide (e.on < i)) && (match o.dst with
      | none => true
      | some s => decide (s < n) && (List.range ops.size).all fun j => decide (j = i) || (match ops[j]? with
        | none => true
        | some q => !(q.dst == some s)))

theorem fit_low {ops : Array Oper} {n : Nat} (h : fitB ops n = true) {i : Nat} {o : Oper} (ho : ops[i]? = some o) {e : Edge} (he : e ∈ o.after) (hb : Region.binds .any e = true) : e.on < i := by
  have hi : i < ops.size := (Array.getElem?_eq_some_iff.1 ho).1
  have := List.all_eq_true.1 h i (List.mem_range.2 hi)
  rw [ho] at this
  simp only [Bool.and_eq_true] at this
  have := Array.all_eq_true_iff_forall_mem.1 this.1 e he
  simpa [hb] using this

theorem fit_dst {ops : Array Oper} {n : Nat} (h : fitB ops n = true) {i j : Nat} {o q : Oper} {s : Tmp} (ho : ops[i]? = some o) (hq : ops[j]? = some q) (hs : o.dst = some s) (ht : q.dst = some s) : j = i := by
  have hi : i < ops.size := (Array.getElem?_eq_some_iff.1 ho).1
  have hj : j < ops.size := (Array.getElem?_eq_some_iff.1 hq).1
  have := List.all_eq_true.1 h i (List.mem_range.2 hi)
  rw [ho] at this
  simp only [Bool.and_eq_true, hs] at this
  have := List.all_eq_true.1 this.2.2 j (List.mem_range.2 hj)
  rw [hq] at this
  simpa [ht] using this

theorem fit_in {ops : Array Oper} {n : Nat} (h : fitB ops n = true) {i : Nat} {o : Oper} {s : Tmp} (ho : ops[i]? = some o) (hs : o.dst = some s) : s < n := by
  have hi : i < ops.size := (Array.getElem?_eq_some_iff.1 ho).1
  have := List.all_eq_true.1 h i (List.mem_range.2 hi)
  rw [ho] at this
  simp only [Bool.and_eq_true, hs] at this
  simpa using this.2.1

theorem getD_set {listed : Array Bool} {i : Nat} (hi : i < listed.size) (j : Nat) : (listed.setIfInBounds i true).getD j false = (decide (j = i) || listed.getD j false) := by
  by_cases e : j = i
  · subst e
    simp [hi]
  · simp [Array.getElem?_setIfInBounds_ne (Ne.symm e), e]

/-- How many have not come up. -/
def leftN (listed : Array Bool) : Nat := listed.toList.countP (fun b => !b)

theorem count_set : ∀ (l : List Bool) (i : Nat), l[i]? = some false → (l.set i true).countP (fun b => !b) + 1 = l.countP (fun b => !b)
  | [], i, h => by simp at h
  | b :: r, 0, h => by
    simp at h
    subst h
    simp
  | b :: r, i + 1, h => by
    have := count_set r i (by simpa using h)
    simp only [List.set_cons_succ, List.countP_cons]
    omega

theorem left_set {listed : Array Bool} {i : Nat} (h : listed.getD i true = false) : leftN (listed.setIfInBounds i true) + 1 = leftN listed := by
  have hi : i < listed.size := by
    rcases Nat.lt_or_ge i listed.size with h' | h'
    · exact h'
    · simp [Array.getElem?_eq_none h'] at h
  unfold leftN
  rw [Array.toList_setIfInBounds]
  refine count_set _ _ ?_
  simp [hi] at h
  simp [hi, h]

theorem left_none {listed : Array Bool} (h : leftN listed = 0) (i : Nat) : listed.getD i true = true := by
  rcases Nat.lt_or_ge i listed.size with hi | hi
  · have := List.countP_eq_zero.1 h (listed[i]) (by simp)
    simpa [hi] using this
  · simp [Array.getElem?_eq_none hi]

/-- Where nothing is ready, all has come up. -/
theorem all_up {ops : Array Oper} {n : Nat} (hf : fitB ops n = true) {listed : Array Bool} (hz : listed.size = ops.size) (h : Region.ready .any ops listed = []) : ∀ i, i < ops.size → listed.getD i false = true := by
  intro i
  induction i using Nat.strongRecOn with
  | _ i ih =>
    intro hi
    cases hb : listed.getD i false with
    | true => rfl
    | false =>
      exfalso
      have hm : i ∈ Region.ready .any ops listed := by
        rw [mem_ready]
        refine ⟨?_, ops[i], by simp [hi], fun e he hbb => ?_⟩
        · have hj : i < listed.size := by omega
          simp [hj] at hb ⊢
          exact hb
        · have := fit_low hf (i := i) (o := ops[i]) (by simp [hi]) he hbb
          exact ih e.on this (by omega)
      rw [h] at hm
      cases hm

/-- The look at one operation. -/
def Step (P : Program) (ops : Array Oper) (Q : Exit → Act → World → Prop) (V : Nat → Value → World → Prop) (a0 : Act) (w0 : World) (i : Nat) : Prop :=
  ∀ o, ops[i]? = some o → ∀ (a : Act) (w : World), Later w0 w → (∀ s, (∀ (j : Nat) (q : Oper), ops[j]? = some q → q.dst ≠ some s) → a.tmps[s]? = a0.tmps[s]?) →
    (∀ j ∈ (o.after.toList.filter (Region.binds .any)).map (·.on), ∀ (q : Oper) (s : Tmp), ops[j]? = some q → q.dst = some s → ∃ v, a.tmps[s]? = some v ∧ V j v w) →
    if Region.wanted o (yielded ops a.tmps) = true then Oper.wp P o a w (fun a' w' => ∃ v, a' = a.put o.dst v ∧ V i v w' ∧ Later w w') Q else V i undef w

theorem region_each {P : Program} {id : Nat} {Q : Exit → Act → World → Prop} {a0 : Act} {w : World} {ops : Array Oper} (V : Nat → Value → World → Prop) (hm : P.follows .mixedOrders = true) (hf : fitB ops a0.tmps.size = true)
    (hV : ∀ i v W W', V i v W → Later W W' → V i v W')
    (hs : ∀ i, i < ops.size → Step P ops Q V a0 w i)
    (hq : ∀ a w', Later w w' → a.defers = a0.defers → a.tmps.size = a0.tmps.size → (∀ s, (∀ (j : Nat) (q : Oper), ops[j]? = some q → q.dst ≠ some s) → a.tmps[s]? = a0.tmps[s]?) → (∀ (i : Nat) (o : Oper) (s : Tmp), ops[i]? = some o → o.dst = some s → ∃ v, a.tmps[s]? = some v ∧ V i v w') → Q .normal a w') :
    (Code.region id ops true).wp P Q a0 w := by
  refine wp_region_any hm ?_
  refine wpAny_inv (fun fuel listed a w' => Up ops V a0 w listed a w' ∧ listed.size = ops.size ∧ leftN listed ≤ fuel) ?_ ?_ ?_ _ _ _ _ ?_
  · rintro fuel listed a w' ⟨u, hz, _⟩ hr
    have hall := all_up hf hz hr
    refine hq a w' u.late u.defers u.size (fun s hn => u.old s (fun i o ho hd => absurd hd (hn i o ho))) (fun i o s ho hd => u.come i o s ho (hall i (Array.getElem?_eq_some_iff.1 ho).1) hd)
  · rintro listed a w' ⟨u, hz, hl⟩
    refine List.eq_nil_iff_forall_not_mem.2 fun i hi => ?_
    have := (mem_ready.1 hi).1
    rw [left_none (by omega) i] at this
    cases this
  · rintro fuel listed a w' i ⟨u, hz, hl⟩ hi
    obtain ⟨hi0, o, ho, hdep⟩ := mem_ready.1 hi
    have hlt : i < listed.size := by
      rw [hz]
      exact (Array.getElem?_eq_some_iff.1 ho).1
    have hlf := left_set hi0
    have hi1 : listed.getD i false = false := by
      simp [hlt] at hi0 ⊢
      exact hi0
    have hst := (show Step P ops Q V a0 w i from hs i (by omega)) o ho a w' u.late (fun s hn => u.old s (fun j q hq hd => absurd hd (hn j q hq))) (by
      intro j hj q s hq hd
      obtain ⟨e, he, rfl⟩ := List.mem_map.1 hj
      obtain ⟨he1, he2⟩ := List.mem_filter.1 he
      exact u.come e.on q s hq (hdep e (Array.mem_toList_iff.1 he1) he2) hd)
    have key : ∀ v w'', V i v w'' → Later w' w'' → Up ops V a0 w (listed.setIfInBounds i true) (a.put o.dst v) w'' := by
      intro v w'' hv hg
      refine ⟨gtrans u.late hg, ?_, ?_, ?_, ?_⟩
      · cases o.dst <;> exact u.defers
      · cases hd : o.dst with
        | none => exact u.size
        | some d => simp [Act.put, u.size]
      · intro s hn
        have h1 : a.tmps[s]? = a0.tmps[s]? := u.old s (fun j q hq hd => by
          have := hn j q hq hd
          rw [getD_set hlt] at this
          simp at this
          simpa using this.2)
        cases hd : o.dst with
        | none => exact h1
        | some d =>
          have hne : d ≠ s := by
            rintro rfl
            have := hn i o ho hd
            rw [getD_set hlt] at this
            simp at this
          simp only [Act.put]
          rw [Array.getElem?_setIfInBounds_ne hne]
          exact h1
      · intro j q s hq hl' hd
        by_cases hji : j = i
        · subst hji
          obtain rfl : q = o := Option.some.inj (hq.symm.trans ho)
          refine ⟨v, ?_, hv⟩
          rw [hd]
          have := fit_in hf ho hd
          rw [← u.size] at this
          simp [Act.put, this]
        · rw [getD_set hlt] at hl'
          simp [hji] at hl'
          obtain ⟨x, hx, hx'⟩ := u.come j q s hq (by simpa using hl') hd
          refine ⟨x, ?_, hV _ _ _ _ hx' hg⟩
          cases hd' : o.dst with
          | none => exact hx
          | some d =>
            have hne : d ≠ s := by
              rintro rfl
              exact hji (fit_dst hf ho hq hd' hd)
            simp only [Act.put]
            rw [Array.getElem?_setIfInBounds_ne hne]
            exact hx
    unfold wpOp
    rw [ho]
    show if Region.wanted o (yielded ops a.tmps) = true then _ else _
    split
    · rename_i hw
      rw [if_pos hw] at hst
      refine .inl (Oper.wp_mono ?_ hst)
      rintro a' w'' ⟨v, rfl, hv, hg⟩
      exact ⟨key v w'' hv hg, by simp [hz], by omega⟩
    · rename_i hw
      rw [if_neg hw] at hst
      exact ⟨key undef w' hst (Later.refl _), by simp [hz], by omega⟩
  · refine ⟨⟨Later.refl w, rfl, rfl, fun _ _ => rfl, fun i o s ho hl _ => ?_⟩, by simp, ?_⟩
    · rw [getD_replicate_false] at hl
      cases hl
    · unfold leftN
      have := List.countP_le_length (p := fun b => !b) (l := (Array.replicate ops.size false).toList)
      simpa using this

theorem ev {a : Act} {k : Tmp} {v : Value} (h : a.tmps[k]? = some v) : a.eval (.tmp k) = v := by
  simp [Act.eval, h]

/-- No operation writes this slot. -/
def freeB (ops : Array Oper) (s : Tmp) : Bool := ops.toList.all fun q => !(q.dst == some s)

theorem free_of {ops : Array Oper} {s : Tmp} (h : freeB ops s = true) : ∀ (j : Nat) (q : Oper), ops[j]? = some q → q.dst ≠ some s := by
  intro j q hq hd
  have := List.all_eq_true.1 h q (by
    rw [Array.mem_toList_iff]
    exact Array.mem_of_getElem? hq)
  simp [hd] at this

theorem want_of {ops : Array Oper} {o : Oper} {a : Act} {j : Nat} {q : Oper} {s : Tmp} {b c : Bool} (hg : o.guard = some (j, c)) (hq : ops[j]? = some q) (hd : q.dst = some s) (h : a.tmps[s]? = some (.bool b)) : Region.wanted o (yielded ops a.tmps) = (b == c) := by
  unfold Region.wanted yielded
  rw [hg]
  simp [hq, hd, h]

theorem ite_yes {c : Prop} [Decidable c] {A B : Prop} (h : c) (ha : A) : if c then A else B := by rw [if_pos h]; exact ha

theorem ite_by {x : Bool} {A B : Prop} {b : Bool} (h : x = b) (h1 : b = true → A) (h2 : b = false → B) : if x = true then A else B := by
  subst h
  split
  · exact h1 (by assumption)
  · exact h2 (by simpa using ‹¬ x = true›)

theorem act_eta (a : Act) (n : Nat) (d : List Deferred) (hz : a.tmps.size = n) (hd : a.defers = d) : a = ⟨((List.range n).map fun s => a.tmps.getD s undef).toArray, d⟩ := by
  obtain ⟨t, e⟩ := a
  subst hd
  simp only [Act.mk.injEq, and_true]
  apply Array.ext
  · simp at hz ⊢
    exact hz
  · intro i h1 h2
    simp [h1]

theorem getD_of {a : Act} {s : Tmp} {v : Value} (h : a.tmps[s]? = some v) : a.tmps.getD s undef = v := by simp [h]

end Go.Proofs.Ytmjedpaiccaddaa.Each
