/-
  A region that draws its order, in which one operation makes a block and another one stores into it, whenever each of them comes up: what all others yield is told operation by operation, as in Ea. No condition but those that each theorem states.
-/
import Derived.Test.YtdljmpaabpkmkaaDoorEb
import Derived.Test.YtdljmpaabpkmkaaDoorFy
namespace Go.Proofs.YtdljmpaabpkmkaaDoor.Each
open Go.ChangeShapes Go.WideShapes Go.ChangeAt Go.RowKit
open Go.Proofs.YtdljmpaabpkmkaaDoor.Divs Go.Proofs.YtdljmpaabpkmkaaDoor.Grow
open Go.Proofs.YtdljmpaabpkmkaaDoor.Fls (RA Nb Out)

/-- No two operations write one slot, each slot is there, and each operation waits for earlier ones alone. -/
def fitC (ops : Array Oper) (n : Nat) : Bool :=
  (List.range ops.size).all fun i => match ops[i]? with
    | none => true
    | some o => o.after.all (fun e => !(Region.binds .any e) || decide (e.on < i)) && (match o.dst with
      | none => true
      | some s => decide (s < n) && (List.range ops.size).all fun j => decide (j = i) || (match ops[j]? with
        | none => true
        | some q => !(q.dst == some s)))

theorem fitC_low {ops : Array Oper} {n : Nat} (h : fitC ops n = true) {i : Nat} {o : Oper} (ho : ops[i]? = some o) {e : Edge} (he : e ∈ o.after) (hb : Region.binds .any e = true) : e.on < i := by
  have hi : i < ops.size := (Array.getElem?_eq_some_iff.1 ho).1
  have := List.all_eq_true.1 h i (List.mem_range.2 hi)
  rw [ho] at this
  simp only [Bool.and_eq_true] at this
  have := Array.all_eq_true_iff_forall_mem.1 this.1 e he
  simpa [hb] using this

theorem fitC_dst {ops : Array Oper} {n : Nat} (h : fitC ops n = true) {i j : Nat} {o q : Oper} {s : Tmp} (ho : ops[i]? = some o) (hq : ops[j]? = some q) (hs : o.dst = some s) (ht : q.dst = some s) : j = i := by
  have hi : i < ops.size := (Array.getElem?_eq_some_iff.1 ho).1
  have hj : j < ops.size := (Array.getElem?_eq_some_iff.1 hq).1
  have := List.all_eq_true.1 h i (List.mem_range.2 hi)
  rw [ho] at this
  simp only [Bool.and_eq_true, hs] at this
  have := List.all_eq_true.1 this.2.2 j (List.mem_range.2 hj)
  rw [hq] at this
  simpa [ht] using this

theorem fitC_in {ops : Array Oper} {n : Nat} (h : fitC ops n = true) {i : Nat} {o : Oper} {s : Tmp} (ho : ops[i]? = some o) (hs : o.dst = some s) : s < n := by
  have hi : i < ops.size := (Array.getElem?_eq_some_iff.1 ho).1
  have := List.all_eq_true.1 h i (List.mem_range.2 hi)
  rw [ho] at this
  simp only [Bool.and_eq_true, hs] at this
  simpa using this.2.1

/-- Where nothing is ready, all has come up. -/
theorem all_upC {ops : Array Oper} {n : Nat} (hf : fitC ops n = true) {listed : Array Bool} (hz : listed.size = ops.size) (h : Region.ready .any ops listed = []) : ∀ i, i < ops.size → listed.getD i false = true := by
  intro i
  induction i using Nat.strongRecOn with
  | _ i ih =>
    intro hi
    cases hb : listed.getD i false with
    | true => rfl
    | false =>
      exfalso
      have hm : i ∈ Region.ready .any ops listed := by
        rw [mem_ready]
        refine ⟨?_, ops[i], by simp [hi], fun e he hbd => ?_⟩
        · have hj : i < listed.size := by omega
          simp [hj] at hb ⊢
          exact hb
        · have := fitC_low hf (i := i) (o := ops[i]) (by simp [hi]) he hbd
          exact ih e.on this (by omega)
      rw [h] at hm
      cases hm

/-- The look at one operation that neither makes the block nor stores into it. -/
def StepB (P : Program) (ops : Array Oper) (Q : Exit → Act → World → Prop) (V : Nat → Value → World → Prop) (a0 : Act) (w0 : World) (m s i : Nat) : Prop :=
  ∀ o, ops[i]? = some o → ∀ (a : Act) (w : World), Later w0 w → (∀ d, (∀ (j : Nat) (q : Oper), ops[j]? = some q → q.dst ≠ some d) → a.tmps[d]? = a0.tmps[d]?) →
    (∀ j ∈ (o.after.toList.filter (Region.binds .any)).map (·.on), j ≠ m → j ≠ s → ∀ (q : Oper) (d : Tmp), ops[j]? = some q → q.dst = some d → ∃ v, a.tmps[d]? = some v ∧ V j v w) →
    if Region.wanted o (yielded ops a.tmps) = true then Oper.wp P o a w (fun a' w' => ∃ v, a' = a.put o.dst v ∧ V i v w' ∧ Later w w') Q else V i undef w

/-- The block: made, and what it holds. -/
def Box (Z : Array Value) (t : TypeId) (B : Array Value → World → Prop) (d : Tmp) (w0 : World) (stored : Bool) (a : Act) (w : World) : Prop :=
  ∃ g cs, a.tmps[d]? = some (.pointer (some ⟨g, 0, none⟩)) ∧ w0.heap.size ≤ g ∧ RA w g cs t ∧ Nb cs ∧ (stored = false → cs = Z) ∧ (stored = true → B cs w)

structure UpB (ops : Array Oper) (V : Nat → Value → World → Prop) (Z : Array Value) (t : TypeId) (B : Array Value → World → Prop) (m s : Nat) (d : Tmp) (a0 : Act) (w0 : World) (listed : Array Bool) (a : Act) (w : World) : Prop where
  late : Later w0 w
  defers : a.defers = a0.defers
  size : a.tmps.size = a0.tmps.size
  old : ∀ c, (∀ i o, ops[i]? = some o → o.dst = some c → listed.getD i false = false) → a.tmps[c]? = a0.tmps[c]?
  come : ∀ i o c, i ≠ m → i ≠ s → ops[i]? = some o → listed.getD i false = true → o.dst = some c → ∃ v, a.tmps[c]? = some v ∧ V i v w
  box : listed.getD m false = true → Box Z t B d w0 (listed.getD s false) a w
  made : listed.getD s false = true → listed.getD m false = true

theorem put_other {ops : Array Oper} {n : Nat} (hf : fitC ops n = true) {i j : Nat} {o q : Oper} {c : Tmp} (ho : ops[i]? = some o) (hq : ops[j]? = some q) (hc : q.dst = some c) (hji : j ≠ i) (a : Act) (v : Value) : (a.put o.dst v).tmps[c]? = a.tmps[c]? := by
  cases hd : o.dst with
  | none => rfl
  | some d =>
    have hne : d ≠ c := by
      rintro rfl
      exact hji (fitC_dst hf ho hq hd hc)
    simp only [Act.put]
    rw [Array.getElem?_setIfInBounds_ne hne]

theorem put_self {ops : Array Oper} {i : Nat} {o : Oper} {c : Tmp} {a a0 : Act} (hf : fitC ops a0.tmps.size = true) (ho : ops[i]? = some o) (hc : o.dst = some c) (hz : a.tmps.size = a0.tmps.size) (v : Value) : (a.put o.dst v).tmps[c]? = some v := by
  rw [hc]
  have := fitC_in hf ho hc
  rw [← hz] at this
  simp [Act.put, this]

theorem put_old {ops : Array Oper} {i : Nat} {o : Oper} {a a0 : Act} {listed : Array Bool} (ho : ops[i]? = some o) (hlt : i < listed.size) (h : ∀ c, (∀ i o, ops[i]? = some o → o.dst = some c → listed.getD i false = false) → a.tmps[c]? = a0.tmps[c]?) (v : Value) :
    ∀ c, (∀ j q, ops[j]? = some q → q.dst = some c → (listed.setIfInBounds i true).getD j false = false) → (a.put o.dst v).tmps[c]? = a0.tmps[c]? := by
  intro c hn
  have h1 : a.tmps[c]? = a0.tmps[c]? := h c (fun j q hq hd => by
    have := hn j q hq hd
    rw [getD_set hlt] at this
    simp at this
    simpa using this.2)
  cases hd : o.dst with
  | none => exact h1
  | some d =>
    have hne : d ≠ c := by
      rintro rfl
      have := hn i o ho hd
      rw [getD_set hlt] at this
      simp at this
    simp only [Act.put]
    rw [Array.getElem?_setIfInBounds_ne hne]
    exact h1

theorem put_frame {a a0 : Act} (o : Option Tmp) (v : Value) (h1 : a.defers = a0.defers) (h2 : a.tmps.size = a0.tmps.size) : (a.put o v).defers = a0.defers ∧ (a.put o v).tmps.size = a0.tmps.size := by
  cases o with
  | none => exact ⟨h1, h2⟩
  | some d => exact ⟨h1, by simp [Act.put, h2]⟩

theorem region_box {P : Program} {id : Nat} {Q : Exit → Act → World → Prop} {a0 : Act} {w0 : World} {ops : Array Oper} (m s : Nat) (d : Tmp) (Z : Array Value) (t : TypeId) (B : Array Value → World → Prop) (V : Nat → Value → World → Prop)
    (hm : P.follows .mixedOrders = true) (hf : fitC ops a0.tmps.size = true) (hms : m ≠ s) (hwait : Region.waitsFor .any ops s m = true)
    (hV : ∀ i v W W', V i v W → Later W W' → V i v W') (hVo : ∀ i v W W' g cs, V i v W → RA W g cs t → Nb cs → Out g W W' → V i v W') (hB : ∀ cs W W', B cs W → Later W W' → B cs W') (hZ : Nb Z)
    (hs : ∀ i, i < ops.size → i ≠ m → i ≠ s → StepB P ops Q V a0 w0 m s i)
    (hmake : ∀ o, ops[m]? = some o → o.dst = some d ∧ o.guard = none ∧ ∀ (a : Act) (w : World), Later w0 w → Oper.wp P o a w (fun a' w' => ∃ g, a' = a.put o.dst (.pointer (some ⟨g, 0, none⟩)) ∧ w0.heap.size ≤ g ∧ RA w' g Z t ∧ Later w w') Q)
    (hstore : ∀ o, ops[s]? = some o → o.dst = none ∧ o.guard = none ∧ ∀ (a : Act) (w : World) (g : Nat), Later w0 w → a.tmps[d]? = some (.pointer (some ⟨g, 0, none⟩)) → w0.heap.size ≤ g → RA w g Z t →
      (∀ j ∈ (o.after.toList.filter (Region.binds .any)).map (·.on), j ≠ m → j ≠ s → ∀ (q : Oper) (c : Tmp), ops[j]? = some q → q.dst = some c → ∃ v, a.tmps[c]? = some v ∧ V j v w) →
      Oper.wp P o a w (fun a' w' => a' = a ∧ Later w0 w' ∧ Out g w w' ∧ ∃ cs, RA w' g cs t ∧ Nb cs ∧ B cs w') Q)
    (hq : ∀ a w', Later w0 w' → a.defers = a0.defers → a.tmps.size = a0.tmps.size → (∀ c, (∀ (j : Nat) (q : Oper), ops[j]? = some q → q.dst ≠ some c) → a.tmps[c]? = a0.tmps[c]?) → (∀ (i : Nat) (o : Oper) (c : Tmp), i ≠ m → i ≠ s → ops[i]? = some o → o.dst = some c → ∃ v, a.tmps[c]? = some v ∧ V i v w') →
      (∃ g cs, a.tmps[d]? = some (.pointer (some ⟨g, 0, none⟩)) ∧ w0.heap.size ≤ g ∧ RA w' g cs t ∧ Nb cs ∧ B cs w') → Q .normal a w') (hin : m < ops.size ∧ s < ops.size) :
    (Code.region id ops true).wp P Q a0 w0 := by
  refine wp_region_any hm ?_
  obtain ⟨om, hom⟩ : ∃ om, ops[m]? = some om := ⟨_, Array.getElem?_eq_getElem hin.1⟩
  obtain ⟨os, hos⟩ : ∃ os, ops[s]? = some os := ⟨_, Array.getElem?_eq_getElem hin.2⟩
  obtain ⟨hmd, hmg, hmw⟩ := hmake om hom
  obtain ⟨hsd, hsg, hsw⟩ := hstore os hos
  refine wpAny_inv (fun fuel listed a w' => UpB ops V Z t B m s d a0 w0 listed a w' ∧ listed.size = ops.size ∧ leftN listed ≤ fuel) ?_ ?_ ?_ _ _ _ _ ?_
  · rintro fuel listed a w' ⟨u, hz, _⟩ hr
    have hall := all_upC hf hz hr
    obtain ⟨g, cs, b1, b2, b3, b4, _, b6⟩ := u.box (hall m hin.1)
    exact hq a w' u.late u.defers u.size (fun c hn => u.old c (fun i o ho hd => absurd hd (hn i o ho))) (fun i o c h1 h2 ho hd => u.come i o c h1 h2 ho (hall i (Array.getElem?_eq_some_iff.1 ho).1) hd) ⟨g, cs, b1, b2, b3, b4, b6 (hall s hin.2)⟩
  · rintro listed a w' ⟨u, hz, hl⟩
    refine List.eq_nil_iff_forall_not_mem.2 fun i hi => ?_
    have := (mem_ready.1 hi).1
    rw [left_none (by omega) i] at this
    cases this
  · rintro fuel listed a w' i ⟨u, hz, hl⟩ hi
    obtain ⟨hi0, o, ho, hdep⟩ := mem_ready.1 hi
    have hlt : i < listed.size := by
      rw [hz]
      exact (Array.getElem?_eq_some_iff.1 ho).1
    have hlf := left_set hi0
    have hi1 : listed.getD i false = false := by
      simp [hlt] at hi0 ⊢
      exact hi0
    have hdeps : ∀ j ∈ (o.after.toList.filter (Region.binds .any)).map (·.on), j ≠ m → j ≠ s → ∀ (q : Oper) (c : Tmp), ops[j]? = some q → q.dst = some c → ∃ v, a.tmps[c]? = some v ∧ V j v w' := by
      intro j hj h1 h2 q c hq hd
      obtain ⟨e, he, rfl⟩ := List.mem_map.1 hj
      obtain ⟨he1, he2⟩ := List.mem_filter.1 he
      exact u.come e.on q c h1 h2 hq (hdep e (Array.mem_toList_iff.1 he1) he2) hd
    unfold wpOp
    rw [ho]
    show if Region.wanted o (yielded ops a.tmps) = true then _ else _
    by_cases him : i = m
    · subst him
      obtain rfl : o = om := Option.some.inj (ho.symm.trans hom)
      rw [if_pos (by simp [Region.wanted, hmg])]
      refine .inl (Oper.wp_mono ?_ (hmw a w' u.late))
      rintro a' w'' ⟨g, rfl, hg, hra, hlw⟩
      obtain ⟨f1, f2⟩ := put_frame o.dst (.pointer (some ⟨g, 0, none⟩)) u.defers u.size
      have hsl : listed.getD s false = false := by
        cases hb : listed.getD s false with
        | false => rfl
        | true =>
          have := u.made hb
          rw [hi1] at this
          cases this
      refine ⟨⟨gtrans u.late hlw, f1, f2, put_old ho hlt u.old _, ?_, ?_, ?_⟩, by simp [hz], by omega⟩
      · intro j q c h1 h2 hq hl' hd
        rw [getD_set hlt] at hl'
        simp [h1] at hl'
        obtain ⟨x, hx, hx'⟩ := u.come j q c h1 h2 hq (by simpa using hl') hd
        exact ⟨x, (put_other hf ho hq hd h1 a _).trans hx, hV _ _ _ _ hx' hlw⟩
      · intro _
        refine ⟨g, Z, put_self hf ho hmd u.size _, hg, hra, hZ, fun _ => rfl, fun h => ?_⟩
        rw [getD_set hlt] at h
        simp only [Bool.or_eq_true, decide_eq_true_eq] at h
        rcases h with h | h
        · exact absurd h.symm hms
        · rw [hsl] at h
          cases h
      · intro _
        rw [getD_set hlt]
        simp
    · by_cases his : i = s
      · subst his
        obtain rfl : o = os := Option.some.inj (ho.symm.trans hos)
        have hml : listed.getD m false = true := by
          obtain ⟨oj, hoj, e, he, hb, hon⟩ := Region.waitsFor_spec hwait
          obtain rfl : oj = o := Option.some.inj (hoj.symm.trans ho)
          have := hdep e he hb
          rwa [hon] at this
        obtain ⟨g, cs, b1, b2, b3, b4, b5, _⟩ := u.box hml
        have hcs := b5 hi1
        subst hcs
        rw [if_pos (by simp [Region.wanted, hsg])]
        refine .inl (Oper.wp_mono ?_ (hsw a w' g u.late b1 b2 b3 hdeps))
        rintro a' w'' ⟨rfl, hl0, hout, cs', c1, c2, c3⟩
        refine ⟨⟨hl0, u.defers, u.size, ?_, ?_, ?_, ?_⟩, by simp [hz], by omega⟩
        · have := put_old ho hlt u.old undef
          rw [hsd] at this
          exact this
        · intro j q c h1 h2 hq hl' hd
          rw [getD_set hlt] at hl'
          simp [h2] at hl'
          obtain ⟨x, hx, hx'⟩ := u.come j q c h1 h2 hq (by simpa using hl') hd
          exact ⟨x, hx, hVo _ _ _ _ _ _ hx' b3 b4 hout⟩
        · intro _
          refine ⟨g, cs', b1, b2, c1, c2, fun h => ?_, fun _ => c3⟩
          rw [getD_set hlt] at h
          simp at h
        · intro _
          rw [getD_set hlt]
          simp [hml]
      · have hst := (show StepB P ops Q V a0 w0 m s i from hs i (by omega) him his) o ho a w' u.late (fun c hn => u.old c (fun j q hq hd => absurd hd (hn j q hq))) hdeps
        have key : ∀ v w'', V i v w'' → Later w' w'' → UpB ops V Z t B m s d a0 w0 (listed.setIfInBounds i true) (a.put o.dst v) w'' := by
          intro v w'' hv hg
          obtain ⟨f1, f2⟩ := put_frame o.dst v u.defers u.size
          have gm : (listed.setIfInBounds i true).getD m false = listed.getD m false := by rw [getD_set hlt]; simp [Ne.symm him]
          have gs : (listed.setIfInBounds i true).getD s false = listed.getD s false := by rw [getD_set hlt]; simp [Ne.symm his]
          refine ⟨gtrans u.late hg, f1, f2, put_old ho hlt u.old _, ?_, ?_, ?_⟩
          · intro j q c h1 h2 hq hl' hd
            by_cases hji : j = i
            · subst hji
              obtain rfl : q = o := Option.some.inj (hq.symm.trans ho)
              exact ⟨v, put_self hf ho hd u.size v, hv⟩
            · rw [getD_set hlt] at hl'
              simp [hji] at hl'
              obtain ⟨x, hx, hx'⟩ := u.come j q c h1 h2 hq (by simpa using hl') hd
              exact ⟨x, (put_other hf ho hq hd hji a _).trans hx, hV _ _ _ _ hx' hg⟩
          · intro h
            rw [gm] at h
            rw [gs]
            obtain ⟨g, cs, b1, b2, b3, b4, b5, b6⟩ := u.box h
            exact ⟨g, cs, (put_other hf ho hom hmd (Ne.symm him) a _).trans b1, b2, b3.later hg, b4, b5, fun k => hB _ _ _ (b6 k) hg⟩
          · intro h
            rw [gs] at h
            rw [gm]
            exact u.made h
        split
        · rename_i hw
          rw [if_pos hw] at hst
          refine .inl (Oper.wp_mono ?_ hst)
          rintro a' w'' ⟨v, rfl, hv, hg⟩
          exact ⟨key v w'' hv hg, by simp [hz], by omega⟩
        · rename_i hw
          rw [if_neg hw] at hst
          exact ⟨key undef w' hst (Later.refl _), by simp [hz], by omega⟩
  · refine ⟨⟨Later.refl w0, rfl, rfl, fun _ _ => rfl, fun i o c _ _ ho hl _ => ?_, fun hl => ?_, fun hl => ?_⟩, by simp, ?_⟩
    · rw [getD_replicate_false] at hl
      cases hl
    · rw [getD_replicate_false] at hl
      cases hl
    · rw [getD_replicate_false] at hl
      cases hl
    · unfold leftN
      have := List.countP_le_length (p := fun b => !b) (l := (Array.replicate ops.size false).toList)
      simpa using this

/-- Each operation writes one of these slots, or none. -/
def coverB (ops : Array Oper) (ds : List Tmp) : Bool := ops.toList.all fun q => match q.dst with
  | none => true
  | some s => ds.contains s

theorem cover_of {ops : Array Oper} {ds : List Tmp} (h : coverB ops ds = true) {c : Tmp} (hc : c ∉ ds) : ∀ (j : Nat) (q : Oper), ops[j]? = some q → q.dst ≠ some c := by
  intro j q hq hd
  have := List.all_eq_true.1 h q (by
    rw [Array.mem_toList_iff]
    exact Array.mem_of_getElem? hq)
  rw [hd] at this
  exact hc (by simpa using this)

/-- The act, by what these slots hold now. -/
def puts (a : Act) (ds : List Tmp) (b : Act) : Act := ds.foldl (fun b s => b.put (some s) (a.tmps.getD s undef)) b

theorem puts_frame (a : Act) (ds : List Tmp) (b : Act) : (puts a ds b).defers = b.defers ∧ (puts a ds b).tmps.size = b.tmps.size := by
  induction ds generalizing b with
  | nil => exact ⟨rfl, rfl⟩
  | cons s r ih =>
    obtain ⟨h1, h2⟩ := ih (b.put (some s) (a.tmps.getD s undef))
    exact ⟨h1, h2.trans (by simp [Act.put])⟩

theorem puts_get (a : Act) (ds : List Tmp) (b : Act) (c : Tmp) (hc : c < b.tmps.size) : (puts a ds b).tmps[c]? = if c ∈ ds then some (a.tmps.getD c undef) else b.tmps[c]? := by
  induction ds generalizing b with
  | nil => simp [puts]
  | cons s r ih =>
    have h := ih (b.put (some s) (a.tmps.getD s undef)) (by simpa [Act.put] using hc)
    have e : puts a (s :: r) b = puts a r (b.put (some s) (a.tmps.getD s undef)) := rfl
    rw [e, h]
    by_cases h1 : c ∈ r
    · rw [if_pos h1, if_pos (List.mem_cons_of_mem _ h1)]
    · rw [if_neg h1]
      by_cases h2 : c = s
      · subst h2
        rw [if_pos (List.mem_cons_self)]
        simp [Act.put, hc]
      · rw [if_neg (by simp [h2, h1])]
        simp only [Act.put]
        rw [Array.getElem?_setIfInBounds_ne (Ne.symm h2)]

theorem act_fold {ops : Array Oper} {a a0 : Act} (ds : List Tmp) (hB : coverB ops ds = true) (hd : a.defers = a0.defers) (hz : a.tmps.size = a0.tmps.size) (hold : ∀ c, (∀ (j : Nat) (q : Oper), ops[j]? = some q → q.dst ≠ some c) → a.tmps[c]? = a0.tmps[c]?) : a = puts a ds a0 := by
  obtain ⟨f1, f2⟩ := puts_frame a ds a0
  have key : a.tmps = (puts a ds a0).tmps := by
    apply Array.ext_getElem?
    intro c
    by_cases hc : c < a0.tmps.size
    · rw [puts_get a ds a0 c hc]
      split
      · have : c < a.tmps.size := by omega
        simp [this]
      · rename_i h
        exact hold c (cover_of hB h)
    · rw [Array.getElem?_eq_none (by omega), Array.getElem?_eq_none (by omega)]
  cases a with
  | mk t d =>
    cases hp : puts ⟨t, d⟩ ds a0 with
    | mk t' d' =>
      rw [hp] at key f1
      simp only at key f1 hd
      rw [key, hd, ← f1]

end Go.Proofs.YtdljmpaabpkmkaaDoor.Each
