/-
  Texts of mine, merged: each part says what it holds. Conditions: as each theorem states.
-/
import Derived.Test.YtihdijkplmfhfaaGreatDoorM22

/- A region that draws its order, in which one operation makes a block and another one stores into it, whenever each of them comes up: what all others yield is told operation by operation, as in Ea. No condition but those that each theorem states. -/
namespace Go.Proofs.YtihdijkplmfhfaaGreatDoor.Eachn
set_option maxRecDepth 100000
set_option maxRecDepth 100000
open Go.ChangeShapes Go.WideShapes Go.ChangeAt Go.RowKit
open Go.Proofs.YtihdijkplmfhfaaGreatDoor.Divs Go.Proofs.YtihdijkplmfhfaaGreatDoor.Grow
open Go.Proofs.YtihdijkplmfhfaaGreatDoor.Window (RA)

/-- What the block holds: whatever. -/
def Nb (_ : Array Value) : Prop := True

/-- The worlds differ in a block's cells alone. -/
def Out (g : Nat) (W W' : World) : Prop := ∃ o vs, W' = W.setCells g o vs

/-- No two operations write one slot, each slot is there, and each operation waits for earlier ones alone. -/
def fitC (ops : Array Oper) (n : Nat) : Bool :=
  (List.range ops.size).all fun i => match ops[i]? with
    | none => true
    | some o => o.after.all (fun e => !(Region.binds .any e) || decide (e.on < i)) && (match o.dst with
      | none => true
      | some s => decide (s < n) && (List.range ops.size).all fun j => decide (j = i) || (match ops[j]? with
        | none => true
        | some q => !(q.dst == some s)))

theorem fitC_low {ops : Array Oper} {n : Nat} (h : fitC ops n = true) {i : Nat} {o : Oper} (ho : ops[i]? = some o) {e : Edge} (he : e ∈ o.after) (hb : Region.binds .any e = true) : e.on < i := by
  have hi : i < ops.size := (Array.getElem?_eq_some_iff.1 ho).1
  have := List.all_eq_true.1 h i (List.mem_range.2 hi)
  rw [ho] at this
  simp only [Bool.and_eq_true] at this
  have := Array.all_eq_true_iff_forall_mem.1 this.1 e he
  simpa [hb] using this

theorem fitC_dst {ops : Array Oper} {n : Nat} (h : fitC ops n = true) {i j : Nat} {o q : Oper} {s : Tmp} (ho : ops[i]? = some o) (hq : ops[j]? = some q) (hs : o.dst = some s) (ht : q.dst = some s) : j = i := by
  have hi : i < ops.size := (Array.getElem?_eq_some_iff.1 ho).1
  have hj : j < ops.size := (Array.getElem?_eq_some_iff.1 hq).1
  have := List.all_eq_true.1 h i (List.mem_range.2 hi)
  rw [ho] at this
  simp only [Bool.and_eq_true, hs] at this
  have := List.all_eq_true.1 this.2.2 j (List.mem_range.2 hj)
  rw [hq] at this
  simpa [ht] using this

theorem fitC_in {ops : Array Oper} {n : Nat} (h : fitC ops n = true) {i : Nat} {o : Oper} {s : Tmp} (ho : ops[i]? = some o) (hs : o.dst = some s) : s < n := by
  have hi : i < ops.size := (Array.getElem?_eq_some_iff.1 ho).1
  have := List.all_eq_true.1 h i (List.mem_range.2 hi)
  rw [ho] at this
  simp only [Bool.and_eq_true, hs] at this
  simpa using this.2.1

/-- Where nothing is ready, all has come up. -/
theorem all_upC {ops : Array Oper} {n : Nat} (hf : fitC ops n = true) {listed : Array Bool} (hz : listed.size = ops.size) (h : Region.ready .any ops listed = []) : ∀ i, i < ops.size → listed.getD i false = true := by
  intro i
  induction i using Nat.strongRecOn with
  | _ i ih =>
    intro hi
    cases hb : listed.getD i false with
    | true => rfl
    | false =>
      exfalso
      have hm : i ∈ Region.ready .any ops listed := by
        rw [mem_ready]
        refine ⟨?_, ops[i], by simp [hi], fun e he hbd => ?_⟩
        · have hj : i < listed.size := by omega
          simp [hj] at hb ⊢
          exact hb
        · have := fitC_low hf (i := i) (o := ops[i]) (by simp [hi]) he hbd
          exact ih e.on this (by omega)
      rw [h] at hm
      cases hm

/-- The look at one operation that neither makes the block nor stores into it. -/
def StepB (P : Program) (ops : Array Oper) (Q : Exit → Act → World → Prop) (V : Nat → Value → World → Prop) (a0 : Act) (w0 : World) (m s i : Nat) : Prop :=
  ∀ o, ops[i]? = some o → ∀ (a : Act) (w : World), Later w0 w → (∀ d, (∀ (j : Nat) (q : Oper), ops[j]? = some q → q.dst ≠ some d) → a.tmps[d]? = a0.tmps[d]?) →
    (∀ j ∈ (o.after.toList.filter (Region.binds .any)).map (·.on), j ≠ m → j ≠ s → ∀ (q : Oper) (d : Tmp), ops[j]? = some q → q.dst = some d → ∃ v, a.tmps[d]? = some v ∧ V j v w) →
    if Region.wanted o (yielded ops a.tmps) = true then Oper.wp P o a w (fun a' w' => ∃ v, a' = a.put o.dst v ∧ V i v w' ∧ Later w w') Q else V i undef w

/-- The block: made, and what it holds. -/
def Box (Z : Array Value) (t : TypeId) (B : Array Value → World → Prop) (d : Tmp) (w0 : World) (stored : Bool) (a : Act) (w : World) : Prop :=
  ∃ g cs, a.tmps[d]? = some (.pointer (some ⟨g, 0, none⟩)) ∧ w0.heap.size ≤ g ∧ RA w g cs t ∧ Nb cs ∧ (stored = false → cs = Z) ∧ (stored = true → B cs w)

structure UpB (ops : Array Oper) (V : Nat → Value → World → Prop) (Z : Array Value) (t : TypeId) (B : Array Value → World → Prop) (m s : Nat) (d : Tmp) (a0 : Act) (w0 : World) (listed : Array Bool) (a : Act) (w : World) : Prop where
  late : Later w0 w
  defers : a.defers = a0.defers
  size : a.tmps.size = a0.tmps.size
  old : ∀ c, (∀ i o, ops[i]? = some o → o.dst = some c → listed.getD i false = false) → a.tmps[c]? = a0.tmps[c]?
  come : ∀ i o c, i ≠ m → i ≠ s → ops[i]? = some o → listed.getD i false = true → o.dst = some c → ∃ v, a.tmps[c]? = some v ∧ V i v w
  box : listed.getD m false = true → Box Z t B d w0 (listed.getD s false) a w
  made : listed.getD s false = true → listed.getD m false = true

theorem put_other {ops : Array Oper} {n : Nat} (hf : fitC ops n = true) {i j : Nat} {o q : Oper} {c : Tmp} (ho : ops[i]? = some o) (hq : ops[j]? = some q) (hc : q.dst = some c) (hji : j ≠ i) (a : Act) (v : Value) : (a.put o.dst v).tmps[c]? = a.tmps[c]? := by
  cases hd : o.dst with
  | none => rfl
  | some d =>
    have hne : d ≠ c := by
      rintro rfl
      exact hji (fitC_dst hf ho hq hd hc)
    simp only [Act.put]
    rw [Array.getElem?_setIfInBounds_ne hne]

theorem put_self {ops : Array Oper} {i : Nat} {o : Oper} {c : Tmp} {a a0 : Act} (hf : fitC ops a0.tmps.size = true) (ho : ops[i]? = some o) (hc : o.dst = some c) (hz : a.tmps.size = a0.tmps.size) (v : Value) : (a.put o.dst v).tmps[c]? = some v := by
  rw [hc]
  have := fitC_in hf ho hc
  rw [← hz] at this
  simp [Act.put, this]

theorem put_old {ops : Array Oper} {i : Nat} {o : Oper} {a a0 : Act} {listed : Array Bool} (ho : ops[i]? = some o) (hlt : i < listed.size) (h : ∀ c, (∀ i o, ops[i]? = some o → o.dst = some c → listed.getD i false = false) → a.tmps[c]? = a0.tmps[c]?) (v : Value) :
    ∀ c, (∀ j q, ops[j]? = some q → q.dst = some c → (listed.setIfInBounds i true).getD j false = false) → (a.put o.dst v).tmps[c]? = a0.tmps[c]? := by
  intro c hn
  have h1 : a.tmps[c]? = a0.tmps[c]? := h c (fun j q hq hd => by
    have := hn j q hq hd
    rw [getD_set hlt] at this
    simp at this
    simpa using this.2)
  cases hd : o.dst with
  | none => exact h1
  | some d =>
    have hne : d ≠ c := by
      rintro rfl
      have := hn i o ho hd
      rw [getD_set hlt] at this
      simp at this
    simp only [Act.put]
    rw [Array.getElem?_setIfInBounds_ne hne]
    exact h1

theorem put_frame {a a0 : Act} (o : Option Tmp) (v : Value) (h1 : a.defers = a0.defers) (h2 : a.tmps.size = a0.tmps.size) : (a.put o v).defers = a0.defers ∧ (a.put o v).tmps.size = a0.tmps.size := by
  cases o with
  | none => exact ⟨h1, h2⟩
  | some d => exact ⟨h1, by simp [Act.put, h2]⟩

theorem region_box {P : Program} {id : Nat} {Q : Exit → Act → World → Prop} {a0 : Act} {w0 : World} {ops : Array Oper} (m s : Nat) (d : Tmp) (Z : Array Value) (t : TypeId) (B : Array Value → World → Prop) (V : Nat → Value → World → Prop)
    (hm : P.follows .mixedOrders = true) (hf : fitC ops a0.tmps.size = true) (hms : m ≠ s) (hwait : Region.waitsFor .any ops s m = true)
    (hV : ∀ i v W W', V i v W → Later W W' → V i v W') (hVo : ∀ i v W W' g cs, V i v W → RA W g cs t → Nb cs → Out g W W' → V i v W') (hB : ∀ cs W W', B cs W → Later W W' → B cs W') (hZ : Nb Z)
    (hs : ∀ i, i < ops.size → i ≠ m → i ≠ s → StepB P ops Q V a0 w0 m s i)
    (hmake : ∀ o, ops[m]? = some o → o.dst = some d ∧ o.guard = none ∧ ∀ (a : Act) (w : World), Later w0 w → Oper.wp P o a w (fun a' w' => ∃ g, a' = a.put o.dst (.pointer (some ⟨g, 0, none⟩)) ∧ w0.heap.size ≤ g ∧ RA w' g Z t ∧ Later w w') Q)
    (hstore : ∀ o, ops[s]? = some o → o.dst = none ∧ o.guard = none ∧ ∀ (a : Act) (w : World) (g : Nat), Later w0 w → a.tmps[d]? = some (.pointer (some ⟨g, 0, none⟩)) → w0.heap.size ≤ g → RA w g Z t →
      (∀ j ∈ (o.after.toList.filter (Region.binds .any)).map (·.on), j ≠ m → j ≠ s → ∀ (q : Oper) (c : Tmp), ops[j]? = some q → q.dst = some c → ∃ v, a.tmps[c]? = some v ∧ V j v w) →
      Oper.wp P o a w (fun a' w' => a' = a ∧ Later w0 w' ∧ Out g w w' ∧ ∃ cs, RA w' g cs t ∧ Nb cs ∧ B cs w') Q)
    (hq : ∀ a w', Later w0 w' → a.defers = a0.defers → a.tmps.size = a0.tmps.size → (∀ c, (∀ (j : Nat) (q : Oper), ops[j]? = some q → q.dst ≠ some c) → a.tmps[c]? = a0.tmps[c]?) → (∀ (i : Nat) (o : Oper) (c : Tmp), i ≠ m → i ≠ s → ops[i]? = some o → o.dst = some c → ∃ v, a.tmps[c]? = some v ∧ V i v w') →
      (∃ g cs, a.tmps[d]? = some (.pointer (some ⟨g, 0, none⟩)) ∧ w0.heap.size ≤ g ∧ RA w' g cs t ∧ Nb cs ∧ B cs w') → Q .normal a w') (hin : m < ops.size ∧ s < ops.size) :
    (Code.region id ops true).wp P Q a0 w0 := by
  refine wp_region_any hm ?_
  obtain ⟨om, hom⟩ : ∃ om, ops[m]? = some om := ⟨_, Array.getElem?_eq_getElem hin.1⟩
  obtain ⟨os, hos⟩ : ∃ os, ops[s]? = some os := ⟨_, Array.getElem?_eq_getElem hin.2⟩
  obtain ⟨hmd, hmg, hmw⟩ := hmake om hom
  obtain ⟨hsd, hsg, hsw⟩ := hstore os hos
  refine wpAny_inv (fun fuel listed a w' => UpB ops V Z t B m s d a0 w0 listed a w' ∧ listed.size = ops.size ∧ leftN listed ≤ fuel) ?_ ?_ ?_ _ _ _ _ ?_
  · rintro fuel listed a w' ⟨u, hz, _⟩ hr
    have hall := all_upC hf hz hr
    obtain ⟨g, cs, b1, b2, b3, b4, _, b6⟩ := u.box (hall m hin.1)
    exact hq a w' u.late u.defers u.size (fun c hn => u.old c (fun i o ho hd => absurd hd (hn i o ho))) (fun i o c h1 h2 ho hd => u.come i o c h1 h2 ho (hall i (Array.getElem?_eq_some_iff.1 ho).1) hd) ⟨g, cs, b1, b2, b3, b4, b6 (hall s hin.2)⟩
  · rintro listed a w' ⟨u, hz, hl⟩
    refine List.eq_nil_iff_forall_not_mem.2 fun i hi => ?_
    have := (mem_ready.1 hi).1
    rw [left_none (by omega) i] at this
    cases this
  · rintro fuel listed a w' i ⟨u, hz, hl⟩ hi
    obtain ⟨hi0, o, ho, hdep⟩ := mem_ready.1 hi
    have hlt : i < listed.size := by
      rw [hz]
      exact (Array.getElem?_eq_some_iff.1 ho).1
    have hlf := left_set hi0
    have hi1 : listed.getD i false = false := by
      simp [hlt] at hi0 ⊢
      exact hi0
    have hdeps : ∀ j ∈ (o.after.toList.filter (Region.binds .any)).map (·.on), j ≠ m → j ≠ s → ∀ (q : Oper) (c : Tmp), ops[j]? = some q → q.dst = some c → ∃ v, a.tmps[c]? = some v ∧ V j v w' := by
      intro j hj h1 h2 q c hq hd
      obtain ⟨e, he, rfl⟩ := List.mem_map.1 hj
      obtain ⟨he1, he2⟩ := List.mem_filter.1 he
      exact u.come e.on q c h1 h2 hq (hdep e (Array.mem_toList_iff.1 he1) he2) hd
    unfold wpOp
    rw [ho]
    show if Region.wanted o (yielded ops a.tmps) = true then _ else _
    by_cases him : i = m
    · subst him
      obtain rfl : o = om := Option.some.inj (ho.symm.trans hom)
      rw [if_pos (by simp [Region.wanted, hmg])]
      refine .inl (Oper.wp_mono ?_ (hmw a w' u.late))
      rintro a' w'' ⟨g, rfl, hg, hra, hlw⟩
      obtain ⟨f1, f2⟩ := put_frame o.dst (.pointer (some ⟨g, 0, none⟩)) u.defers u.size
      have hsl : listed.getD s false = false := by
        cases hb : listed.getD s false with
        | false => rfl
        | true =>
          have := u.made hb
          rw [hi1] at this
          cases this
      refine ⟨⟨gtrans u.late hlw, f1, f2, put_old ho hlt u.old _, ?_, ?_, ?_⟩, by simp [hz], by omega⟩
      · intro j q c h1 h2 hq hl' hd
        rw [getD_set hlt] at hl'
        simp [h1] at hl'
        obtain ⟨x, hx, hx'⟩ := u.come j q c h1 h2 hq (by simpa using hl') hd
        exact ⟨x, (put_other hf ho hq hd h1 a _).trans hx, hV _ _ _ _ hx' hlw⟩
      · intro _
        refine ⟨g, Z, put_self hf ho hmd u.size _, hg, hra, hZ, fun _ => rfl, fun h => ?_⟩
        rw [getD_set hlt] at h
        simp only [Bool.or_eq_true, decide_eq_true_eq] at h
        rcases h with h | h
        · exact absurd h.symm hms
        · rw [hsl] at h
          cases h
      · intro _
        rw [getD_set hlt]
        simp
    · by_cases his : i = s
      · subst his
        obtain rfl : o = os := Option.some.inj (ho.symm.trans hos)
        have hml : listed.getD m false = true := by
          obtain ⟨oj, hoj, e, he, hb, hon⟩ := Region.waitsFor_spec hwait
          obtain rfl : oj = o := Option.some.inj (hoj.symm.trans ho)
          have := hdep e he hb
          rwa [hon] at this
        obtain ⟨g, cs, b1, b2, b3, b4, b5, _⟩ := u.box hml
        have hcs := b5 hi1
        subst hcs
        rw [if_pos (by simp [Region.wanted, hsg])]
        refine .inl (Oper.wp_mono ?_ (hsw a w' g u.late b1 b2 b3 hdeps))
        rintro a' w'' ⟨rfl, hl0, hout, cs', c1, c2, c3⟩
        refine ⟨⟨hl0, u.defers, u.size, ?_, ?_, ?_, ?_⟩, by simp [hz], by omega⟩
        · have := put_old ho hlt u.old undef
          rw [hsd] at this
          exact this
        · intro j q c h1 h2 hq hl' hd
          rw [getD_set hlt] at hl'
          simp [h2] at hl'
          obtain ⟨x, hx, hx'⟩ := u.come j q c h1 h2 hq (by simpa using hl') hd
          exact ⟨x, hx, hVo _ _ _ _ _ _ hx' b3 b4 hout⟩
        · intro _
          refine ⟨g, cs', b1, b2, c1, c2, fun h => ?_, fun _ => c3⟩
          rw [getD_set hlt] at h
          simp at h
        · intro _
          rw [getD_set hlt]
          simp [hml]
      · have hst := (show StepB P ops Q V a0 w0 m s i from hs i (by omega) him his) o ho a w' u.late (fun c hn => u.old c (fun j q hq hd => absurd hd (hn j q hq))) hdeps
        have key : ∀ v w'', V i v w'' → Later w' w'' → UpB ops V Z t B m s d a0 w0 (listed.setIfInBounds i true) (a.put o.dst v) w'' := by
          intro v w'' hv hg
          obtain ⟨f1, f2⟩ := put_frame o.dst v u.defers u.size
          have gm : (listed.setIfInBounds i true).getD m false = listed.getD m false := by rw [getD_set hlt]; simp [Ne.symm him]
          have gs : (listed.setIfInBounds i true).getD s false = listed.getD s false := by rw [getD_set hlt]; simp [Ne.symm his]
          refine ⟨gtrans u.late hg, f1, f2, put_old ho hlt u.old _, ?_, ?_, ?_⟩
          · intro j q c h1 h2 hq hl' hd
            by_cases hji : j = i
            · subst hji
              obtain rfl : q = o := Option.some.inj (hq.symm.trans ho)
              exact ⟨v, put_self hf ho hd u.size v, hv⟩
            · rw [getD_set hlt] at hl'
              simp [hji] at hl'
              obtain ⟨x, hx, hx'⟩ := u.come j q c h1 h2 hq (by simpa using hl') hd
              exact ⟨x, (put_other hf ho hq hd hji a _).trans hx, hV _ _ _ _ hx' hg⟩
          · intro h
            rw [gm] at h
            rw [gs]
            obtain ⟨g, cs, b1, b2, b3, b4, b5, b6⟩ := u.box h
            exact ⟨g, cs, (put_other hf ho hom hmd (Ne.symm him) a _).trans b1, b2, b3.later hg, b4, b5, fun k => hB _ _ _ (b6 k) hg⟩
          · intro h
            rw [gs] at h
            rw [gm]
            exact u.made h
        split
        · rename_i hw
          rw [if_pos hw] at hst
          refine .inl (Oper.wp_mono ?_ hst)
          rintro a' w'' ⟨v, rfl, hv, hg⟩
          exact ⟨key v w'' hv hg, by simp [hz], by omega⟩
        · rename_i hw
          rw [if_neg hw] at hst
          exact ⟨key undef w' hst (Later.refl _), by simp [hz], by omega⟩
  · refine ⟨⟨Later.refl w0, rfl, rfl, fun _ _ => rfl, fun i o c _ _ ho hl _ => ?_, fun hl => ?_, fun hl => ?_⟩, by simp, ?_⟩
    · rw [getD_replicate_false] at hl
      cases hl
    · rw [getD_replicate_false] at hl
      cases hl
    · rw [getD_replicate_false] at hl
      cases hl
    · unfold leftN
      have := List.countP_le_length (p := fun b => !b) (l := (Array.replicate ops.size false).toList)
      simpa using this

/-- Each operation writes one of these slots, or none. -/
def coverB (ops : Array Oper) (ds : List Tmp) : Bool := ops.toList.all fun q => match q.dst with
  | none => true
  | some s => ds.contains s

theorem cover_of {ops : Array Oper} {ds : List Tmp} (h : coverB ops ds = true) {c : Tmp} (hc : c ∉ ds) : ∀ (j : Nat) (q : Oper), ops[j]? = some q → q.dst ≠ some c := by
  intro j q hq hd
  have := List.all_eq_true.1 h q (by
    rw [Array.mem_toList_iff]
    exact Array.mem_of_getElem? hq)
  rw [hd] at this
  exact hc (by simpa using this)

/-- The act, by what these slots hold now. -/
def puts (a : Act) (ds : List Tmp) (b : Act) : Act := ds.foldl (fun b s => b.put (some s) (a.tmps.getD s undef)) b

theorem puts_frame (a : Act) (ds : List Tmp) (b : Act) : (puts a ds b).defers = b.defers ∧ (puts a ds b).tmps.size = b.tmps.size := by
  induction ds generalizing b with
  | nil => exact ⟨rfl, rfl⟩
  | cons s r ih =>
    obtain ⟨h1, h2⟩ := ih (b.put (some s) (a.tmps.getD s undef))
    exact ⟨h1, h2.trans (by simp [Act.put])⟩

theorem puts_get (a : Act) (ds : List Tmp) (b : Act) (c : Tmp) (hc : c < b.tmps.size) : (puts a ds b).tmps[c]? = if c ∈ ds then some (a.tmps.getD c undef) else b.tmps[c]? := by
  induction ds generalizing b with
  | nil => simp [puts]
  | cons s r ih =>
    have h := ih (b.put (some s) (a.tmps.getD s undef)) (by simpa [Act.put] using hc)
    have e : puts a (s :: r) b = puts a r (b.put (some s) (a.tmps.getD s undef)) := rfl
    rw [e, h]
    by_cases h1 : c ∈ r
    · rw [if_pos h1, if_pos (List.mem_cons_of_mem _ h1)]
    · rw [if_neg h1]
      by_cases h2 : c = s
      · subst h2
        rw [if_pos (List.mem_cons_self)]
        simp [Act.put, hc]
      · rw [if_neg (by simp [h2, h1])]
        simp only [Act.put]
        rw [Array.getElem?_setIfInBounds_ne (Ne.symm h2)]

theorem act_fold {ops : Array Oper} {a a0 : Act} (ds : List Tmp) (hB : coverB ops ds = true) (hd : a.defers = a0.defers) (hz : a.tmps.size = a0.tmps.size) (hold : ∀ c, (∀ (j : Nat) (q : Oper), ops[j]? = some q → q.dst ≠ some c) → a.tmps[c]? = a0.tmps[c]?) : a = puts a ds a0 := by
  obtain ⟨f1, f2⟩ := puts_frame a ds a0
  have key : a.tmps = (puts a ds a0).tmps := by
    apply Array.ext_getElem?
    intro c
    by_cases hc : c < a0.tmps.size
    · rw [puts_get a ds a0 c hc]
      split
      · have : c < a.tmps.size := by omega
        simp [this]
      · rename_i h
        exact hold c (cover_of hB h)
    · rw [Array.getElem?_eq_none (by omega), Array.getElem?_eq_none (by omega)]
  cases a with
  | mk t d =>
    cases hp : puts ⟨t, d⟩ ds a0 with
    | mk t' d' =>
      rw [hp] at key f1
      simp only at key f1 hd
      rw [key, hd, ← f1]

theorem out4 (g : Nat) (W : World) (v0 v1 v2 v3 : Value) : Out g W ((((W.setCell ⟨g, 0, none⟩ v0).setCell ⟨g, 1, none⟩ v1).setCell ⟨g, 2, none⟩ v2).setCell ⟨g, 3, none⟩ v3) := ⟨0, [v0, v1, v2, v3], rfl⟩

theorem owns_sets' {b : Nat} {e : TypeId} {n m : Nat} {v : Value} {xs : List Value} {A : Nat} (hn : some A ≠ v.ownBlock) (vs : List Value) : ∀ (W : World) (o : Nat), W.ownsRow b e n v m xs → (W.setCells A o vs).ownsRow b e n v m xs := by
  induction vs with
  | nil => intro W o h; exact h
  | cons y r ih => intro W o h; exact ih _ _ (Conf.owns_set' h hn _ _)

/-- A configuration that is owned stays so where a block of another type is written. -/
theorem own_out {W W' : World} {B g : Nat} {E cs : Array Value} {c : Cf.Cg} (h : Conf.Own W B E c) (r : RA W g cs 56) (o : Out g W W') : Conf.Own W' B E c := by
  obtain ⟨u, v, rfl, hu, hv⟩ := h
  obtain ⟨k, vs, rfl⟩ := o
  refine ⟨u, v, rfl, ?_, ?_⟩
  · unfold By.SL at *
    exact owns_sets' (Conf.own_apart hu r (by decide)) vs W k hu
  · unfold Conf.WL at *
    exact owns_sets' (Conf.own_apart hv r (by decide)) vs W k hv

end Go.Proofs.YtihdijkplmfhfaaGreatDoor.Eachn

/- The chapter's example. Condition: the table of months lies where the program lays it. -/
namespace Go.Proofs.YtihdijkplmfhfaaGreatDoor.Window
set_option maxRecDepth 100000
open Go.ChangeShapes Go.WideShapes Go.ChangeAt Go.RowKit
open Go.Proofs.YtihdijkplmfhfaaGreatDoor.Divs Go.Proofs.YtihdijkplmfhfaaGreatDoor.Grow
open Go.Proofs.YtihdijkplmfhfaaGreatDoor.Greg (Laid)
open Go.Proofs.YtihdijkplmfhfaaGreatDoor.Zo Go.Proofs.YtihdijkplmfhfaaGreatDoor.Zone Go.Proofs.YtihdijkplmfhfaaGreatDoor.Win
open Go.Proofs.YtihdijkplmfhfaaGreatDoor.Cf (Cg Wn ce wo)
open Go.Proofs.YtihdijkplmfhfaaGreatDoor.Conf (wc cc Is)
open Go.Proofs.YtihdijkplmfhfaaGreatDoor.Fe (kd rst)
open Go.Proofs.YtihdijkplmfhfaaGreatDoor.Su (mV mE sk sa)

set_option linter.unusedVariables false
open Go.Proofs.YtihdijkplmfhfaaGreatDoor.Eachn
open Go.Proofs.YtihdijkplmfhfaaGreatDoor.Conf (At load_at store_row Row sk_form wk_form Wk cc_one)

theorem ex_bit : bit 65 738779 = true := by decide +kernel

theorem ex_mv : mv Conf.pc.z (738779 * 1440 + 1200) = 1063842960 := by
  rw [mv_late _ _ (sm_zero _ _ rfl) (sm_zero _ _ rfl)]
  rfl

theorem ex_wo : wo Conf.pw = true := (Cf.we_ok _).1 Conf.pw_ok

theorem ex_pE : pE Conf.pc Conf.pw 738779 = 0 := (pE_ok _ _ _).2 ⟨Conf.pc_ok, ex_wo, by decide, by decide⟩

theorem ex_pB : pB Conf.pc Conf.pw 738779 = true := (pB_iff _ _ _).2 ⟨ex_pE, by unfold beg; rw [if_pos (show Conf.pw.k = 1 from rfl)]; exact ex_bit⟩

theorem ex_pF : pF Conf.pc Conf.pw 738779 = 1063842960 := by
  unfold pF; rw [if_pos ex_pB]; unfold fr; rw [if_neg (show ¬ Conf.pw.k = 4 by decide)]; exact ex_mv

theorem ex_pT : pT Conf.pc Conf.pw 738779 = 1063843560 := by
  unfold pT; rw [if_pos ex_pB]; unfold tt; rw [if_neg (show ¬ Conf.pw.k = 4 by decide)]
  rw [show Conf.pw.u = 1200 from rfl, ex_mv]; rfl

theorem ex_pM : pM Conf.pc Conf.pw 738779 = 2 := by unfold pM; rw [if_pos ex_pB]; rfl

theorem ex_pP : pP Conf.pc Conf.pw 738779 = 0 := by unfold pP; rw [if_pos ex_pB]; rfl

theorem ex_wE : wE Conf.pc.z 738779 1200 = 0 := (wE_ok _ _ _).2 ⟨(ck_may _).1 (by decide), by decide, by decide, by decide, by decide⟩

theorem ex_wV : wV Conf.pc.z 738779 1200 = 1063842960 := by unfold wV; rw [if_pos ex_wE]; exact ex_mv

theorem run_eql (f t m p : Int) (w : World) : Sem.run Tryz.prog (binOp .eql 56 (.agg #[.int .i64 f, .int .i64 t, .int .i64 m, .int .i64 p]) (.agg #[.int .i64 f, .int .i64 t, .int .i64 m, .int .i64 p])) w = .ok (.bool true) w := by
  have u3 := Tryz.underlying56
  go_simp

def AV (C : Array Value) (q b off cap : Nat) : Nat → Value → World → Prop
  | 0, v, _ => v = .agg C
  | 1, v, _ => v = .pointer (some ⟨q, 36, none⟩)
  | 2, v, _ => v = .slice (some ⟨b, off, none⟩) 1 cap
  | 3, v, _ => v = .pointer (some ⟨b, off, none⟩)
  | 4, v, _ => v = .agg (wc Conf.pw).toArray
  | 5, v, _ => v = .tuple #[.agg #[.int .i64 1063842960, .int .i64 1063843560, .int .i64 2, .int .i64 0], .bool true, .int .i64 0]
  | 6, v, _ => v = .tuple #[.agg #[.int .i64 1063842960, .int .i64 1063843560, .int .i64 2, .int .i64 0], .bool true, .int .i64 0]
  | 7, v, _ => v = .agg #[.int .i64 1063842960, .int .i64 1063843560, .int .i64 2, .int .i64 0]
  | 8, v, _ => v = .bool true
  | 9, v, _ => v = .int .i64 0
  | 12, v, _ => v = .bool true
  | 13, v, _ => v = .int .i64 0
  | _, _, _ => True

theorem AV.later (C : Array Value) (q b off cap : Nat) (i : Nat) (v : Value) (W W' : World) (h : AV C q b off cap i v W) (_g : Later W W') : AV C q b off cap i v W' := by
  unfold AV at *
  split at h <;> try exact h
theorem AV.out (C : Array Value) (q b off cap : Nat) (i : Nat) (v : Value) (W W' : World) (g : Nat) (cs : Array Value) (h : AV C q b off cap i v W) (r : RA W g cs 56) (n : Nb cs) (o : Out g W W') : AV C q b off cap i v W' := by
  unfold AV at *
  split at h <;> try exact h

end Go.Proofs.YtihdijkplmfhfaaGreatDoor.Window

/- The arguments of the laws: pairs of days under a configuration and a window. No condition but those that each theorem states. -/
namespace Go.Proofs.YtihdijkplmfhfaaGreatDoor.Window
set_option maxRecDepth 100000
set_option maxRecDepth 100000
open Go.ChangeShapes Go.WideShapes Go.ChangeAt Go.RowKit
open Go.Proofs.YtihdijkplmfhfaaGreatDoor.Divs Go.Proofs.YtihdijkplmfhfaaGreatDoor.Grow
open Go.Proofs.YtihdijkplmfhfaaGreatDoor.Greg (Laid)
open Go.Proofs.YtihdijkplmfhfaaGreatDoor.Zo Go.Proofs.YtihdijkplmfhfaaGreatDoor.Zone Go.Proofs.YtihdijkplmfhfaaGreatDoor.Win
open Go.Proofs.YtihdijkplmfhfaaGreatDoor.Cf (Cg Wn ce wo)
open Go.Proofs.YtihdijkplmfhfaaGreatDoor.Conf
open Go.Proofs.YtihdijkplmfhfaaGreatDoor.Fe (kd rst)
open Go.Proofs.YtihdijkplmfhfaaGreatDoor.Su (mV mE sk sa)

open Go.Proofs.YtihdijkplmfhfaaGreatDoor.By (Sk)

/-- The cells of a configuration, a window, and two numbers. -/
def tw (D : Array Value) (x : Wn) (a b : Int) : Array Value := (D.toList ++ (wc x ++ [Value.int .i64 a, Value.int .i64 b])).toArray

section
variable {H : Type} {enc : TypeId × Value → H} {w : World} {base : Nat} {spare : Nat → Bool} {held : Bool}

theorem cfg_cells {n : Nat} {l : List Value} (hl : l.length = 37) {x : DataW H × List MemPlace} (h : DataW.trod enc Tryz.prog w base spare held n 33 l = some x) :
    ∃ (c : Cg) (u v : Value), l = (cc c u v).toList ∧ Sk .i64 w u c.st ∧ Wk w v c.ws := by
  obtain ⟨c0, c1, c2, c3, c4, c5, c6, c7, c8, c9, c10, c11, c12, c13, c14, c15, c16, c17, c18, c19, c20, c21, c22, c23, c24, c25, c26, c27, c28, c29, c30, c31, c32, c33, c34, c35, c36, rfl⟩ := list37 l hl
  obtain ⟨n0, y0, h0⟩ := Conf.part Tryz.underlying33 h 0 _ rfl
  obtain ⟨n1, y1, h1⟩ := Conf.part Tryz.underlying33 h 1 _ rfl
  obtain ⟨n2, y2, h2⟩ := Conf.part Tryz.underlying33 h 2 _ rfl
  obtain ⟨n3, y3, h3⟩ := Conf.part Tryz.underlying33 h 3 _ rfl
  obtain ⟨n4, y4, h4⟩ := Conf.part Tryz.underlying33 h 4 _ rfl
  obtain ⟨n5, y5, h5⟩ := Conf.part Tryz.underlying33 h 5 _ rfl
  obtain ⟨n6, y6, h6⟩ := Conf.part Tryz.underlying33 h 6 _ rfl
  obtain ⟨n7, y7, h7⟩ := Conf.part Tryz.underlying33 h 7 _ rfl
  obtain ⟨n8, y8, h8⟩ := Conf.part Tryz.underlying33 h 8 _ rfl
  obtain ⟨n9, y9, h9⟩ := Conf.part Tryz.underlying33 h 9 _ rfl
  obtain ⟨n10, y10, h10⟩ := Conf.part Tryz.underlying33 h 10 _ rfl
  simp [cellsI] at h0
  simp [cellsI] at h1
  simp [cellsI] at h2
  simp [cellsL] at h3
  simp [cellsT] at h4
  simp [cellsI] at h5
  simp [cellsI] at h6
  simp [cellsZ] at h7
  simp [cellsS] at h8
  simp [cellsB] at h9
  simp [cellsV] at h10
  obtain ⟨a0, rfl⟩ := cell_int h0
  obtain ⟨a1, rfl⟩ := cell_int h1
  obtain ⟨a2, rfl⟩ := cell_int h2
  obtain ⟨st, hs⟩ := open_st h3
  obtain ⟨t0, t1, t2, t3, t4, t5, t6, rfl, rfl, rfl, rfl, rfl, rfl, rfl⟩ := open_times h4
  obtain ⟨a5, rfl⟩ := cell_int h5
  obtain ⟨a6, rfl⟩ := cell_int h6
  obtain ⟨z, rfl, rfl, rfl, rfl, rfl, rfl, rfl, rfl, rfl, rfl⟩ := open_zone h7
  obtain ⟨s, rfl, rfl, rfl, rfl, rfl, rfl, rfl, rfl, rfl, rfl, rfl, rfl⟩ := open_sn h8
  obtain ⟨ab, rfl⟩ := cell_bool h9
  obtain ⟨ws, hw⟩ := open_wins h10
  exact ⟨⟨a0, a1, a2, st, t0, t1, t2, t3, t4, t5, t6, a5, a6, z, s, ab, ws⟩, _, _, rfl, hs, hw⟩

end

end Go.Proofs.YtihdijkplmfhfaaGreatDoor.Window

/- What the document's own answers of layer 3 come to, call by call. Conditions: the numbers are ints; the years are from 2 to 10000, as each theorem says. -/
namespace Go.Proofs.YtihdijkplmfhfaaGreatDoor.Mol
set_option maxRecDepth 100000
open Go.ChangeShapes Go.WideShapes Go.ChangeAt Go.RowKit
open Go.Proofs.YtihdijkplmfhfaaGreatDoor.Divs Go.Proofs.YtihdijkplmfhfaaGreatDoor.Grow
open Go.Proofs.YtihdijkplmfhfaaGreatDoor.Year (lh mh pt md mp p1 p2 po dl ny yl)

theorem rleap_any (h : Int) (w : World) (h0 : -9223372036854775808 ≤ h) (h1 : h ≤ 9223372036854775807) :
    Calls Tryz.prog 168 #[.int .i64 h] w fun e w' => e = .returned (.bool (lh h)) ∧ ∃ n, w' = w.drewN n := by
  have hm0 := Int.emod_nonneg h (show (19 : Int) ≠ 0 by omega)
  have hm1 := Int.emod_lt_of_pos h (show (0 : Int) < 19 by omega)
  have K1 := Lib.hid (fun W => rmod_any h 19 W h0 h1 (by omega) (by omega))
  have K2 := Lib.hid (fun W => rmod_any (7 * (h % 19) + 1) 19 W (by omega) (by omega) (by omega) (by omega))
  go_enter Tryz.func168, Tryz.ntmps168
  go_wp2_with fail
  refine (K1.out _).mono ?_
  rintro e w1 ⟨rfl, n1, rfl⟩
  go_wp2_with fail
  refine (K2.out _).mono ?_
  rintro e w2 ⟨rfl, n2, rfl⟩
  go_wp2_with fail
  go_ret
  exact ⟨retb (lh_of h), _, rfl⟩

theorem may_yes (h : Int) (w : World) (h0 : 3762 ≤ h) (h1 : h ≤ 9999) :
    Calls Tryz.prog 167 #[.int .i64 h] w fun e w' => e = .returned (.bool true) ∧ w = w' := by
  go_enter Tryz.func167, Tryz.ntmps167
  go_wp2
  go_ret
  exact ⟨rfl, rfl⟩

theorem may_no (h : Int) (w : World) (hb : h < 3762 ∨ 9999 < h) :
    Calls Tryz.prog 167 #[.int .i64 h] w fun e w' => e = .returned (.bool false) ∧ w = w' := by
  by_cases h1 : 3762 ≤ h
  · have h2 : 9999 < h := by omega
    clear hb
    go_enter Tryz.func167, Tryz.ntmps167
    go_wp2
    go_ret
    exact ⟨retb (by simpa using h2), rfl⟩
  · clear hb
    go_enter Tryz.func167, Tryz.ntmps167
    go_wp2
    go_ret
    exact ⟨rfl, rfl⟩

def MRel (h : Int) (n i : Value) : Prop := ∃ k : Int, 1 ≤ k ∧ k ≤ h ∧ i = .int .i64 k ∧ n = .int .i64 (mh k)

set_option maxHeartbeats 1000000 in
theorem rmonths_any (h : Int) (w : World) (h1 : 2 ≤ h) (h2 : h ≤ 10000) :
    Calls Tryz.prog 176 #[.int .i64 h] w fun e w' => e = .returned (.int .i64 (mh h)) ∧ ∃ n, w' = w.drewN n := by
  have hr : 0 ≤ (h - 1) / 19 ∧ (h - 1) / 19 ≤ 600 := by omega
  have hk : 19 * ((h - 1) / 19) + 1 ≤ h := by omega
  have HM := Lib.hid (Year.mh_row ((h - 1) / 19))
  go_enter Tryz.func176, Tryz.ntmps176
  go_wp2
  go_loopw [4, 5] (fun n i wr => MRel h n i ∧ ∃ n, wr = w.drewN n) (fun _ i _ => (10000 - intOf i).toNat)
  case atStart => exact ⟨⟨_, by omega, hk, rfl, by rw [HM.out]⟩, 0, rfl⟩
  case round =>
    obtain ⟨⟨k, k1, k2, rfl, rfl⟩, n, rfl⟩ := hrel
    have hb := Year.mh_bd k k1 (by omega)
    by_cases hlt : k < h
    · cases hl : lh k with
      | true =>
        have HS := Lib.hid (Year.mh_leap k hl)
        have K := fun W => rleap_any k W (by omega) (by omega)
        rw [hl] at K
        have K := Lib.hid K
        clear hl
        go_wp2_with (go_at_call 168; refine (K.out _).mono ?_; rintro e w' ⟨rfl, n, rfl⟩)
        go_round
        case rel => exact ⟨⟨k + 1, by omega, by omega, rfl, by rw [HS.out, Int.add_assoc]; rfl⟩, _, rfl⟩
        case measure => simp [intOf]; omega
      | false =>
        have HS := Lib.hid (Year.mh_common k hl)
        have K := fun W => rleap_any k W (by omega) (by omega)
        rw [hl] at K
        have K := Lib.hid K
        clear hl
        go_wp2_with (go_at_call 168; refine (K.out _).mono ?_; rintro e w' ⟨rfl, n, rfl⟩)
        go_round
        case rel => exact ⟨⟨k + 1, by omega, by omega, rfl, by rw [HS.out]⟩, _, rfl⟩
        case measure => simp [intOf]; omega
    · obtain rfl : k = h := by omega
      go_wp2_with fail
      go_ret
      exact ⟨rfl, _, rfl⟩

theorem rmolad_any (h : Int) (w : World) (h1 : 2 ≤ h) (h2 : h ≤ 10000) :
    Calls Tryz.prog 165 #[.int .i64 h] w fun e w' => e = .returned (.agg #[.int .i64 (md h), .int .i64 (mp h)]) ∧ Later w w' := by
  have hb := Year.mh_bd h (by omega) h2
  have hp := Year.pt_bd h (by omega) h2
  have h0 : 0 ≤ 5604 + 765433 * mh h := by omega
  have hq : (5604 + 765433 * mh h) / 25920 ≤ 4000000 ∧ 0 ≤ (5604 + 765433 * mh h) / 25920 := by omega
  have K := Lib.hid (fun W => rmonths_any h W h1 h2)
  have e1 : md h = -1373427 + (5604 + 765433 * mh h) / 25920 := by unfold md pt; rw [Int.mul_comm]
  have e2 : mp h = (5604 + 765433 * mh h) % 25920 := by unfold mp pt; rw [Int.mul_comm]
  have E1 := Lib.hid e1
  have E2 := Lib.hid e2
  clear e1 e2
  go_enter Tryz.func165, Tryz.ntmps165
  go_wp2_with fail
  refine (K.out _).mono ?_
  rintro e w1 ⟨rfl, n, rfl⟩
  go_wp2_with fail
  refine bodyPost_ret (v := .agg #[.int .i64 (-1373427 + (5604 + 765433 * mh h) / 25920), .int .i64 ((5604 + 765433 * mh h) % 25920)]) (by simp [results, Tryz.results165, go_sem]) rfl ⟨?_, ?_⟩
  · rw [E1.out, E2.out]
  · exact ((gtrans ((Later.refl w).alloc _ _) (later_drewN _ _)).setCell (Nat.le_refl _) _).setCell (Nat.le_refl _) _

theorem rweekday_any (n : Int) (w : World) (h0 : -9223372036854775808 ≤ n) (h1 : n ≤ 9223372036854775807) :
    Calls Tryz.prog 97 #[.int .i64 n] w fun e w' => e = .returned (.int .i64 (n % 7)) ∧ ∃ k, w' = w.drewN k := by
  have K1 := Lib.hid (fun W => rmod_any n 7 W h0 h1 (by omega) (by omega))
  go_enter Tryz.func97, Tryz.ntmps97
  go_wp2_with fail
  refine (K1.out _).mono ?_
  rintro e w1 ⟨rfl, n1, rfl⟩
  go_wp2_with fail
  go_ret
  exact ⟨rfl, _, rfl⟩

theorem eqb {x y : Int} (h : x = y) : (x == y) = true := beq_iff_eq.2 h
theorem neb {x y : Int} (h : ¬ x = y) : (x == y) = false := beq_eq_false_iff_ne.2 h

theorem rput_late (h d p : Int) (l : Bool) (b : Bool) (w : World) (h1 : 2 ≤ h) (h2 : h ≤ 10000) (d0 : -4000000 ≤ d) (d1 : d ≤ 4000010)
    (kl : ∀ W, Calls Tryz.prog 168 #[.int .i64 h] W fun e w' => e = .returned (.bool l) ∧ ∃ n, w' = W.drewN n)
    (kb : ∀ W, Calls Tryz.prog 168 #[.int .i64 (h - 1)] W fun e w' => e = .returned (.bool b) ∧ ∃ n, w' = W.drewN n) (hp : 19440 ≤ p) :
    Calls Tryz.prog 177 #[.int .i64 h, .agg #[.int .i64 d, .int .i64 p]] w fun e w' => e = .returned (.int .i64 (p1 (d % 7) p l b)) ∧ Later w w' := by
  have HV := Lib.hid (show p1 (d % 7) p l b = 1 by unfold p1; rw [if_pos (Or.inl hp)])
  have KL := Lib.hid kl
  have KB := Lib.hid kb
  have KW := Lib.hid (fun W => rweekday_any d W (by omega) (by omega))
  clear kl kb
  go_enter Tryz.func177, Tryz.ntmps177
  go_wp2_with fail
  refine (KW.out _).mono ?_
  rintro e w1 ⟨rfl, n1, rfl⟩
  go_wp2_with fail
  refine (KL.out _).mono ?_
  rintro e w2 ⟨rfl, n2, rfl⟩
  go_wp2_with fail
  refine (KB.out _).mono ?_
  rintro e w3 ⟨rfl, n3, rfl⟩
  go_wp2_with fail
  go_ret
  exact ⟨ret1 HV.out.symm, (Later.refl w).alloc _ _⟩

theorem rput_tf (h d p : Int) (w : World) (h1 : 2 ≤ h) (h2 : h ≤ 10000) (d0 : -4000000 ≤ d) (d1 : d ≤ 4000010)
    (kl : ∀ W, Calls Tryz.prog 168 #[.int .i64 h] W fun e w' => e = .returned (.bool true) ∧ ∃ n, w' = W.drewN n)
    (kb : ∀ W, Calls Tryz.prog 168 #[.int .i64 (h - 1)] W fun e w' => e = .returned (.bool false) ∧ ∃ n, w' = W.drewN n) (hp : p < 19440) :
    Calls Tryz.prog 177 #[.int .i64 h, .agg #[.int .i64 d, .int .i64 p]] w fun e w' => e = .returned (.int .i64 (p1 (d % 7) p true false)) ∧ Later w w' := by
  have HV := Lib.hid (show p1 (d % 7) p true false = 0 by unfold p1; rw [if_neg (by simp; omega)])
  have KL := Lib.hid kl
  have KB := Lib.hid kb
  have KW := Lib.hid (fun W => rweekday_any d W (by omega) (by omega))
  clear kl kb
  go_enter Tryz.func177, Tryz.ntmps177
  go_wp2_with fail
  refine (KW.out _).mono ?_
  rintro e w1 ⟨rfl, n1, rfl⟩
  go_wp2_with fail
  refine (KL.out _).mono ?_
  rintro e w2 ⟨rfl, n2, rfl⟩
  go_wp2_with fail
  refine (KB.out _).mono ?_
  rintro e w3 ⟨rfl, n3, rfl⟩
  go_wp2_with fail
  go_ret
  exact ⟨ret1 HV.out.symm, (Later.refl w).alloc _ _⟩

theorem rput_tt_not (h d p : Int) (w : World) (h1 : 2 ≤ h) (h2 : h ≤ 10000) (d0 : -4000000 ≤ d) (d1 : d ≤ 4000010)
    (kl : ∀ W, Calls Tryz.prog 168 #[.int .i64 h] W fun e w' => e = .returned (.bool true) ∧ ∃ n, w' = W.drewN n)
    (kb : ∀ W, Calls Tryz.prog 168 #[.int .i64 (h - 1)] W fun e w' => e = .returned (.bool true) ∧ ∃ n, w' = W.drewN n) (hp : p < 19440) (v1 : ¬ d % 7 = 1) :
    Calls Tryz.prog 177 #[.int .i64 h, .agg #[.int .i64 d, .int .i64 p]] w fun e w' => e = .returned (.int .i64 (p1 (d % 7) p true true)) ∧ Later w w' := by
  have HV := Lib.hid (show p1 (d % 7) p true true = 0 by unfold p1; rw [if_neg (by simp; omega)])
  have KL := Lib.hid kl
  have KB := Lib.hid kb
  have KW := Lib.hid (fun W => rweekday_any d W (by omega) (by omega))
  clear kl kb
  have t0 := neb v1
  clear v1
  go_enter Tryz.func177, Tryz.ntmps177
  go_wp2_with fail
  refine (KW.out _).mono ?_
  rintro e w1 ⟨rfl, n1, rfl⟩
  go_wp2_with fail
  refine (KL.out _).mono ?_
  rintro e w2 ⟨rfl, n2, rfl⟩
  go_wp2_with fail
  refine (KB.out _).mono ?_
  rintro e w3 ⟨rfl, n3, rfl⟩
  go_wp2_with fail
  go_ret
  exact ⟨ret1 HV.out.symm, (Later.refl w).alloc _ _⟩

theorem rput_tt_low (h d p : Int) (w : World) (h1 : 2 ≤ h) (h2 : h ≤ 10000) (d0 : -4000000 ≤ d) (d1 : d ≤ 4000010)
    (kl : ∀ W, Calls Tryz.prog 168 #[.int .i64 h] W fun e w' => e = .returned (.bool true) ∧ ∃ n, w' = W.drewN n)
    (kb : ∀ W, Calls Tryz.prog 168 #[.int .i64 (h - 1)] W fun e w' => e = .returned (.bool true) ∧ ∃ n, w' = W.drewN n) (hp : p < 16789) (v1 : d % 7 = 1) :
    Calls Tryz.prog 177 #[.int .i64 h, .agg #[.int .i64 d, .int .i64 p]] w fun e w' => e = .returned (.int .i64 (p1 (d % 7) p true true)) ∧ Later w w' := by
  have HV := Lib.hid (show p1 (d % 7) p true true = 0 by unfold p1; rw [if_neg (by simp; omega)])
  have KL := Lib.hid kl
  have KB := Lib.hid kb
  have KW := Lib.hid (fun W => rweekday_any d W (by omega) (by omega))
  clear kl kb
  have t0 := eqb v1
  clear v1
  go_enter Tryz.func177, Tryz.ntmps177
  go_wp2_with fail
  refine (KW.out _).mono ?_
  rintro e w1 ⟨rfl, n1, rfl⟩
  go_wp2_with fail
  refine (KL.out _).mono ?_
  rintro e w2 ⟨rfl, n2, rfl⟩
  go_wp2_with fail
  refine (KB.out _).mono ?_
  rintro e w3 ⟨rfl, n3, rfl⟩
  go_wp2_with fail
  go_ret
  exact ⟨ret1 HV.out.symm, (Later.refl w).alloc _ _⟩

theorem rput_tt_high (h d p : Int) (w : World) (h1 : 2 ≤ h) (h2 : h ≤ 10000) (d0 : -4000000 ≤ d) (d1 : d ≤ 4000010)
    (kl : ∀ W, Calls Tryz.prog 168 #[.int .i64 h] W fun e w' => e = .returned (.bool true) ∧ ∃ n, w' = W.drewN n)
    (kb : ∀ W, Calls Tryz.prog 168 #[.int .i64 (h - 1)] W fun e w' => e = .returned (.bool true) ∧ ∃ n, w' = W.drewN n) (hp : p < 19440) (hq : 16789 ≤ p) (v1 : d % 7 = 1) :
    Calls Tryz.prog 177 #[.int .i64 h, .agg #[.int .i64 d, .int .i64 p]] w fun e w' => e = .returned (.int .i64 (p1 (d % 7) p true true)) ∧ Later w w' := by
  have HV := Lib.hid (show p1 (d % 7) p true true = 1 by unfold p1; rw [if_pos (by simp; omega)])
  have KL := Lib.hid kl
  have KB := Lib.hid kb
  have KW := Lib.hid (fun W => rweekday_any d W (by omega) (by omega))
  clear kl kb
  have t0 := eqb v1
  clear v1
  go_enter Tryz.func177, Tryz.ntmps177
  go_wp2_with fail
  refine (KW.out _).mono ?_
  rintro e w1 ⟨rfl, n1, rfl⟩
  go_wp2_with fail
  refine (KL.out _).mono ?_
  rintro e w2 ⟨rfl, n2, rfl⟩
  go_wp2_with fail
  refine (KB.out _).mono ?_
  rintro e w3 ⟨rfl, n3, rfl⟩
  go_wp2_with fail
  go_ret
  exact ⟨ret1 HV.out.symm, (Later.refl w).alloc _ _⟩

theorem rput_f_high (h d p : Int) (b : Bool) (w : World) (h1 : 2 ≤ h) (h2 : h ≤ 10000) (d0 : -4000000 ≤ d) (d1 : d ≤ 4000010)
    (kl : ∀ W, Calls Tryz.prog 168 #[.int .i64 h] W fun e w' => e = .returned (.bool false) ∧ ∃ n, w' = W.drewN n)
    (kb : ∀ W, Calls Tryz.prog 168 #[.int .i64 (h - 1)] W fun e w' => e = .returned (.bool b) ∧ ∃ n, w' = W.drewN n) (hp : p < 19440) (hq : 9924 ≤ p) (v2 : d % 7 = 2) :
    Calls Tryz.prog 177 #[.int .i64 h, .agg #[.int .i64 d, .int .i64 p]] w fun e w' => e = .returned (.int .i64 (p1 (d % 7) p false b)) ∧ Later w w' := by
  have HV := Lib.hid (show p1 (d % 7) p false b = 1 by unfold p1; rw [if_pos (by simp; omega)])
  have KL := Lib.hid kl
  have KB := Lib.hid kb
  have KW := Lib.hid (fun W => rweekday_any d W (by omega) (by omega))
  clear kl kb
  have t0 := eqb v2
  clear v2
  go_enter Tryz.func177, Tryz.ntmps177
  go_wp2_with fail
  refine (KW.out _).mono ?_
  rintro e w1 ⟨rfl, n1, rfl⟩
  go_wp2_with fail
  refine (KL.out _).mono ?_
  rintro e w2 ⟨rfl, n2, rfl⟩
  go_wp2_with fail
  refine (KB.out _).mono ?_
  rintro e w3 ⟨rfl, n3, rfl⟩
  go_wp2_with fail
  go_ret
  exact ⟨ret1 HV.out.symm, (Later.refl w).alloc _ _⟩

theorem rput_ff_low (h d p : Int) (w : World) (h1 : 2 ≤ h) (h2 : h ≤ 10000) (d0 : -4000000 ≤ d) (d1 : d ≤ 4000010)
    (kl : ∀ W, Calls Tryz.prog 168 #[.int .i64 h] W fun e w' => e = .returned (.bool false) ∧ ∃ n, w' = W.drewN n)
    (kb : ∀ W, Calls Tryz.prog 168 #[.int .i64 (h - 1)] W fun e w' => e = .returned (.bool false) ∧ ∃ n, w' = W.drewN n) (hp : p < 9924) (v2 : d % 7 = 2) :
    Calls Tryz.prog 177 #[.int .i64 h, .agg #[.int .i64 d, .int .i64 p]] w fun e w' => e = .returned (.int .i64 (p1 (d % 7) p false false)) ∧ Later w w' := by
  have HV := Lib.hid (show p1 (d % 7) p false false = 0 by unfold p1; rw [if_neg (by simp; omega)])
  have KL := Lib.hid kl
  have KB := Lib.hid kb
  have KW := Lib.hid (fun W => rweekday_any d W (by omega) (by omega))
  clear kl kb
  have t0 := eqb v2
  clear v2
  go_enter Tryz.func177, Tryz.ntmps177
  go_wp2_with fail
  refine (KW.out _).mono ?_
  rintro e w1 ⟨rfl, n1, rfl⟩
  go_wp2_with fail
  refine (KL.out _).mono ?_
  rintro e w2 ⟨rfl, n2, rfl⟩
  go_wp2_with fail
  refine (KB.out _).mono ?_
  rintro e w3 ⟨rfl, n3, rfl⟩
  go_wp2_with fail
  go_ret
  exact ⟨ret1 HV.out.symm, (Later.refl w).alloc _ _⟩

theorem rput_ft_low (h d p : Int) (w : World) (h1 : 2 ≤ h) (h2 : h ≤ 10000) (d0 : -4000000 ≤ d) (d1 : d ≤ 4000010)
    (kl : ∀ W, Calls Tryz.prog 168 #[.int .i64 h] W fun e w' => e = .returned (.bool false) ∧ ∃ n, w' = W.drewN n)
    (kb : ∀ W, Calls Tryz.prog 168 #[.int .i64 (h - 1)] W fun e w' => e = .returned (.bool true) ∧ ∃ n, w' = W.drewN n) (hp : p < 9924) (v2 : d % 7 = 2) (v1 : ¬ d % 7 = 1) :
    Calls Tryz.prog 177 #[.int .i64 h, .agg #[.int .i64 d, .int .i64 p]] w fun e w' => e = .returned (.int .i64 (p1 (d % 7) p false true)) ∧ Later w w' := by
  have HV := Lib.hid (show p1 (d % 7) p false true = 0 by unfold p1; rw [if_neg (by simp; omega)])
  have KL := Lib.hid kl
  have KB := Lib.hid kb
  have KW := Lib.hid (fun W => rweekday_any d W (by omega) (by omega))
  clear kl kb
  have t0 := eqb v2
  have t1 := neb v1
  clear v2 v1
  go_enter Tryz.func177, Tryz.ntmps177
  go_wp2_with fail
  refine (KW.out _).mono ?_
  rintro e w1 ⟨rfl, n1, rfl⟩
  go_wp2_with fail
  refine (KL.out _).mono ?_
  rintro e w2 ⟨rfl, n2, rfl⟩
  go_wp2_with fail
  refine (KB.out _).mono ?_
  rintro e w3 ⟨rfl, n3, rfl⟩
  go_wp2_with fail
  go_ret
  exact ⟨ret1 HV.out.symm, (Later.refl w).alloc _ _⟩

theorem rput_ff_not (h d p : Int) (w : World) (h1 : 2 ≤ h) (h2 : h ≤ 10000) (d0 : -4000000 ≤ d) (d1 : d ≤ 4000010)
    (kl : ∀ W, Calls Tryz.prog 168 #[.int .i64 h] W fun e w' => e = .returned (.bool false) ∧ ∃ n, w' = W.drewN n)
    (kb : ∀ W, Calls Tryz.prog 168 #[.int .i64 (h - 1)] W fun e w' => e = .returned (.bool false) ∧ ∃ n, w' = W.drewN n) (hp : p < 19440) (v2 : ¬ d % 7 = 2) :
    Calls Tryz.prog 177 #[.int .i64 h, .agg #[.int .i64 d, .int .i64 p]] w fun e w' => e = .returned (.int .i64 (p1 (d % 7) p false false)) ∧ Later w w' := by
  have HV := Lib.hid (show p1 (d % 7) p false false = 0 by unfold p1; rw [if_neg (by simp; omega)])
  have KL := Lib.hid kl
  have KB := Lib.hid kb
  have KW := Lib.hid (fun W => rweekday_any d W (by omega) (by omega))
  clear kl kb
  have t0 := neb v2
  clear v2
  go_enter Tryz.func177, Tryz.ntmps177
  go_wp2_with fail
  refine (KW.out _).mono ?_
  rintro e w1 ⟨rfl, n1, rfl⟩
  go_wp2_with fail
  refine (KL.out _).mono ?_
  rintro e w2 ⟨rfl, n2, rfl⟩
  go_wp2_with fail
  refine (KB.out _).mono ?_
  rintro e w3 ⟨rfl, n3, rfl⟩
  go_wp2_with fail
  go_ret
  exact ⟨ret1 HV.out.symm, (Later.refl w).alloc _ _⟩

theorem rput_ft_not (h d p : Int) (w : World) (h1 : 2 ≤ h) (h2 : h ≤ 10000) (d0 : -4000000 ≤ d) (d1 : d ≤ 4000010)
    (kl : ∀ W, Calls Tryz.prog 168 #[.int .i64 h] W fun e w' => e = .returned (.bool false) ∧ ∃ n, w' = W.drewN n)
    (kb : ∀ W, Calls Tryz.prog 168 #[.int .i64 (h - 1)] W fun e w' => e = .returned (.bool true) ∧ ∃ n, w' = W.drewN n) (hp : p < 19440) (v2 : ¬ d % 7 = 2) (v1 : ¬ d % 7 = 1) :
    Calls Tryz.prog 177 #[.int .i64 h, .agg #[.int .i64 d, .int .i64 p]] w fun e w' => e = .returned (.int .i64 (p1 (d % 7) p false true)) ∧ Later w w' := by
  have HV := Lib.hid (show p1 (d % 7) p false true = 0 by unfold p1; rw [if_neg (by simp; omega)])
  have KL := Lib.hid kl
  have KB := Lib.hid kb
  have KW := Lib.hid (fun W => rweekday_any d W (by omega) (by omega))
  clear kl kb
  have t0 := neb v2
  have t1 := neb v1
  clear v2 v1
  go_enter Tryz.func177, Tryz.ntmps177
  go_wp2_with fail
  refine (KW.out _).mono ?_
  rintro e w1 ⟨rfl, n1, rfl⟩
  go_wp2_with fail
  refine (KL.out _).mono ?_
  rintro e w2 ⟨rfl, n2, rfl⟩
  go_wp2_with fail
  refine (KB.out _).mono ?_
  rintro e w3 ⟨rfl, n3, rfl⟩
  go_wp2_with fail
  go_ret
  exact ⟨ret1 HV.out.symm, (Later.refl w).alloc _ _⟩

theorem rput_ft_l (h d p : Int) (w : World) (h1 : 2 ≤ h) (h2 : h ≤ 10000) (d0 : -4000000 ≤ d) (d1 : d ≤ 4000010)
    (kl : ∀ W, Calls Tryz.prog 168 #[.int .i64 h] W fun e w' => e = .returned (.bool false) ∧ ∃ n, w' = W.drewN n)
    (kb : ∀ W, Calls Tryz.prog 168 #[.int .i64 (h - 1)] W fun e w' => e = .returned (.bool true) ∧ ∃ n, w' = W.drewN n) (hp : p < 16789) (v2 : ¬ d % 7 = 2) (v1 : d % 7 = 1) :
    Calls Tryz.prog 177 #[.int .i64 h, .agg #[.int .i64 d, .int .i64 p]] w fun e w' => e = .returned (.int .i64 (p1 (d % 7) p false true)) ∧ Later w w' := by
  have HV := Lib.hid (show p1 (d % 7) p false true = 0 by unfold p1; rw [if_neg (by simp; omega)])
  have KL := Lib.hid kl
  have KB := Lib.hid kb
  have KW := Lib.hid (fun W => rweekday_any d W (by omega) (by omega))
  clear kl kb
  have t0 := neb v2
  have t1 := eqb v1
  clear v2 v1
  go_enter Tryz.func177, Tryz.ntmps177
  go_wp2_with fail
  refine (KW.out _).mono ?_
  rintro e w1 ⟨rfl, n1, rfl⟩
  go_wp2_with fail
  refine (KL.out _).mono ?_
  rintro e w2 ⟨rfl, n2, rfl⟩
  go_wp2_with fail
  refine (KB.out _).mono ?_
  rintro e w3 ⟨rfl, n3, rfl⟩
  go_wp2_with fail
  go_ret
  exact ⟨ret1 HV.out.symm, (Later.refl w).alloc _ _⟩

theorem rput_ft_h (h d p : Int) (w : World) (h1 : 2 ≤ h) (h2 : h ≤ 10000) (d0 : -4000000 ≤ d) (d1 : d ≤ 4000010)
    (kl : ∀ W, Calls Tryz.prog 168 #[.int .i64 h] W fun e w' => e = .returned (.bool false) ∧ ∃ n, w' = W.drewN n)
    (kb : ∀ W, Calls Tryz.prog 168 #[.int .i64 (h - 1)] W fun e w' => e = .returned (.bool true) ∧ ∃ n, w' = W.drewN n) (hp : p < 19440) (hq : 16789 ≤ p) (v2 : ¬ d % 7 = 2) (v1 : d % 7 = 1) :
    Calls Tryz.prog 177 #[.int .i64 h, .agg #[.int .i64 d, .int .i64 p]] w fun e w' => e = .returned (.int .i64 (p1 (d % 7) p false true)) ∧ Later w w' := by
  have HV := Lib.hid (show p1 (d % 7) p false true = 1 by unfold p1; rw [if_pos (by simp; omega)])
  have KL := Lib.hid kl
  have KB := Lib.hid kb
  have KW := Lib.hid (fun W => rweekday_any d W (by omega) (by omega))
  clear kl kb
  have t0 := neb v2
  have t1 := eqb v1
  clear v2 v1
  go_enter Tryz.func177, Tryz.ntmps177
  go_wp2_with fail
  refine (KW.out _).mono ?_
  rintro e w1 ⟨rfl, n1, rfl⟩
  go_wp2_with fail
  refine (KL.out _).mono ?_
  rintro e w2 ⟨rfl, n2, rfl⟩
  go_wp2_with fail
  refine (KB.out _).mono ?_
  rintro e w3 ⟨rfl, n3, rfl⟩
  go_wp2_with fail
  go_ret
  exact ⟨ret1 HV.out.symm, (Later.refl w).alloc _ _⟩

theorem rput_any (h d p : Int) (l b : Bool) (w : World) (h1 : 2 ≤ h) (h2 : h ≤ 10000) (d0 : -4000000 ≤ d) (d1 : d ≤ 4000010)
    (kl : ∀ W, Calls Tryz.prog 168 #[.int .i64 h] W fun e w' => e = .returned (.bool l) ∧ ∃ n, w' = W.drewN n)
    (kb : ∀ W, Calls Tryz.prog 168 #[.int .i64 (h - 1)] W fun e w' => e = .returned (.bool b) ∧ ∃ n, w' = W.drewN n) :
    Calls Tryz.prog 177 #[.int .i64 h, .agg #[.int .i64 d, .int .i64 p]] w fun e w' => e = .returned (.int .i64 (p1 (d % 7) p l b)) ∧ Later w w' := by
  by_cases hp : 19440 ≤ p
  · exact rput_late h d p l b w h1 h2 d0 d1 kl kb hp
  have hp : p < 19440 := by omega
  cases l with
  | true =>
    cases b with
    | false => exact rput_tf h d p w h1 h2 d0 d1 kl kb hp
    | true =>
      by_cases v1 : d % 7 = 1
      · by_cases hq : 16789 ≤ p
        · exact rput_tt_high h d p w h1 h2 d0 d1 kl kb hp hq v1
        · exact rput_tt_low h d p w h1 h2 d0 d1 kl kb (by omega) v1
      · exact rput_tt_not h d p w h1 h2 d0 d1 kl kb hp v1
  | false =>
    by_cases v2 : d % 7 = 2
    · by_cases hq : 9924 ≤ p
      · exact rput_f_high h d p b w h1 h2 d0 d1 kl kb hp hq v2
      · cases b with
        | false => exact rput_ff_low h d p w h1 h2 d0 d1 kl kb (by omega) v2
        | true => exact rput_ft_low h d p w h1 h2 d0 d1 kl kb (by omega) v2 (by omega)
    · cases b with
      | false => exact rput_ff_not h d p w h1 h2 d0 d1 kl kb hp v2
      | true =>
        by_cases v1 : d % 7 = 1
        · by_cases hq : 16789 ≤ p
          · exact rput_ft_h h d p w h1 h2 d0 d1 kl kb hp hq v2 v1
          · exact rput_ft_l h d p w h1 h2 d0 d1 kl kb (by omega) v2 v1
        · exact rput_ft_not h d p w h1 h2 d0 d1 kl kb hp v2 v1

end Go.Proofs.YtihdijkplmfhfaaGreatDoor.Mol

/- What the document's own delays, first days and lengths of years come to. Conditions: the years are from 2 to 10000, as each theorem says. -/
namespace Go.Proofs.YtihdijkplmfhfaaGreatDoor.Mol
set_option maxRecDepth 100000
open Go.ChangeShapes Go.WideShapes Go.ChangeAt Go.RowKit
open Go.Proofs.YtihdijkplmfhfaaGreatDoor.Divs Go.Proofs.YtihdijkplmfhfaaGreatDoor.Grow
open Go.Proofs.YtihdijkplmfhfaaGreatDoor.Year (lh mh pt md mp p1 p2 po dl ny yl)

theorem p2_shift (a x : Int) : p2 (a % 7 + x) = p2 (a + x) := by
  unfold p2
  rw [show (a % 7 + x) % 7 = (a + x) % 7 by omega]

theorem rdelay_any (h : Int) (w : World) (h1 : 2 ≤ h) (h2 : h ≤ 10000) :
    Calls Tryz.prog 166 #[.int .i64 h] w fun e w' => e = .returned (.int .i64 (dl h)) ∧ Later w w' := by
  have hb := Year.md_bd h (by omega) h2
  have hx := Year.p1_bd (md h % 7) (mp h) (lh h) (lh (h - 1))
  have KM := Lib.hid (fun W => rmolad_any h W h1 h2)
  have kp := fun W => rput_any h (md h) (mp h) (lh h) (lh (h - 1)) W h1 h2 (by omega) (by omega) (fun W => rleap_any h W (by omega) (by omega)) (fun W => rleap_any (h - 1) W (by omega) (by omega))
  have hv : dl h = p1 (md h % 7) (mp h) (lh h) (lh (h - 1)) + p2 (md h + p1 (md h % 7) (mp h) (lh h) (lh (h - 1))) := by
    rw [← p2_shift]
    rfl
  generalize p1 (md h % 7) (mp h) (lh h) (lh (h - 1)) = x at *
  have KP := Lib.hid kp
  have KW := Lib.hid (fun W => rweekday_any (md h + x) W (by omega) (by omega))
  clear kp
  rcases four ((md h + x) % 7) with t1 | ⟨t1, t2⟩ | ⟨t1, t2, t3⟩ | ⟨t1, t2, t3⟩
  · rw [p2_yes _ (Or.inl t1)] at hv
    have HV := Lib.hid hv
    clear hv
    go_enter Tryz.func166, Tryz.ntmps166
    go_wp2_with fail
    refine (KM.out _).mono ?_
    rintro e w1 ⟨rfl, hg1⟩
    go_wp2_with fail
    refine (KP.out _).mono ?_
    rintro e w2 ⟨rfl, hg2⟩
    have c0 : w2.cell? ⟨w1.heap.size, 0, none⟩ = some (.int .i64 (md h)) := gsome hg2 (by simp)
    go_wp2_with fail
    refine (KW.out _).mono ?_
    rintro e w3 ⟨rfl, n3, rfl⟩
    go_wp2_with fail
    go_ret
    exact ⟨ret1 (by rw [HV.out]), gtrans (hg1.alloc _ _) hg2⟩
  · rw [p2_yes _ (Or.inr (Or.inl t2))] at hv
    have HV := Lib.hid hv
    clear hv
    go_enter Tryz.func166, Tryz.ntmps166
    go_wp2_with fail
    refine (KM.out _).mono ?_
    rintro e w1 ⟨rfl, hg1⟩
    go_wp2_with fail
    refine (KP.out _).mono ?_
    rintro e w2 ⟨rfl, hg2⟩
    have c0 : w2.cell? ⟨w1.heap.size, 0, none⟩ = some (.int .i64 (md h)) := gsome hg2 (by simp)
    go_wp2_with fail
    refine (KW.out _).mono ?_
    rintro e w3 ⟨rfl, n3, rfl⟩
    go_wp2_with fail
    go_ret
    exact ⟨ret1 (by rw [HV.out]), gtrans (hg1.alloc _ _) hg2⟩
  · rw [p2_yes _ (Or.inr (Or.inr t3))] at hv
    have HV := Lib.hid hv
    clear hv
    go_enter Tryz.func166, Tryz.ntmps166
    go_wp2_with fail
    refine (KM.out _).mono ?_
    rintro e w1 ⟨rfl, hg1⟩
    go_wp2_with fail
    refine (KP.out _).mono ?_
    rintro e w2 ⟨rfl, hg2⟩
    have c0 : w2.cell? ⟨w1.heap.size, 0, none⟩ = some (.int .i64 (md h)) := gsome hg2 (by simp)
    go_wp2_with fail
    refine (KW.out _).mono ?_
    rintro e w3 ⟨rfl, n3, rfl⟩
    go_wp2_with fail
    go_ret
    exact ⟨ret1 (by rw [HV.out]), gtrans (hg1.alloc _ _) hg2⟩
  · rw [p2_no _ ⟨t1, t2, t3⟩] at hv
    have HV := Lib.hid hv
    clear hv
    go_enter Tryz.func166, Tryz.ntmps166
    go_wp2_with fail
    refine (KM.out _).mono ?_
    rintro e w1 ⟨rfl, hg1⟩
    go_wp2_with fail
    refine (KP.out _).mono ?_
    rintro e w2 ⟨rfl, hg2⟩
    have c0 : w2.cell? ⟨w1.heap.size, 0, none⟩ = some (.int .i64 (md h)) := gsome hg2 (by simp)
    go_wp2_with fail
    refine (KW.out _).mono ?_
    rintro e w3 ⟨rfl, n3, rfl⟩
    go_wp2_with fail
    go_ret
    exact ⟨ret1 (by rw [HV.out]; simp), gtrans (hg1.alloc _ _) hg2⟩

theorem rnewyear_any (h : Int) (w : World) (h1 : 2 ≤ h) (h2 : h ≤ 10000) :
    Calls Tryz.prog 145 #[.int .i64 h] w fun e w' => e = .returned (.int .i64 (ny h)) ∧ Later w w' := by
  have hb := Year.md_bd h (by omega) h2
  have hd := Year.dl_bd h
  have KM := Lib.hid (fun W => rmolad_any h W h1 h2)
  have KD := Lib.hid (fun W => rdelay_any h W h1 h2)
  go_enter Tryz.func145, Tryz.ntmps145
  go_wp2_with fail
  refine (KM.out _).mono ?_
  rintro e w1 ⟨rfl, hg1⟩
  go_wp2_with fail
  have x0 := gw_new w1 #[.int .i64 (md h), .int .i64 (mp h)] 188 0 (.int .i64 (md h)) rfl
  refine region_grown (by kernel_rfl) (by kernel_rfl) ?_
  repeat (go_big_quiet_step ((go_at_call 166; exact in_grown (KD.out _))))
  refine wpQuiet_nil (grown_end ?_)
  intro w2 hg2
  clear x0
  go_wp2_with fail
  go_ret
  exact ⟨ret1 rfl, gtrans (hg1.alloc _ _) hg2⟩

theorem rlen_any (h : Int) (w : World) (h1 : 2 ≤ h) (h2 : h ≤ 9999) :
    Calls Tryz.prog 147 #[.int .i64 h] w fun e w' => e = .returned (.int .i64 (yl h)) ∧ Later w w' := by
  have hb := Year.ny_bd h (by omega) (by omega)
  have hd := Year.ny_bd (h + 1) (by omega) (by omega)
  have K1 := Lib.hid (fun W => rnewyear_any (h + 1) W (by omega) (by omega))
  have K2 := Lib.hid (fun W => rnewyear_any h W (by omega) (by omega))
  go_enter Tryz.func147, Tryz.ntmps147
  go_wp2_with fail
  refine (K1.out _).mono ?_
  rintro e w1 ⟨rfl, hg1⟩
  go_wp2_with fail
  refine (K2.out _).mono ?_
  rintro e w2 ⟨rfl, hg2⟩
  go_wp2_with fail
  go_ret
  exact ⟨ret1 rfl, gtrans hg1 hg2⟩

end Go.Proofs.YtihdijkplmfhfaaGreatDoor.Mol
