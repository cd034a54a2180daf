/-
  A region that draws its order and ends in operations that come one behind the other (a making of memory and a store, say): what stands ahead of them is told operation by operation, as in Ea; behind it the end is walked in the order of the text. No condition but those that each theorem states.
-/
import Derived.Test.YtmjedpaiccaddaaEa
namespace Go.Proofs.Ytmjedpaiccaddaa.Each
open Go.ChangeShapes Go.WideShapes Go.ChangeAt Go.RowKit
open Go.Proofs.Ytmjedpaiccaddaa.Divs Go.Proofs.Ytmjedpaiccaddaa.Grow

/-- The first n have come up, no other. -/
def headL (m n : Nat) : Array Bool := ((List.range m).map fun i => decide (i < n)).toArray

structure UpN (ops : Array Oper) (V : Nat → Value → World → Prop) (a0 : Act) (w0 : World) (listed : Array Bool) (a : Act) (w : World) : Prop where
  late : Later w0 w
  defers : a.defers = a0.defers
  size : a.tmps.size = a0.tmps.size
  old : ∀ s, (∀ i o, ops[i]? = some o → o.dst = some s → listed.getD i false = false) → a.tmps[s]? = a0.tmps[s]?
  come : ∀ i o s, ops[i]? = some o → listed.getD i false = true → o.dst = some s → ∃ v, a.tmps[s]? = some v ∧ V i v w

theorem UpN.put {ops : Array Oper} {V : Nat → Value → World → Prop} {a0 a : Act} {w0 w' w'' : World} {listed : Array Bool} {i : Nat} {o : Oper} {v : Value} (hf : fitB ops a0.tmps.size = true) (hV : ∀ i v W W', V i v W → Later W W' → V i v W')
    (u : UpN ops V a0 w0 listed a w') (ho : ops[i]? = some o) (hlt : i < listed.size) (hv : V i v w'') (hg : Later w' w'') : UpN ops V a0 w0 (listed.setIfInBounds i true) (a.put o.dst v) w'' := by
  refine ⟨gtrans u.late hg, ?_, ?_, ?_, ?_⟩
  · cases o.dst <;> exact u.defers
  · cases hd : o.dst with
    | none => exact u.size
    | some d => simp [Act.put, u.size]
  · intro s hn
    have h1 : a.tmps[s]? = a0.tmps[s]? := u.old s (fun j q hq hd => by
      have := hn j q hq hd
      rw [getD_set hlt] at this
      simp at this
      simpa using this.2)
    cases hd : o.dst with
    | none => exact h1
    | some d =>
      have hne : d ≠ s := by
        rintro rfl
        have := hn i o ho hd
        rw [getD_set hlt] at this
        simp at this
      simp only [Act.put]
      rw [Array.getElem?_setIfInBounds_ne hne]
      exact h1
  · intro j q s hq hl' hd
    by_cases hji : j = i
    · subst hji
      obtain rfl : q = o := Option.some.inj (hq.symm.trans ho)
      refine ⟨v, ?_, hv⟩
      rw [hd]
      have := fit_in hf ho hd
      rw [← u.size] at this
      simp [Act.put, this]
    · rw [getD_set hlt] at hl'
      simp [hji] at hl'
      obtain ⟨x, hx, hx'⟩ := u.come j q s hq (by simpa using hl') hd
      refine ⟨x, ?_, hV _ _ _ _ hx' hg⟩
      cases hd' : o.dst with
      | none => exact hx
      | some d =>
        have hne : d ≠ s := by
          rintro rfl
          exact hji (fit_dst hf ho hq hd' hd)
        simp only [Act.put]
        rw [Array.getElem?_setIfInBounds_ne hne]
        exact hx

theorem listed_head {l : List Oper} {n : Nat} {listed : Array Bool} (inv : HeadInv .any l.toArray n listed) (h : ∀ i, i < n → listed.getD i false = true) : listed = headL l.length n := by
  have hz : listed.size = l.length := by rw [inv.size]; simp
  apply Array.ext
  · rw [hz]; simp [headL]
  · intro i h1 h2
    simp only [headL, List.getElem_toArray, List.getElem_map, List.getElem_range]
    by_cases hi : i < n
    · have := h i hi
      rw [Array.getD_eq_getD_getElem?, Array.getElem?_eq_getElem h1] at this
      simp at this
      simp [this, hi]
    · have := inv.tail i (by omega) (by simpa [hz] using (by omega : i < l.length))
      rw [Array.getD_eq_getD_getElem?, Array.getElem?_eq_getElem h1] at this
      simp at this
      simp [this, hi]

theorem region_tail {P : Program} {id : Nat} {Q : Exit → Act → World → Prop} {a0 : Act} {w : World} {l : List Oper} (n : Nat) (V : Nat → Value → World → Prop) (hm : P.follows .mixedOrders = true) (hf : fitB l.toArray a0.tmps.size = true)
    (hsk : Region.sinkB .any l.toArray n = true) (hch : Region.chainB .any l.toArray n = true) (hn : n < l.length) (hsq : Region.seqB .any l.toArray (l.length - n) n (headL l.length n) = true) (hl0 : leftN (headL l.length n) = l.length - n)
    (hV : ∀ i v W W', V i v W → Later W W' → V i v W')
    (hs : ∀ i, i < n → Step P l.toArray Q V a0 w i)
    (hq : ∀ a w', Later w w' → a.defers = a0.defers → a.tmps.size = a0.tmps.size → (∀ s, (∀ (j : Nat) (q : Oper), j < n → l.toArray[j]? = some q → q.dst ≠ some s) → a.tmps[s]? = a0.tmps[s]?) → (∀ (i : Nat) (o : Oper) (s : Tmp), i < n → l.toArray[i]? = some o → o.dst = some s → ∃ v, a.tmps[s]? = some v ∧ V i v w') → wpList P l.toArray Q (l.drop n) a w') :
    (Code.region id l.toArray true).wp P Q a0 w := by
  refine wp_region_any hm ?_
  have key : ∀ fuel listed a w', leftN listed = fuel → HeadInv .any l.toArray n listed → UpN l.toArray V a0 w listed a w' → wpAny P .any l.toArray Q fuel listed a w' := by
    intro fuel
    induction fuel with
    | zero =>
      intro listed a w' hz inv u
      exfalso
      have h1 := left_none hz n
      rw [inv.tail n (Nat.le_refl _) (by simpa using hn)] at h1
      cases h1
    | succ fuel ih =>
      intro listed a w' hz inv u
      have hls : listed.size = l.length := by rw [inv.size]; simp
      by_cases hall : ∀ i, i < n → listed.getD i false = true
      · have e := listed_head inv hall
        have hfu : fuel + 1 = (l.drop n).length := by rw [← hz, e, hl0]; simp
        rw [hfu]
        refine wpAny_of_seq (l.drop n) n listed a w' (fun j => by simp [List.getElem?_drop]) ?_ ?_
        · rw [e]
          simpa using hsq
        · exact hq a w' u.late u.defers u.size (fun s hns => u.old s (fun i o ho hd => by
            by_cases hi : i < n
            · exact absurd hd (hns i o hi ho)
            · exact getD_both (inv.tail i (by omega) (Array.getElem?_eq_some_iff.1 ho).1))) (fun i o s hi ho hd => u.come i o s ho (hall i hi) hd)
      · obtain ⟨i0, hi0n, hi0⟩ : ∃ i, i < n ∧ listed.getD i false = false := by
          obtain ⟨i, hi⟩ := Classical.not_forall.1 hall
          obtain ⟨h1, h2⟩ := Classical.not_imp.1 hi
          exact ⟨i, h1, by simpa using h2⟩
        have hi0t : listed.getD i0 true = false := getD_in (by omega) hi0
        refine ⟨fun hr => ?_, fun i hi => ?_⟩
        · exfalso
          have := all_up hf (by rw [hls]; simp) hr i0 (by simp; omega)
          rw [hi0] at this
          cases this
        · have hin : i < n := by
            rcases Nat.lt_or_ge i n with h | h
            · exact h
            · exact absurd hi (tail_waits hsk hch (by simpa using hn) inv _ i0 rfl hi0n hi0t i h)
          obtain ⟨hi1, o, ho, hdep⟩ := mem_ready.1 hi
          have hlt : i < listed.size := by omega
          have hlf := left_set hi1
          have hst := (show Step P l.toArray Q V a0 w i from hs i hin) o ho a w' u.late (fun s hns => u.old s (fun j q hq hd => absurd hd (hns j q hq))) (by
            intro j hj q s hq hd
            obtain ⟨e, he, rfl⟩ := List.mem_map.1 hj
            obtain ⟨he1, he2⟩ := List.mem_filter.1 he
            exact u.come e.on q s hq (hdep e (Array.mem_toList_iff.1 he1) he2) hd)
          unfold wpOp
          rw [ho]
          show if Region.wanted o (yielded l.toArray a.tmps) = true then _ else _
          split
          · rename_i hw
            rw [if_pos hw] at hst
            refine .inl (Oper.wp_mono ?_ hst)
            rintro a' w'' ⟨v, rfl, hv, hg⟩
            exact ih _ _ _ (by omega) (inv.set hi hin) (u.put hf hV ho hlt hv hg)
          · rename_i hw
            rw [if_neg hw] at hst
            exact ih _ _ _ (by omega) (inv.set hi hin) (u.put hf hV ho hlt hst (Later.refl _))
  refine key _ _ _ _ ?_ ⟨by simp, fun j oj _ hl => (by rw [getD_replicate_false] at hl; cases hl), fun t _ ht => getD_in (by simpa using ht) (getD_replicate_false _ _)⟩ ⟨Later.refl w, rfl, rfl, fun _ _ => rfl, fun i o s ho hl _ => ?_⟩
  · unfold leftN
    simp [List.countP_replicate]
  · rw [getD_replicate_false] at hl
    cases hl

end Go.Proofs.Ytmjedpaiccaddaa.Each
