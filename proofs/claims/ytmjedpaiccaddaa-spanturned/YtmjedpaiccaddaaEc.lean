/-
  A region that draws its order, whose head comes first and feeds a chain of operations, behind which a few more come in any order: the chain walked as a list, what follows told order by order.  No condition but those that each theorem states.
-/
import Derived.Test.YtmjedpaiccaddaaEb
namespace Go.Proofs.Ytmjedpaiccaddaa.Each
open Go.ChangeShapes Go.WideShapes Go.ChangeAt Go.RowKit
open Go.Proofs.Ytmjedpaiccaddaa.Divs Go.Proofs.Ytmjedpaiccaddaa.Grow

/-- Where what is normal goes on otherwise. -/
def Qr (Q : Exit → Act → World → Prop) (N : Act → World → Prop) : Exit → Act → World → Prop := fun e a w => match e with | .normal => N a w | e => Q e a w

theorem letsout_qr {Q : Exit → Act → World → Prop} {N : Act → World → Prop} (h : LetsOut (Qr Q N)) : LetsOut Q := h

theorem wp_qr {P : Program} {o : Oper} {a : Act} {w : World} {K : Act → World → Prop} {Q : Exit → Act → World → Prop} {N : Act → World → Prop} (hh : o.wp P a w K (Qr Q N)) : o.wp P a w K Q := by
  unfold Oper.wp at *
  generalize (execOp a.eval o).run P w = r at *
  cases r with
  | ok n w' =>
    cases n <;> simp only [Oper.upon] at hh ⊢ <;>
      first
        | exact hh
        | exact Calls.mono hh (fun e w'' he => by cases e <;> exact he)
        | exact Rows.mono hh (fun _ _ he => he)
  | halt x w' => cases x <;> simp only [Oper.upon] at hh ⊢ <;> exact hh

/-- One operation walked as a list. -/
theorem op_of_list {P : Program} {ops : Array Oper} {Q : Exit → Act → World → Prop} {N : Act → World → Prop} {i : Nat} {o : Oper} {l : List Oper} {a : Act} {w : World} (ho : ops[i]? = some o) (h : wpList P ops (Qr Q N) (o :: l) a w) : wpOp P ops Q i (wpList P ops (Qr Q N) l) a w := by
  unfold wpOp
  simp only [ho]
  unfold wpList at h
  split
  · rename_i hw
    rw [if_pos hw] at h
    exact h.imp wp_qr (fun x => ⟨x.1, letsout_qr x.2⟩)
  · rename_i hw
    rw [if_neg hw] at h
    exact h

/-- One operation, then the others. -/
theorem any_one {P : Program} {ops : Array Oper} {Q : Exit → Act → World → Prop} {f i : Nat} {o : Oper} {listed : Array Bool} {a : Act} {w : World} (ho : ops[i]? = some o)
    (h : wpList P ops (Qr Q (wpAny P .any ops Q f (listed.setIfInBounds i true))) [o] a w) : wpOp P ops Q i (wpAny P .any ops Q f (listed.setIfInBounds i true)) a w :=
  wpOp_mono (fun _ _ h' => h') (op_of_list ho h)

def seqC (ops : Array Oper) : Nat → Nat → Array Bool → Bool
  | 0, _, _ => true
  | g + 1, k, listed => decide (Region.ready .any ops listed = [k]) && seqC ops g (k + 1) (listed.setIfInBounds k true)

def lstC : Nat → Nat → Array Bool → Array Bool
  | 0, _, listed => listed
  | g + 1, k, listed => lstC g (k + 1) (listed.setIfInBounds k true)

theorem any_of_chain {P : Program} {ops : Array Oper} {Q : Exit → Act → World → Prop} {f : Nat} : ∀ (l : List Oper) (k : Nat) (listed : Array Bool) (a : Act) (w : World), (∀ j, j < l.length → l[j]? = ops[k + j]?) →
    seqC ops l.length k listed = true → wpList P ops (Qr Q (wpAny P .any ops Q f (lstC l.length k listed))) l a w → wpAny P .any ops Q (f + l.length) listed a w
  | [], _, _, _, _, _, _, h => h
  | o :: l, k, listed, a, w, hl, hB, h => by
    have h0 : ops[k]? = some o := by simpa using (hl 0 (by simp)).symm
    simp only [List.length_cons, seqC, Bool.and_eq_true, decide_eq_true_eq] at hB
    refine ⟨fun h1 => (by rw [hB.1] at h1; cases h1), fun i hi => ?_⟩
    rw [hB.1] at hi
    have hik : i = k := by simpa using hi
    subst hik
    exact wpOp_mono (fun a' w' h' => any_of_chain l (i + 1) _ a' w' (fun j hj => by have := hl (j + 1) (by simp; omega); simpa [Nat.add_assoc, Nat.add_comm 1 j] using this) hB.2 h') (op_of_list h0 h)

/-- Each that comes behind the n-th waits for one from there on. -/
def laterB (md : Region.Mode) (ops : Array Oper) (n : Nat) : Bool :=
  (List.range ops.size).all fun t => decide (t ≤ n) || (List.range t).any fun j => decide (n ≤ j) && Region.waitsFor md ops t j

theorem tail_waits2 {md : Region.Mode} {ops : Array Oper} {n : Nat} {listed : Array Bool} (hs : Region.sinkB md ops n = true) (hc : laterB md ops n = true) (hn : n < ops.size) (inv : HeadInv md ops n listed) :
    ∀ (d i : Nat), n - i = d → i < n → listed.getD i true = false → ∀ t, n ≤ t → t ∉ Region.ready md ops listed := by
  intro d
  induction d using Nat.strongRecOn with
  | _ d ih =>
    intro i hd hi hun t ht hr
    obtain ⟨_, ot, hot, hall⟩ := mem_ready.1 hr
    have htlt : t < ops.size := (Array.getElem?_eq_some_iff.1 hot).1
    by_cases htn : t = n
    · subst htn
      have h1 := List.all_eq_true.1 hs i (List.mem_range.2 hi)
      obtain ⟨j, hj, hj2⟩ := List.any_eq_true.1 h1
      simp only [Bool.and_eq_true, decide_eq_true_eq] at hj2
      obtain ⟨oj, hoj, e, he, hb, hon⟩ := Region.waitsFor_spec hj2.2
      have hjle : j ≤ t := by have := List.mem_range.1 hj; omega
      by_cases hjt : j = t
      · subst hjt
        have : oj = ot := Option.some.inj (hoj.symm.trans hot)
        subst this
        have h2 := hall e he hb
        rw [hon, getD_both hun] at h2
        cases h2
      · cases hl : listed.getD j false with
        | true =>
          have h2 := inv.closed j oj hoj hl e he hb
          rw [hon, getD_both hun] at h2
          cases h2
        | false =>
          have hjs : j < listed.size := by rw [inv.size]; omega
          exact ih (t - j) (by omega) j rfl (by omega) (getD_in hjs hl) t (Nat.le_refl _) hr
    · have h1 := List.all_eq_true.1 hc t (List.mem_range.2 htlt)
      simp only [Bool.or_eq_true, decide_eq_true_eq] at h1
      rcases h1 with h1 | h1
      · omega
      · obtain ⟨j, hj, hj2⟩ := List.any_eq_true.1 h1
        simp only [Bool.and_eq_true, decide_eq_true_eq] at hj2
        obtain ⟨oj, hoj, e, he, hb, hon⟩ := Region.waitsFor_spec hj2.2
        have : oj = ot := Option.some.inj (hoj.symm.trans hot)
        subst this
        have h2 := hall e he hb
        have hjt : j < t := List.mem_range.1 hj
        rw [hon, getD_both (inv.tail j hj2.1 (by omega))] at h2
        cases h2

theorem region_mid {P : Program} {id : Nat} {Q : Exit → Act → World → Prop} {a0 : Act} {w : World} {l : List Oper} (n : Nat) (V : Nat → Value → World → Prop) (hm : P.follows .mixedOrders = true) (hf : fitB l.toArray a0.tmps.size = true)
    (hsk : Region.sinkB .any l.toArray n = true) (hch : laterB .any l.toArray n = true) (hn : n < l.length) (hl0 : leftN (headL l.length n) = l.length - n)
    (hV : ∀ i v W W', V i v W → Later W W' → V i v W')
    (hs : ∀ i, i < n → Step P l.toArray Q V a0 w i)
    (hq : ∀ a w', Later w w' → a.defers = a0.defers → a.tmps.size = a0.tmps.size → (∀ s, (∀ (j : Nat) (q : Oper), j < n → l.toArray[j]? = some q → q.dst ≠ some s) → a.tmps[s]? = a0.tmps[s]?) → (∀ (i : Nat) (o : Oper) (s : Tmp), i < n → l.toArray[i]? = some o → o.dst = some s → ∃ v, a.tmps[s]? = some v ∧ V i v w') → wpAny P .any l.toArray Q (l.length - n) (headL l.length n) a w') :
    (Code.region id l.toArray true).wp P Q a0 w := by
  refine wp_region_any hm ?_
  have key : ∀ fuel listed a w', leftN listed = fuel → HeadInv .any l.toArray n listed → UpN l.toArray V a0 w listed a w' → wpAny P .any l.toArray Q fuel listed a w' := by
    intro fuel
    induction fuel with
    | zero =>
      intro listed a w' hz inv u
      exfalso
      have h1 := left_none hz n
      rw [inv.tail n (Nat.le_refl _) (by simpa using hn)] at h1
      cases h1
    | succ fuel ih =>
      intro listed a w' hz inv u
      have hls : listed.size = l.length := by rw [inv.size]; simp
      by_cases hall : ∀ i, i < n → listed.getD i false = true
      · have e := listed_head inv hall
        have hfu : fuel + 1 = l.length - n := by rw [← hz, e, hl0]
        rw [hfu, e]
        exact hq a w' u.late u.defers u.size (fun s hns => u.old s (fun i o ho hd => by
            by_cases hi : i < n
            · exact absurd hd (hns i o hi ho)
            · exact getD_both (inv.tail i (by omega) (Array.getElem?_eq_some_iff.1 ho).1))) (fun i o s hi ho hd => u.come i o s ho (hall i hi) hd)
      · obtain ⟨i0, hi0n, hi0⟩ : ∃ i, i < n ∧ listed.getD i false = false := by
          obtain ⟨i, hi⟩ := Classical.not_forall.1 hall
          obtain ⟨h1, h2⟩ := Classical.not_imp.1 hi
          exact ⟨i, h1, by simpa using h2⟩
        have hi0t : listed.getD i0 true = false := getD_in (by omega) hi0
        refine ⟨fun hr => ?_, fun i hi => ?_⟩
        · exfalso
          have := all_up hf (by rw [hls]; simp) hr i0 (by simp; omega)
          rw [hi0] at this
          cases this
        · have hin : i < n := by
            rcases Nat.lt_or_ge i n with h | h
            · exact h
            · exact absurd hi (tail_waits2 hsk hch (by simpa using hn) inv _ i0 rfl hi0n hi0t i h)
          obtain ⟨hi1, o, ho, hdep⟩ := mem_ready.1 hi
          have hlt : i < listed.size := by omega
          have hlf := left_set hi1
          have hst := (show Step P l.toArray Q V a0 w i from hs i hin) o ho a w' u.late (fun s hns => u.old s (fun j q hq hd => absurd hd (hns j q hq))) (by
            intro j hj q s hq hd
            obtain ⟨e, he, rfl⟩ := List.mem_map.1 hj
            obtain ⟨he1, he2⟩ := List.mem_filter.1 he
            exact u.come e.on q s hq (hdep e (Array.mem_toList_iff.1 he1) he2) hd)
          unfold wpOp
          rw [ho]
          show if Region.wanted o (yielded l.toArray a.tmps) = true then _ else _
          split
          · rename_i hw
            rw [if_pos hw] at hst
            refine .inl (Oper.wp_mono ?_ hst)
            rintro a' w'' ⟨v, rfl, hv, hg⟩
            exact ih _ _ _ (by omega) (inv.set hi hin) (u.put hf hV ho hlt hv hg)
          · rename_i hw
            rw [if_neg hw] at hst
            exact ih _ _ _ (by omega) (inv.set hi hin) (u.put hf hV ho hlt hst (Later.refl _))
  refine key _ _ _ _ ?_ ⟨by simp, fun j oj _ hl => (by rw [getD_replicate_false] at hl; cases hl), fun t _ ht => getD_in (by simpa using ht) (getD_replicate_false _ _)⟩ ⟨Later.refl w, rfl, rfl, fun _ _ => rfl, fun i o s ho hl _ => ?_⟩
  · unfold leftN
    simp [List.countP_replicate]
  · rw [getD_replicate_false] at hl
    cases hl

theorem mid_chain {P : Program} {Q : Exit → Act → World → Prop} {l : List Oper} {listed : Array Bool} {a : Act} {w : World} (n g f : Nat) (hf : l.length - n = f + g) (hg : ((l.drop n).take g).length = g) (hs : seqC l.toArray g n listed = true)
    (h : wpList P l.toArray (Qr Q (wpAny P .any l.toArray Q f (lstC g n listed))) ((l.drop n).take g) a w) : wpAny P .any l.toArray Q (l.length - n) listed a w := by
  rw [hf]
  have := any_of_chain (P := P) (ops := l.toArray) (Q := Q) (f := f) ((l.drop n).take g) n listed a w (fun j hj => by
    rw [hg] at hj
    rw [List.getElem?_take_of_lt hj]
    simp [List.getElem?_drop]) (by rw [hg]; exact hs) (by rw [hg]; exact h)
  rwa [hg] at this

theorem any_two {P : Program} {ops : Array Oper} {Q : Exit → Act → World → Prop} {f i j : Nat} {oi oj : Oper} {listed : Array Bool} {a : Act} {w : World} (hr : Region.ready .any ops listed = [i, j]) (hoi : ops[i]? = some oi) (hoj : ops[j]? = some oj)
    (h1 : wpList P ops (Qr Q (wpAny P .any ops Q f (listed.setIfInBounds i true))) [oi] a w) (h2 : wpList P ops (Qr Q (wpAny P .any ops Q f (listed.setIfInBounds j true))) [oj] a w) : wpAny P .any ops Q (f + 1) listed a w := by
  refine ⟨fun h => (by rw [hr] at h; cases h), fun k hk => ?_⟩
  rw [hr] at hk
  simp only [List.mem_cons, List.not_mem_nil, or_false] at hk
  rcases hk with rfl | rfl
  · exact any_one hoi h1
  · exact any_one hoj h2

theorem any_single {P : Program} {ops : Array Oper} {Q : Exit → Act → World → Prop} {f i : Nat} {oi : Oper} {listed : Array Bool} {a : Act} {w : World} (hr : Region.ready .any ops listed = [i]) (hoi : ops[i]? = some oi)
    (h1 : wpList P ops (Qr Q (wpAny P .any ops Q f (listed.setIfInBounds i true))) [oi] a w) : wpAny P .any ops Q (f + 1) listed a w := by
  refine ⟨fun h => (by rw [hr] at h; cases h), fun k hk => ?_⟩
  rw [hr] at hk
  obtain rfl : k = i := by simpa using hk
  exact any_one hoi h1

theorem any_end {P : Program} {ops : Array Oper} {Q : Exit → Act → World → Prop} {listed : Array Bool} {a : Act} {w : World} (hr : Region.ready .any ops listed = []) (h : Q .normal a w) : wpAny P .any ops Q 0 listed a w := ⟨hr, h⟩

end Go.Proofs.Ytmjedpaiccaddaa.Each
