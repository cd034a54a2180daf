/-
  Small facts on worlds that have grown ('Later': the outside, the output and every block that lay are as they were; new blocks lie behind them), and one walk through a region that draws its order where the calls in it make memory: in every world that has grown from the first each operation yields the same. No condition but those that each theorem states.
-/
import Derived.Test.YtmjedpaiccaddaaLeaf
import Derived.Below
namespace Go.Proofs.Ytmjedpaiccaddaa.Grow
open Go.ChangeShapes Go.WideShapes Go.ChangeAt Go.RowKit

/-- w' is w with new blocks behind it: nothing that lay has turned. -/
def Later (w w' : World) : Prop := (w'.os = w.os ∧ w'.tape = w.tape) ∧ w'.output = w.output ∧ w.heap.size ≤ w'.heap.size ∧ ∀ k, k < w.heap.size → w'.heap[k]? = w.heap[k]?

theorem Later.refl (w : World) : Later w w := ⟨⟨rfl, rfl⟩, rfl, Nat.le_refl _, fun _ _ => rfl⟩

theorem gtrans {a b c : World} (h : Later a b) (k : Later b c) : Later a c :=
  ⟨⟨k.1.1.trans h.1.1, k.1.2.trans h.1.2⟩, k.2.1.trans h.2.1, Nat.le_trans h.2.2.1 k.2.2.1, fun i hi => (k.2.2.2 i (Nat.lt_of_lt_of_le hi h.2.2.1)).trans (h.2.2.2 i hi)⟩

theorem Later.size {a b : World} (h : Later a b) : a.heap.size ≤ b.heap.size := h.2.2.1

theorem Later.put {a b : World} (h : Later a b) (o : Obj) : Later a (b.alloc o) :=
  gtrans h ⟨⟨rfl, rfl⟩, rfl, by simp, fun k hk => Below.heap_alloc _ _ _ hk⟩

theorem Later.alloc {a b : World} (h : Later a b) (c : Array Value) (t : TypeId) : Later a (b.alloc (.cells c t)) := h.put _

theorem Later.setCell {a b : World} (h : Later a b) {p : Addr} (hp : a.heap.size ≤ p.block) (u : Value) : Later a (b.setCell p u) :=
  ⟨h.1, h.2.1, by simpa [World.setCell] using h.2.2.1, fun k hk => (Below.heap_setCell _ _ _ _ (by omega)).trans (h.2.2.2 k hk)⟩

theorem Later.of_below {a b : World} (h : Below a.heap.size a b) : Later a b := ⟨⟨h.os, h.tape⟩, h.output, h.size, h.block⟩

theorem Later.below {a b : World} (h : Later a b) : Below a.heap.size a b := ⟨h.1.1, h.1.2, h.2.1, h.2.2.1, h.2.2.2⟩

theorem Later.grownBy {a b : World} (h : Later a b) : a.grownBy b none := ⟨h.1.1, h.1.2, h.2.1, h.2.2.1, fun k hk _ => h.2.2.2 k hk⟩

theorem Later.of_grownBy {a b : World} (h : a.grownBy b none) : Later a b := ⟨⟨h.os, h.tape⟩, h.output, h.size, fun k hk => h.block k hk (by simp)⟩

theorem later_drewN (w : World) (n : Nat) : Later w (w.drewN n) := Later.refl w

theorem Later.frame {a b : World} (h : Later a b) (may : MemPlace → Prop) : a.keptBut b may := by
  refine ⟨h.1.1, h.2.1, fun i hi => ?_⟩
  rw [h.2.2.2 i hi]
  split <;> simp_all

theorem gcell {W w1 : World} (h : Later W w1) (b o : Nat) (hb : b < W.heap.size) : w1.cell? ⟨b, o, none⟩ = W.cell? ⟨b, o, none⟩ :=
  World.cell?_of_block (w := W) (h.2.2.2 b hb)

theorem gfrozen {W w1 : World} (h : Later W w1) (b o : Nat) (hb : b < W.heap.size) : w1.frozen? ⟨b, o, none⟩ = W.frozen? ⟨b, o, none⟩ :=
  World.frozen?_of_block (w := W) (h.2.2.2 b hb)

theorem gsome {W w1 : World} (h : Later W w1) {a : Nat} {o : Nat} {v : Value} (hc : W.cell? ⟨a, o, none⟩ = some v) : w1.cell? ⟨a, o, none⟩ = some v :=
  (gcell h a o (World.block_lt_of_cell? _ _ hc)).trans hc

/-- A world that has grown from w. -/
structure Gw (w : World) where
  w' : World
  h : Later w w'

instance (w : World) : Nonempty (Gw w) := ⟨⟨w, Later.refl w⟩⟩

theorem gw_cell {w : World} {b o : Nat} {v : Value} (hc : w.cell? ⟨b, o, none⟩ = some v) : ∀ x : Gw w, x.w'.cell? ⟨b, o, none⟩ = some v := fun x => gsome x.h hc

theorem gw_new (w : World) (c : Array Value) (t : TypeId) (i : Nat) (v : Value) (hc : c[i]? = some v) : ∀ x : Gw (w.alloc (.cells c t)), x.w'.cell? ⟨w.heap.size, i, none⟩ = some v :=
  gw_cell (by rw [World.cell?_alloc_new]; exact hc)

/-- One walk in the order of the text serves every order, each operation quiet in every world that has grown from w. -/
theorem region_grown {P : Program} {id : Nat} {Q : Exit → Act → World → Prop} {a : Act} {w : World} {l : List Oper} (hm : P.follows .mixedOrders = true) (hB : Region.lexB .any l.toArray = true)
    (h : wpQuiet P l.toArray (fun w' => ∃ x : Gw w, w' = x.w') (fun a' => ∀ w', (∃ x : Gw w, w' = x.w') → Q .normal a' w') l a) : (Code.region id l.toArray true).wp P Q a w :=
  wp_region_quiet (C := fun w' => ∃ x : Gw w, w' = x.w') hm hB ⟨⟨w.drew, Later.refl w⟩, rfl⟩ h

theorem grown_end {w : World} {Q : World → Prop} (h : ∀ w', Later w w' → Q w') : ∀ w', (∃ x : Gw w, w' = x.w') → Q w' := by
  rintro _ ⟨x, rfl⟩
  exact h _ x.h

/-- A callee's contract, met in a world that has grown. -/
theorem in_grown {P : Program} {f : FuncId} {args : Array Value} {w : World} {x : Gw w} {v : Value}
    (h : Calls P f args x.w' fun e w' => e = .returned v ∧ Later x.w' w') : Calls P f args x.w' fun e w'' => e = .returned v ∧ ∃ y : Gw w, w'' = y.w' :=
  h.mono fun _ _ ⟨he, hg⟩ => ⟨he, ⟨_, gtrans x.h hg⟩, rfl⟩

theorem drewN_grown {w w' : World} (h : ∃ n, w' = w.drewN n) : Later w w' := by
  obtain ⟨n, rfl⟩ := h
  exact Later.refl w

theorem retb {a b : Bool} (h : a = b) : Ending.returned (.bool a) = .returned (.bool b) := by rw [h]

theorem same_g {w : World} {P : Program} {f : FuncId} {args : Array Value} {v : Value} (h : Calls P f args w fun e w' => e = .returned v ∧ w = w') : Calls P f args w fun e w' => e = .returned v ∧ Later w w' :=
  h.mono fun _ _ ⟨he, hw⟩ => ⟨he, hw ▸ Later.refl w⟩

theorem drew_g {w : World} {P : Program} {f : FuncId} {args : Array Value} {v : Value} (h : Calls P f args w fun e w' => e = .returned v ∧ ∃ n, w' = w.drewN n) : Calls P f args w fun e w' => e = .returned v ∧ Later w w' :=
  h.mono fun _ _ ⟨he, hw⟩ => ⟨he, drewN_grown hw⟩

/-- What a call leaves, where the arguments and variables hold no memory: nothing need be said of frozen places. -/
theorem post_bare {H : Type} {enc : TypeId × Value → H} {P : Program} {f : Func} {s : ChangeSpec} {apart fresh handsOn again : Bool} {W W' : World} {args : Array Value} {v : Value} {ds gs : List (DataW H)}
    (hW : DataW.Whole enc P f.params.toList s.vars apart W args.toList ds gs [])
    (hres : ∀ (b : Nat) (sp : Nat → Bool) (hd : Bool), DataW.TrodAll enc P W' b sp hd f.resultTypes.toList (v.resultList f.resultTypes.size) (s.fn H (ds ++ gs)).results [])
    (hargs : ∀ sp : Nat → Bool, DataW.TrodAll enc P W' 0 sp true f.params.toList args.toList (s.fn H (ds ++ gs)).args [])
    (hvars : ∀ sp : Nat → Bool, DataW.TrodVars enc P W' sp s.vars (s.fn H (ds ++ gs)).vars [])
    (hg : Later W W')
    (hok : ∀ (j : Nat) (t : TypeId) (r : Value), f.resultTypes[j]? = some t → (v.resultList f.resultTypes.size)[j]? = some r → Value.okWide P W' .any 0 t r) :
    s.post enc P f apart fresh handsOn again W args v W' :=
  ⟨ds, gs, [], [], [], [], hW, hres _ _ _, hargs _, hvars _, hg.frame _, fun _ =>
    ⟨hok, _, _, [], ⟨[], [], trodAll_append (hargs _) (hres _ _ _), hvars _, rfl, fun b off hp => by simp at hp, fun _ => List.nodup_nil⟩, fun p hp _ => by simp at hp⟩⟩

end Go.Proofs.Ytmjedpaiccaddaa.Grow
