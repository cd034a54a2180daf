/-
  What the library's sorting and compacting of numbers do, in blocks that are one's own.  Conditions: as each theorem states.
-/
import Derived.Test.YtmjedpaiccaddaaXm
import Derived.Test.YtmjedpaiccaddaaXb
import Derived.Test.YtmjedpaiccaddaaLy
import Derived.Shelf.SlicesG.CompactI
import Derived.Shelf.SortM.AssemblyIn
import Derived.Sort.EveryDepth
namespace Go.Proofs.Ytmjedpaiccaddaa.Span
set_option maxRecDepth 100000
open Go.ChangeShapes Go.WideShapes Go.ChangeAt Go.RowKit Go.Sort
open Go.Proofs.Ytmjedpaiccaddaa.Divs Go.Proofs.Ytmjedpaiccaddaa.Grow
open Go.Proofs.Ytmjedpaiccaddaa.By (Sk SL)
open Go.Proofs.Ytmjedpaiccaddaa.Sp

/-- The block g is one of numbers. -/
def Nb (W : World) (g : Nat) : Prop := ∃ cs, RA W g cs 3

/-- It holds these ahead. -/
def RI (W : World) (g : Nat) (E : List Int) : Prop := ∃ cs, RA W g cs 3 ∧ ∀ (i : Nat) (x : Int), E[i]? = some x → cs[i]? = some (.int .i64 x)

theorem RI.cell {W : World} {g i : Nat} {E : List Int} {x : Int} (h : RI W g E) (hi : E[i]? = some x) : W.cell? ⟨g, i, none⟩ = some (.int .i64 x) := by
  obtain ⟨cs, h1, h2⟩ := h
  exact h1.cell i _ (h2 i x hi)

/-- Blocks of numbers stay. -/
def Stays (W W' : World) : Prop := ∀ g cs, RA W g cs 3 → RA W' g cs 3

theorem Stays.ri {W W' : World} {g : Nat} {E : List Int} (h : Stays W W') (r : RI W g E) : RI W' g E := by
  obtain ⟨cs, h1, h2⟩ := r
  exact ⟨cs, h g cs h1, h2⟩

theorem stays_later {W W' : World} (h : Later W W') : Stays W W' := fun _ _ r => r.later h
theorem Stays.trans {a b c : World} (h : Stays a b) (k : Stays b c) : Stays a c := fun g cs r => k g cs (h g cs r)

theorem ri_holds {W : World} {g : Nat} {E F : List Int} (h1 : Nb W g) (h2 : Holds (Value.int .i64) W g 0 (E ++ F).toArray) : RI W g E := by
  obtain ⟨cs, h⟩ := h1
  refine ⟨cs, h, fun i x hx => ?_⟩
  have hi : i < E.length := (List.getElem?_eq_some_iff.1 hx).1
  have hi' : i < (E ++ F).toArray.size := by simp; omega
  have c := (h2 i hi').1
  have e : (E ++ F).toArray[i]! = x := by
    rw [getElem!_pos _ i hi']
    simp only [List.getElem_toArray]
    rw [List.getElem_append_left hi]
    rw [List.getElem?_eq_getElem hi] at hx
    exact Option.some.inj hx
  rw [e, Nat.zero_add] at c
  unfold RA at h
  simpa [World.cell?, h] using c

theorem nb_row {W : World} {g : Nat} (h : Nb W g) (n : Nat) (d : Array Int) (os : Array Obj) : Nb (grow (putRow (Value.int .i64) (Sort.ahead W n) g 0 d) os) g := by
  obtain ⟨cs, h⟩ := h
  have hlt := h.lt
  refine ⟨putCells (Value.int .i64) 0 d cs, ?_⟩
  unfold RA at *
  show ((W.heap.modify g _) ++ os)[g]? = _
  rw [Array.getElem?_append_left (by simpa using hlt), Array.getElem?_modify, if_pos rfl, h]
  rfl

theorem later_row {W0 W : World} (h : Later W0 W) {g : Nat} (hg : W0.heap.size ≤ g) (n : Nat) (d : Array Int) (os : Array Obj) : Later W0 (grow (putRow (Value.int .i64) (Sort.ahead W n) g 0 d) os) := by
  refine ⟨h.1, h.2.1, ?_, fun k hk => ?_⟩
  · rw [size_grow]
    have : (putRow (Value.int .i64) (Sort.ahead W n) g 0 d).heap.size = W.heap.size := by
      show (W.heap.modify g _).size = _
      simp
    have := h.2.2.1
    omega
  · have hW : k < W.heap.size := Nat.lt_of_lt_of_le hk h.2.2.1
    have : (grow (putRow (Value.int .i64) (Sort.ahead W n) g 0 d) os).heap[k]? = W.heap[k]? := by
      show ((W.heap.modify g _) ++ os)[k]? = _
      rw [Array.getElem?_append_left (by simpa using hW), Array.getElem?_modify, if_neg (by omega)]
    rw [this]
    exact h.2.2.2 k hk

theorem holds_os {W : World} {g : Nat} {d : Array Int} (h : Holds (Value.int .i64) W g 0 d) (hg : g < W.heap.size) (os : Array Obj) : Holds (Value.int .i64) (grow W os) g 0 d := holds_grow _ W os g 0 d hg h

theorem sort_any (zs : List Int) (g n cap : Nat) (W0 W : World) (hN : Nb W g) (hH : Holds (Value.int .i64) W g 0 zs.toArray) (hn : zs.length = n) (hb : n ≤ 5000) (hl : Later W0 W) (hg : W0.heap.size ≤ g) :
    Calls Try.prog 37 #[.slice (some ⟨g, 0, none⟩) n cap] W fun e w' => e = .returned (.tuple #[]) ∧ Nb w' g ∧ Holds (Value.int .i64) w' g 0 (zs.mergeSort fun x y => decide (x ≤ y)).toArray ∧ Later W0 w' := by
  have hlt : g < W.heap.size := by obtain ⟨cs, h⟩ := hN; exact h.lt
  have K := calls_of_every_depth fun D => AnySM.slices_Sort_int_in Ly.LS D g 0 cap zs W hH hlt (by omega)
  change Calls Try.prog 37 _ _ _ at K
  rw [hn] at K
  refine K.mono ?_
  rintro e w' ⟨rfl, m, os, rfl⟩
  refine ⟨rfl, nb_row hN m _ os, ?_, later_row hl hg m _ os⟩
  refine holds_os (holds_putRow _ _ _ _ zs.toArray _ hH (by simp [List.length_mergeSort])) ?_ os
  show g < (W.heap.modify g _).size
  simpa using hlt

theorem comp_any (zs : List Int) (g n cap : Nat) (W0 W : World) (hN : Nb W g) (hH : Holds (Value.int .i64) W g 0 zs.toArray) (hn : zs.length = n) (hb : n ≤ 5000) (hc : n ≤ cap) (hl : Later W0 W) (hg : W0.heap.size ≤ g) :
    Calls Try.prog 38 #[.slice (some ⟨g, 0, none⟩) n cap] W fun e w' => e = .returned (.slice (some ⟨g, 0, none⟩) (Lib.compact zs).length cap) ∧ RI w' g (Lib.compact zs) ∧ Later W0 w' := by
  have K := AnyG.slices_Compact_int Ly.LP g 0 cap zs W hH (by omega) (by omega)
  change Calls Try.prog 38 _ _ _ at K
  rw [hn] at K
  refine K.mono ?_
  rintro e w' ⟨rfl, m, rfl⟩
  have hcl : (Lib.compact zs).length ≤ zs.length := by
    unfold Lib.compact Lib.compactUpTo
    rw [List.length_map]
    refine Nat.le_trans (List.length_filter_le _ _) ?_
    simp
  refine ⟨rfl, ri_holds (F := List.replicate (n - (Lib.compact zs).length) 0) ?_ ?_, ?_⟩
  · have := nb_row hN m (Lib.compact zs ++ List.replicate (n - (Lib.compact zs).length) 0).toArray #[]
    rwa [grow_empty] at this
  · exact holds_putRow _ _ _ _ zs.toArray _ hH (by simp; omega)
  · have := later_row hl hg m (Lib.compact zs ++ List.replicate (n - (Lib.compact zs).length) 0).toArray #[]
    rwa [grow_empty] at this

end Go.Proofs.Ytmjedpaiccaddaa.Span
