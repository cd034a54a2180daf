/-
  Texts of mine, merged: each part says what it holds. Conditions: as each theorem states.
-/
import Derived.Test.YtihdijkplmfhfaaGreatDoorRows
import Derived.Shelf.SlLaysF0
import Derived.Shelf.SlLaysE0
import Derived.Shelf.SlLaysH0
import Derived.Shelf.SlLaysM
import Derived.Shelf.SlLaysN
import Derived.Shelf.SlLaysC2
import Derived.Shelf.SlicesG.CompactI
import Derived.Shelf.SortM.AssemblyIn
import Derived.Sort.EveryDepth
import Derived.RangeFuncNested
import Derived.RangeFuncBound
import Derived.RangeFuncCalls
import Derived.RangeFuncLeaves
import Derived.Shelf.Abstract
import Derived.Shelf.RegionOpen
import Derived.WalkKit
import Derived.OwnWalkIn
import Derived.TacticsInMore
import Derived.LoopNIn
import Derived.LoopIn
import Derived.Maps.AppendAt
import Derived.Stop.RegionWithIn
import Derived.Sort.CutIn
import Derived.Shelf.SlicesQ.IndexFunc
import Derived.Laws.Cover1
import Derived.Test.YtihdijkplmfhfaaGreatDoorM15

/- The library's functions that this seat's texts lean on, laid at this seat's numbers: each body is the one that the library's contracts speak of. No condition. -/
namespace Go.Proofs.YtihdijkplmfhfaaGreatDoor.Ly
set_option maxRecDepth 100000
open Go.Shelf

def LI_ren : Go.Shelf.Ren := ⟨fun | 20 => 152 | n => n, fun | 24 => 56 | 22 => 36 | 3 => 3 | 25 => 141 | 4 => 4 | 0 => 0 | n => n, fun | n => n⟩
theorem LI : Go.Proofs.SlLaysF0.n20 Tryz.prog LI_ren := {
  mixed := by kernel_rfl,
  f20 := ⟨Tryz.f152.name, by decide, Tryz.func152.trans (congrArg some (by kernel_rfl))⟩,
  t0 := Tryz.underlying0,
  a0 := Tryz.isAgg0,
  z0 := Tryz.sizeOf0,
  v0 := Tryz.zeroValue0,
  t3 := Tryz.underlying3,
  a3 := Tryz.isAgg3,
  z3 := Tryz.sizeOf3,
  v3 := Tryz.zeroValue3,
  t4 := Tryz.underlying4,
  a4 := Tryz.isAgg4,
  z4 := Tryz.sizeOf4,
  v4 := Tryz.zeroValue4,
  t22 := Tryz.underlying36,
  a22 := Tryz.isAgg36,
  z22 := Tryz.sizeOf36,
  v22 := Tryz.zeroValue36,
  t25 := Tryz.underlying141,
  a25 := Tryz.isAgg141,
  z25 := Tryz.sizeOf141,
  v25 := Tryz.zeroValue141 }

def LR_ren : Go.Shelf.Ren := ⟨fun | 35 => 116 | n => n, fun | 22 => 36 | 23 => 56 | 3 => 3 | 4 => 4 | 0 => 0 | n => n, fun | n => n⟩
theorem LR : Go.Proofs.SlLaysE0.n35 Tryz.prog LR_ren := {
  mixed := by kernel_rfl,
  f35 := ⟨Tryz.f116.name, by decide, Tryz.func116.trans (congrArg some (by kernel_rfl))⟩,
  t0 := Tryz.underlying0,
  a0 := Tryz.isAgg0,
  z0 := Tryz.sizeOf0,
  v0 := Tryz.zeroValue0,
  t3 := Tryz.underlying3,
  a3 := Tryz.isAgg3,
  z3 := Tryz.sizeOf3,
  v3 := Tryz.zeroValue3,
  t4 := Tryz.underlying4,
  a4 := Tryz.isAgg4,
  z4 := Tryz.sizeOf4,
  v4 := Tryz.zeroValue4,
  t22 := Tryz.underlying36,
  a22 := Tryz.isAgg36,
  z22 := Tryz.sizeOf36,
  v22 := Tryz.zeroValue36 }

def LC_ren : Go.Shelf.Ren := ⟨fun | 41 => 115 | n => n, fun | 22 => 36 | 23 => 56 | 4 => 4 | n => n, fun | n => n⟩
theorem LC : Go.Proofs.SlLaysE0.n41 Tryz.prog LC_ren := {
  mixed := by kernel_rfl,
  f41 := ⟨Tryz.f115.name, by decide, Tryz.func115.trans (congrArg some (by kernel_rfl))⟩,
  t4 := Tryz.underlying4,
  a4 := Tryz.isAgg4,
  z4 := Tryz.sizeOf4,
  v4 := Tryz.zeroValue4,
  t22 := Tryz.underlying36,
  a22 := Tryz.isAgg36,
  z22 := Tryz.sizeOf36,
  v22 := Tryz.zeroValue36 }

def LF_ren : Go.Shelf.Ren := ⟨fun | 8 => 114 | 6 => 138 | n => n, fun | 22 => 36 | 23 => 56 | 25 => 90 | 4 => 4 | 3 => 3 | 0 => 0 | n => n, fun | n => n⟩
theorem LF : Go.Proofs.SlLaysH0.n8 Tryz.prog LF_ren := {
  mixed := by kernel_rfl,
  f6 := ⟨Tryz.f138.name, by decide, Tryz.func138.trans (congrArg some (by kernel_rfl))⟩,
  f8 := ⟨Tryz.f114.name, by decide, Tryz.func114.trans (congrArg some (by kernel_rfl))⟩,
  t0 := Tryz.underlying0,
  a0 := Tryz.isAgg0,
  z0 := Tryz.sizeOf0,
  v0 := Tryz.zeroValue0,
  t3 := Tryz.underlying3,
  a3 := Tryz.isAgg3,
  z3 := Tryz.sizeOf3,
  v3 := Tryz.zeroValue3,
  t4 := Tryz.underlying4,
  a4 := Tryz.isAgg4,
  z4 := Tryz.sizeOf4,
  v4 := Tryz.zeroValue4,
  t22 := Tryz.underlying36,
  a22 := Tryz.isAgg36,
  z22 := Tryz.sizeOf36,
  v22 := Tryz.zeroValue36,
  t25 := Tryz.underlying90,
  a25 := Tryz.isAgg90,
  z25 := Tryz.sizeOf90,
  v25 := Tryz.zeroValue90 }

def LS_ren : Go.Shelf.Ren := ⟨fun | 5 => 123 | 8 => 142 | 7 => 141 | 19 => 163 | 20 => 164 | 10 => 154 | 11 => 155 | 12 => 156 | 13 => 157 | 14 => 158 | 15 => 159 | 16 => 160 | 17 => 161 | 18 => 162 | 30 => 171 | 31 => 172 | 32 => 173 | 33 => 174 | 34 => 175 | 35 => 140 | 40 => 179 | n => n, fun | 23 => 22 | 25 => 3 | 3 => 3 | 32 => 126 | 22 => 22 | 0 => 0 | 44 => 184 | 46 => 186 | 4 => 4 | 36 => 178 | 35 => 177 | 41 => 103 | 5 => 5 | 9 => 9 | 53 => 191 | 57 => 195 | 63 => 198 | 64 => 84 | n => n, fun | n => n⟩
theorem LS : Go.Proofs.SlLaysM.n5 Tryz.prog LS_ren := {
  mixed := by kernel_rfl,
  f5 := ⟨Tryz.f123.name, by decide, Tryz.func123.trans (congrArg some (by kernel_rfl))⟩,
  f7 := ⟨Tryz.f141.name, by decide, Tryz.func141.trans (congrArg some (by kernel_rfl))⟩,
  f8 := Tryz.func142.trans (congrArg some (by kernel_rfl)),
  f10 := ⟨Tryz.f154.name, by decide, Tryz.func154.trans (congrArg some (by kernel_rfl))⟩,
  f11 := ⟨Tryz.f155.name, by decide, Tryz.func155.trans (congrArg some (by kernel_rfl))⟩,
  f12 := ⟨Tryz.f156.name, by decide, Tryz.func156.trans (congrArg some (by kernel_rfl))⟩,
  f13 := ⟨Tryz.f157.name, by decide, Tryz.func157.trans (congrArg some (by kernel_rfl))⟩,
  f14 := ⟨Tryz.f158.name, by decide, Tryz.func158.trans (congrArg some (by kernel_rfl))⟩,
  f15 := ⟨Tryz.f159.name, by decide, Tryz.func159.trans (congrArg some (by kernel_rfl))⟩,
  f16 := ⟨Tryz.f160.name, by decide, Tryz.func160.trans (congrArg some (by kernel_rfl))⟩,
  f17 := ⟨Tryz.f161.name, by decide, Tryz.func161.trans (congrArg some (by kernel_rfl))⟩,
  f18 := ⟨Tryz.f162.name, by decide, Tryz.func162.trans (congrArg some (by kernel_rfl))⟩,
  f19 := Tryz.func163.trans (congrArg some (by kernel_rfl)),
  f20 := Tryz.func164.trans (congrArg some (by kernel_rfl)),
  f30 := ⟨Tryz.f171.name, by decide, Tryz.func171.trans (congrArg some (by kernel_rfl))⟩,
  f31 := Tryz.func172.trans (congrArg some (by kernel_rfl)),
  f32 := Tryz.func173.trans (congrArg some (by kernel_rfl)),
  f33 := ⟨Tryz.f174.name, by decide, Tryz.func174.trans (congrArg some (by kernel_rfl))⟩,
  f34 := ⟨Tryz.f175.name, by decide, Tryz.func175.trans (congrArg some (by kernel_rfl))⟩,
  f35 := ⟨Tryz.f140.name, by decide, Tryz.func140.trans (congrArg some (by kernel_rfl))⟩,
  f40 := ⟨Tryz.f179.name, by decide, Tryz.func179.trans (congrArg some (by kernel_rfl))⟩,
  t0 := Tryz.underlying0,
  a0 := Tryz.isAgg0,
  z0 := Tryz.sizeOf0,
  v0 := Tryz.zeroValue0,
  t3 := Tryz.underlying3,
  a3 := Tryz.isAgg3,
  z3 := Tryz.sizeOf3,
  v3 := Tryz.zeroValue3,
  t4 := Tryz.underlying4,
  a4 := Tryz.isAgg4,
  z4 := Tryz.sizeOf4,
  v4 := Tryz.zeroValue4,
  t5 := Tryz.underlying5,
  a5 := Tryz.isAgg5,
  z5 := Tryz.sizeOf5,
  v5 := Tryz.zeroValue5,
  t9 := Tryz.underlying9,
  a9 := Tryz.isAgg9,
  z9 := Tryz.sizeOf9,
  v9 := Tryz.zeroValue9,
  t22 := Tryz.underlying22,
  a22 := Tryz.isAgg22,
  z22 := Tryz.sizeOf22,
  v22 := Tryz.zeroValue22,
  t23 := Tryz.underlying22,
  a23 := Tryz.isAgg22,
  z23 := Tryz.sizeOf22,
  v23 := Tryz.zeroValue22,
  t25 := Tryz.underlying3,
  a25 := Tryz.isAgg3,
  z25 := Tryz.sizeOf3,
  v25 := Tryz.zeroValue3,
  t32 := Tryz.underlying126,
  a32 := Tryz.isAgg126,
  z32 := Tryz.sizeOf126,
  v32 := Tryz.zeroValue126,
  t35 := Tryz.underlying177,
  a35 := Tryz.isAgg177,
  z35 := Tryz.sizeOf177,
  v35 := Tryz.zeroValue177,
  t36 := Tryz.underlying178,
  a36 := Tryz.isAgg178,
  z36 := Tryz.sizeOf178,
  v36 := Tryz.zeroValue178,
  t41 := Tryz.underlying103,
  a41 := Tryz.isAgg103,
  z41 := Tryz.sizeOf103,
  v41 := Tryz.zeroValue103,
  t44 := Tryz.underlying184,
  a44 := Tryz.isAgg184,
  z44 := Tryz.sizeOf184,
  v44 := Tryz.zeroValue184,
  t46 := Tryz.underlying186,
  a46 := Tryz.isAgg186,
  z46 := Tryz.sizeOf186,
  v46 := Tryz.zeroValue186,
  t53 := Tryz.underlying191,
  a53 := Tryz.isAgg191,
  z53 := Tryz.sizeOf191,
  v53 := Tryz.zeroValue191,
  t57 := Tryz.underlying195,
  a57 := Tryz.isAgg195,
  z57 := Tryz.sizeOf195,
  v57 := Tryz.zeroValue195,
  t63 := Tryz.underlying198,
  a63 := Tryz.isAgg198,
  z63 := Tryz.sizeOf198,
  v63 := Tryz.zeroValue198,
  t64 := Tryz.underlying84,
  a64 := Tryz.isAgg84,
  z64 := Tryz.sizeOf84,
  v64 := Tryz.zeroValue84 }

def LP_ren : Go.Shelf.Ren := ⟨fun | 43 => 124 | n => n, fun | 22 => 22 | 23 => 3 | 3 => 3 | 4 => 4 | 0 => 0 | n => n, fun | n => n⟩
theorem LP : Go.Proofs.SlLaysN.n43 Tryz.prog LP_ren := {
  mixed := by kernel_rfl,
  f43 := ⟨Tryz.f124.name, by decide, Tryz.func124.trans (congrArg some (by kernel_rfl))⟩,
  t0 := Tryz.underlying0,
  a0 := Tryz.isAgg0,
  z0 := Tryz.sizeOf0,
  v0 := Tryz.zeroValue0,
  t3 := Tryz.underlying3,
  a3 := Tryz.isAgg3,
  z3 := Tryz.sizeOf3,
  v3 := Tryz.zeroValue3,
  t4 := Tryz.underlying4,
  a4 := Tryz.isAgg4,
  z4 := Tryz.sizeOf4,
  v4 := Tryz.zeroValue4,
  t22 := Tryz.underlying22,
  a22 := Tryz.isAgg22,
  z22 := Tryz.sizeOf22,
  v22 := Tryz.zeroValue22,
  t23 := Tryz.underlying3,
  a23 := Tryz.isAgg3,
  z23 := Tryz.sizeOf3,
  v23 := Tryz.zeroValue3,
  i23 := by kernel_rfl }

def LM_ren : Go.Shelf.Ren := ⟨fun | 5 => 120 | 7 => 140 | n => n, fun | 22 => 3 | 3 => 3 | 4 => 4 | n => n, fun | n => n⟩
theorem LM : Go.Proofs.SlLaysC2.n5 Tryz.prog LM_ren := {
  mixed := by kernel_rfl,
  f5 := ⟨Tryz.f120.name, by decide, Tryz.func120.trans (congrArg some (by kernel_rfl))⟩,
  f7 := ⟨Tryz.f140.name, by decide, Tryz.func140.trans (congrArg some (by kernel_rfl))⟩,
  t3 := Tryz.underlying3,
  a3 := Tryz.isAgg3,
  z3 := Tryz.sizeOf3,
  v3 := Tryz.zeroValue3,
  t4 := Tryz.underlying4,
  a4 := Tryz.isAgg4,
  z4 := Tryz.sizeOf4,
  v4 := Tryz.zeroValue4,
  t22 := Tryz.underlying3,
  a22 := Tryz.isAgg3,
  z22 := Tryz.sizeOf3,
  v22 := Tryz.zeroValue3 }

end Go.Proofs.YtihdijkplmfhfaaGreatDoor.Ly

/- What the library's sorting and compacting of numbers do, in blocks that are one's own. Conditions: as each theorem states. -/
namespace Go.Proofs.YtihdijkplmfhfaaGreatDoor.Span
set_option maxRecDepth 100000
set_option maxRecDepth 100000
open Go.ChangeShapes Go.WideShapes Go.ChangeAt Go.RowKit Go.Sort
open Go.Proofs.YtihdijkplmfhfaaGreatDoor.Divs Go.Proofs.YtihdijkplmfhfaaGreatDoor.Grow
open Go.Proofs.YtihdijkplmfhfaaGreatDoor.By (Sk SL)
open Go.Proofs.YtihdijkplmfhfaaGreatDoor.Sp

/-- The block g is one of numbers. -/
def Nb (W : World) (g : Nat) : Prop := ∃ cs, RA W g cs 3

/-- It holds these ahead. -/
def RI (W : World) (g : Nat) (E : List Int) : Prop := ∃ cs, RA W g cs 3 ∧ ∀ (i : Nat) (x : Int), E[i]? = some x → cs[i]? = some (.int .i64 x)

theorem RI.cell {W : World} {g i : Nat} {E : List Int} {x : Int} (h : RI W g E) (hi : E[i]? = some x) : W.cell? ⟨g, i, none⟩ = some (.int .i64 x) := by
  obtain ⟨cs, h1, h2⟩ := h
  exact h1.cell i _ (h2 i x hi)

/-- Blocks of numbers stay. -/
def Stays (W W' : World) : Prop := ∀ g cs, RA W g cs 3 → RA W' g cs 3

theorem Stays.ri {W W' : World} {g : Nat} {E : List Int} (h : Stays W W') (r : RI W g E) : RI W' g E := by
  obtain ⟨cs, h1, h2⟩ := r
  exact ⟨cs, h g cs h1, h2⟩

theorem stays_later {W W' : World} (h : Later W W') : Stays W W' := fun _ _ r => r.later h
theorem Stays.trans {a b c : World} (h : Stays a b) (k : Stays b c) : Stays a c := fun g cs r => k g cs (h g cs r)

theorem ri_holds {W : World} {g : Nat} {E F : List Int} (h1 : Nb W g) (h2 : Holds (Value.int .i64) W g 0 (E ++ F).toArray) : RI W g E := by
  obtain ⟨cs, h⟩ := h1
  refine ⟨cs, h, fun i x hx => ?_⟩
  have hi : i < E.length := (List.getElem?_eq_some_iff.1 hx).1
  have hi' : i < (E ++ F).toArray.size := by simp; omega
  have c := (h2 i hi').1
  have e : (E ++ F).toArray[i]! = x := by
    rw [getElem!_pos _ i hi']
    simp only [List.getElem_toArray]
    rw [List.getElem_append_left hi]
    rw [List.getElem?_eq_getElem hi] at hx
    exact Option.some.inj hx
  rw [e, Nat.zero_add] at c
  unfold RA at h
  simpa [World.cell?, h] using c

theorem nb_row {W : World} {g : Nat} (h : Nb W g) (n : Nat) (d : Array Int) (os : Array Obj) : Nb (grow (putRow (Value.int .i64) (Sort.ahead W n) g 0 d) os) g := by
  obtain ⟨cs, h⟩ := h
  have hlt := h.lt
  refine ⟨putCells (Value.int .i64) 0 d cs, ?_⟩
  unfold RA at *
  show ((W.heap.modify g _) ++ os)[g]? = _
  rw [Array.getElem?_append_left (by simpa using hlt), Array.getElem?_modify, if_pos rfl, h]
  rfl

theorem later_row {W0 W : World} (h : Later W0 W) {g : Nat} (hg : W0.heap.size ≤ g) (n : Nat) (d : Array Int) (os : Array Obj) : Later W0 (grow (putRow (Value.int .i64) (Sort.ahead W n) g 0 d) os) := by
  refine ⟨h.1, h.2.1, ?_, fun k hk => ?_⟩
  · rw [size_grow]
    have : (putRow (Value.int .i64) (Sort.ahead W n) g 0 d).heap.size = W.heap.size := by
      show (W.heap.modify g _).size = _
      simp
    have := h.2.2.1
    omega
  · have hW : k < W.heap.size := Nat.lt_of_lt_of_le hk h.2.2.1
    have : (grow (putRow (Value.int .i64) (Sort.ahead W n) g 0 d) os).heap[k]? = W.heap[k]? := by
      show ((W.heap.modify g _) ++ os)[k]? = _
      rw [Array.getElem?_append_left (by simpa using hW), Array.getElem?_modify, if_neg (by omega)]
    rw [this]
    exact h.2.2.2 k hk

theorem holds_os {W : World} {g : Nat} {d : Array Int} (h : Holds (Value.int .i64) W g 0 d) (hg : g < W.heap.size) (os : Array Obj) : Holds (Value.int .i64) (grow W os) g 0 d := holds_grow _ W os g 0 d hg h

theorem sort_any (zs : List Int) (g n cap : Nat) (W0 W : World) (hN : Nb W g) (hH : Holds (Value.int .i64) W g 0 zs.toArray) (hn : zs.length = n) (hb : n ≤ 5000) (hl : Later W0 W) (hg : W0.heap.size ≤ g) :
    Calls Tryz.prog 123 #[.slice (some ⟨g, 0, none⟩) n cap] W fun e w' => e = .returned (.tuple #[]) ∧ Nb w' g ∧ Holds (Value.int .i64) w' g 0 (zs.mergeSort fun x y => decide (x ≤ y)).toArray ∧ Later W0 w' := by
  have hlt : g < W.heap.size := by obtain ⟨cs, h⟩ := hN; exact h.lt
  have K := calls_of_every_depth fun D => AnySM.slices_Sort_int_in Ly.LS D g 0 cap zs W hH hlt (by omega)
  change Calls Tryz.prog 123 _ _ _ at K
  rw [hn] at K
  refine K.mono ?_
  rintro e w' ⟨rfl, m, os, rfl⟩
  refine ⟨rfl, nb_row hN m _ os, ?_, later_row hl hg m _ os⟩
  refine holds_os (holds_putRow _ _ _ _ zs.toArray _ hH (by simp [List.length_mergeSort])) ?_ os
  show g < (W.heap.modify g _).size
  simpa using hlt

theorem comp_any (zs : List Int) (g n cap : Nat) (W0 W : World) (hN : Nb W g) (hH : Holds (Value.int .i64) W g 0 zs.toArray) (hn : zs.length = n) (hb : n ≤ 5000) (hc : n ≤ cap) (hl : Later W0 W) (hg : W0.heap.size ≤ g) :
    Calls Tryz.prog 124 #[.slice (some ⟨g, 0, none⟩) n cap] W fun e w' => e = .returned (.slice (some ⟨g, 0, none⟩) (Lib.compact zs).length cap) ∧ RI w' g (Lib.compact zs) ∧ Later W0 w' := by
  have K := AnyG.slices_Compact_int Ly.LP g 0 cap zs W hH (by omega) (by omega)
  change Calls Tryz.prog 124 _ _ _ at K
  rw [hn] at K
  refine K.mono ?_
  rintro e w' ⟨rfl, m, rfl⟩
  have hcl : (Lib.compact zs).length ≤ zs.length := by
    unfold Lib.compact Lib.compactUpTo
    rw [List.length_map]
    refine Nat.le_trans (List.length_filter_le _ _) ?_
    simp
  refine ⟨rfl, ri_holds (F := List.replicate (n - (Lib.compact zs).length) 0) ?_ ?_, ?_⟩
  · have := nb_row hN m (Lib.compact zs ++ List.replicate (n - (Lib.compact zs).length) 0).toArray #[]
    rwa [grow_empty] at this
  · exact holds_putRow _ _ _ _ zs.toArray _ hH (by simp; omega)
  · have := later_row hl hg m (Lib.compact zs ++ List.replicate (n - (Lib.compact zs).length) 0).toArray #[]
    rwa [grow_empty] at this

end Go.Proofs.YtihdijkplmfhfaaGreatDoor.Span

/- The instants at which spans begin or end, as the program goes through them: what its iterator hands to a loop, whatever the loop's body does, so long as the body keeps blocks of numbers. Conditions: the spans are at most 500. -/
namespace Go.Proofs.YtihdijkplmfhfaaGreatDoor.Span
set_option maxRecDepth 100000
open Go.ChangeShapes Go.WideShapes Go.ChangeAt Go.RowKit Go.Shelf
open Go.Proofs.YtihdijkplmfhfaaGreatDoor.Divs Go.Proofs.YtihdijkplmfhfaaGreatDoor.Grow
open Go.Proofs.YtihdijkplmfhfaaGreatDoor.By (Sk SL)
open Go.Proofs.YtihdijkplmfhfaaGreatDoor.Sp

attribute [local go_sem] Oper.semAt_some

theorem Ws.form {W : World} {v : Value} {xs : List Sp} (h : Ws W v xs) : ∃ ad cap, v = .slice ad xs.length cap ∧ xs.length ≤ 9223372036854775807 ∧ (∀ i x, xs[i]? = some x → ∃ b off, ad = some ⟨b, off, none⟩ ∧ At W b (off + i * 4) x) := by
  rcases Nat.eq_zero_or_pos xs.length with h0 | h0
  · obtain ⟨ad, cap, e, hl⟩ := h.len
    refine ⟨ad, cap, e, hl, fun i x hx => ?_⟩
    have := (List.getElem?_eq_some_iff.1 hx).1
    omega
  · obtain ⟨b, off, cap, e, h1, h2, _, hc⟩ := h.has h0
    exact ⟨_, cap, e, by omega, fun i x hx => ⟨b, off, rfl, hc i x hx⟩⟩

theorem make_ints (n : Nat) (h : n ≤ 5000) : ∃ MC : Array Value, MC.size = 2 * n ∧ ∀ W : World, (Instr.makeSlice 22 (.int .i64 0) (.int .i64 (2 * (n : Int)))).run Tryz.prog W = .ok (.slice (some ⟨W.heap.size, 0, none⟩) 0 (2 * n)) (W.alloc (.cells MC 3)) := by
  obtain ⟨i0, hi, hz0, hz1, hz2⟩ := info_parts By.info_int
  have e : ((2 * (n : Int)).toNat * 1) = 2 * n := by omega
  have e2 : (2 * (n : Int)).toNat = 2 * n := by omega
  refine ⟨madeCells (Value.int .i64 0).cells (2 * n), by simp [madeCells, Value.cells], fun W => ?_⟩
  have := run_make (P := Tryz.prog) W 22 3 i0 (.int .i64 0) Tryz.underlying22 hi hz0 .i64 .i64 0 (2 * (n : Int)) (by omega) (by omega) (by rw [hz2]; omega) (by omega)
  rw [hz1] at this
  rw [e] at this
  simpa [e2] using this

theorem cells_pair' (W : World) {n : Nat} (x y : Value) (t : TypeId) (hn : W.heap.size = n) : ∀ j u, [x, y][j]? = some u → (W.alloc (.cells #[x, y] t)).cell? ((⟨n, 0, none⟩ : Addr).add j) = some u := by
  subst hn
  intro j u hu
  rw [By.add_zero, World.cell?_alloc_new]
  simpa using hu

theorem cells_pair (W : World) (x y : Value) (t : TypeId) : ∀ j u, [x, y][j]? = some u → (W.alloc (.cells #[x, y] t)).cell? ((⟨W.heap.size, 0, none⟩ : Addr).add j) = some u := by
  intro j u hu
  rw [By.add_zero, World.cell?_alloc_new]
  simpa using hu

theorem ends_more {l : List Sp} {k : Nat} {x : Sp} (h : l[k]? = some x) : (ends (l.take (k + 1))).map (Value.int .i64) = (ends (l.take k)).map (Value.int .i64) ++ [.int .i64 x.f, .int .i64 x.t] := by
  rw [take_at h, ends_append, List.map_append]
  rfl

set_option maxHeartbeats 8000000 in
theorem bounds1_in (n : Nat) (hn : 1 ≤ n) (l : List Sp) (hl : l.length ≤ 500) (lo B : Nat) (lv : Value) (J : Nat → World → Prop) (W : World)
    (hJ : ∀ k W W', J k W → Later W W' → J k W')
    (hc : W.cell? ⟨B, 0, none⟩ = some lv) (hs : Ws W lv l)
    (hY : ∀ (k : Nat) W, J k W → k + 1 < (Es l).length → YieldAt Fence.wide (n - 1) Tryz.prog lo #[.int .i64 (ei l k), .int .i64 (ei l (k + 1))] W fun e W' => e = .returned (.bool true) ∧ J (k + 1) W' ∧ Stays W W')
    (h0 : J 0 W) :
    CallsIn Fence.wide n Tryz.prog 122 #[.func (.yield lo) #[] #[], .pointer (some ⟨B, 0, none⟩)] W fun e W' => (∃ v, e = .returned v) ∧ J ((Es l).length - 1) W' := by
  have HJ := Lib.hid hJ
  have HY := Lib.hid hY
  have H0 := Lib.hid h0
  clear hJ hY h0
  obtain ⟨ad, cap, rfl, hm, hf⟩ := hs.form
  have HF := Lib.hid hf
  obtain ⟨q, hq⟩ : ∃ q, l.length = q := ⟨_, rfl⟩
  rw [hq] at hm hc hl
  have HQ := Lib.hid hq
  clear hs hf hq
  obtain ⟨MC, hMC, mk⟩ := make_ints q (by omega)
  obtain ⟨i0, hi, hz0, hz1, hz2⟩ := info_parts By.info_int
  have HI := Lib.hid hi
  have HZ0 := Lib.hid hz0
  have HZ1 := Lib.hid hz1
  have HZ2 := Lib.hid hz2
  have HO : Hid ((W.alloc (.cells MC 3)).ownsRow W.heap.size 3 1 (.slice (some ⟨W.heap.size, 0, none⟩) 0 (2 * q)) 0 ((ends (l.take 0)).map (Value.int .i64))) := Lib.hid (by
    rw [List.take_zero]
    exact World.ownsRow_made W MC (2 * q) (Nat.le_refl _) (by simp only [maxLen]; omega) (by omega))
  have HG := Lib.hid ((Later.refl W).put (.cells MC 3))
  have hc1 := gsome HG.out hc
  clear hi hz0 hz1 hz2 hMC
  refine callsIn_of_wp Tryz.func122 rfl trivial ?_ rfl
  simp only [Tryz.ntmps122, List.size_toArray, List.length_cons, List.length_nil, Nat.reduceAdd, Nat.reduceSub, Array.replicate_succ, Array.replicate_zero, List.push_toArray, List.append_toArray, List.nil_append, List.cons_append]
  gi_wp2
  gi_loopw [3, 13] (fun r i wr => ∃ k : Nat, k ≤ q ∧ i = .int .i64 (k : Int) ∧ wr.ownsRow W.heap.size 3 1 r (2 * k) ((ends (l.take k)).map (Value.int .i64)) ∧ r ≠ .slice none 0 0 ∧ Later W wr) (fun _ i _ => q - (intOf i).toNat)
  case atStart => exact ⟨0, by omega, rfl, HO.out, by simp, HG.out⟩
  case round =>
    obtain ⟨k, hk, rfl, hr, hne, hg⟩ := hrel
    have HR := Lib.hid hr
    have HNE := Lib.hid hne
    have HL := Lib.hid hg
    clear hr hne hg HO HG hc1 hc mk
    by_cases hlt : k < q
    · obtain ⟨x, hx⟩ : ∃ x, l[k]? = some x := ⟨_, List.getElem?_eq_getElem (by rw [HQ.out]; exact hlt)⟩
      obtain ⟨B0, off, rfl, hat⟩ := HF.out k x hx
      obtain ⟨c0, c1, c2, c3⟩ := hat.later HL.out
      have HE := Lib.hid (ends_more hx)
      clear hx hat
      have hkz : (k : Int) < (q : Int) := by omega
      have ad : ∀ j, (⟨B0, off, none⟩ : Addr).add j = ⟨B0, off + j, none⟩ := Addr.add_mid B0 off
      gi_wp2_with (gi_at_builtin; refine wpListIn_append_own _ rfl _ _ 22 rfl W.heap.size 3 i0 (.int .i64 0) 1 8 Tryz.underlying22 HI.out HZ0.out HZ1.out HZ2.out rfl (by decide) _ (2 * k) _ rfl (World.ownsRow.alloc (World.ownsRow.alloc HR.out _) _) ⟨_, 0, none⟩ 2 2 [.int .i64 x.f, .int .i64 x.t] rfl rfl (cells_pair' _ _ _ _ (by simp)) (by simp [Value.oneCell']) (by simp only [maxLen]; omega) (by omega) (by have := HL.out.size; simp; omega) ?_; intro v' w1 hown hgrow hnil; have HOW := Lib.hid hown; have HGR := Lib.hid hgrow; have HNI := Lib.hid hnil; clear hown hgrow hnil)
      go_roundw
      case rel =>
        refine ⟨k + 1, by omega, by go_num, ?_, ?_, ?_⟩
        · rw [HE.out]; exact HOW.out
        · intro e
          exact HNE.out ((HNI.out.1 e).1)
        · refine Later.of_below ((HL.out.below.trans ((((Later.refl wr).put _).put _).below.mono HL.out.size)).grown HGR.out (by have := HL.out.size; simp; omega) (fun j e => ?_))
          exact (World.ownsRow.lt HR.out j e).1
      case measure => simp [intOf]; omega
    · obtain rfl : k = q := by omega
      have hkz : ¬ (k : Int) < (k : Int) := by omega
      have hown := HR.out
      have hfull : (ends (l.take k)) = ends l := by rw [List.take_of_length_le (by rw [HQ.out]; omega)]
      rw [hfull] at hown
      rcases hown.2 with ⟨e, _⟩ | ⟨g, cap2, cur, hv, hg0, hgh, hcap1, hcap2, hcs, htk⟩
      · exact absurd e HNE.out
      have hNb : Nb wr g := ⟨cur, hgh⟩
      have hle : (ends l).length = 2 * k := by rw [ends_len, HQ.out]
      subst hv
      have hH : Sort.Holds (Value.int .i64) wr g 0 (ends l).toArray := by
        intro j hj
        have hj' : j < (ends l).length := by simpa using hj
        have e : ((ends l).map (Value.int .i64))[j]? = some (.int .i64 (ends l).toArray[j]!) := by
          rw [List.getElem?_map, getElem!_pos _ j hj, List.getElem?_eq_getElem hj']
          rfl
        have c := World.ownsRow.cells hown (g := g) rfl _ _ e
        rw [By.add_zero] at c
        rw [Nat.zero_add]
        exact ⟨c, hown.frozenAt j⟩
      have K1 := Lib.hid (sort_any (ends l) g (2 * k) cap2 W wr hNb hH hle (by omega) HL.out hg0)
      obtain ⟨m, hm'⟩ : ∃ m, (Lib.compact (so l)).length = m := ⟨_, rfl⟩
      have HM : Hid ((Es l).length = m) := Lib.hid hm'
      have hm5 : m ≤ 1000 := by
        have : (Lib.compact (so l)).length ≤ (so l).length := by
          unfold Lib.compact Lib.compactUpTo
          rw [List.length_map]
          refine Nat.le_trans (List.length_filter_le _ _) ?_
          simp
        rw [so_len, HQ.out] at this
        omega
      have k2 := fun W2 a b c => comp_any (so l) g (2 * k) cap2 W W2 a b (by rw [so_len, HQ.out]) (by omega) hcap1 c hg0
      rw [hm'] at k2
      have K2 := Lib.hid k2
      have hcap3 : cap2 ≤ 9223372036854775807 := by simpa [maxLen] using hcap2
      clear hown hfull hg0 hgh hcap1 hcap2 hcs htk hNb hle hH hm k2 hm'
      gi_wp2_with (first
        | (refine ⟨trivial, ?_⟩; gi_at_call 123; refine (callsIn_wide.2 K1.out).mono ?_; rintro e w2 ⟨rfl, hN2, hH2, hL2⟩; have K3 := Lib.hid (K2.out _ hN2 hH2 hL2); clear hN2 hH2 hL2)
        | (refine ⟨trivial, ?_⟩; gi_at_call 124; refine (callsIn_wide.2 K3.out).mono ?_; rintro e w3 ⟨rfl, hRI, hL3⟩; have HRI := Lib.hid (show RI w3 g (Es l) from hRI); have HJ0 := Lib.hid (HJ.out _ _ _ H0.out hL3); clear hRI hL3))
      gi_loopw [6] (fun i wr => ∃ k : Nat, (k + 1 ≤ m ∨ k = 0) ∧ i = .int .i64 ((k : Int) + 1) ∧ J k wr ∧ RI wr g (Es l)) (fun i _ => 2000 - (intOf i).toNat)
      case atStart => exact ⟨0, .inr rfl, rfl, HJ0.out, HRI.out⟩
      case round =>
        obtain ⟨j, hj, rfl, hjj, hri⟩ := hrel
        by_cases hjm : j + 1 < m
        · obtain ⟨fn, tmps, assign, body, hy, hR⟩ := HY.out j wr.drew (HJ.out _ _ _ hjj (later_drewN wr 1)) (by rw [HM.out]; exact hjm)
          have e0 := hri.cell (ei_get (by rw [HM.out]; omega : j < (Es l).length))
          have e1 := hri.cell (ei_get (by rw [HM.out]; omega : j + 1 < (Es l).length))
          have HRI1 := Lib.hid hri
          clear hri hjj
          have hjz : (j : Int) + 1 < (m : Int) := by omega
          have i1 : (j : Int) < (m : Int) := by omega
          have r1 : IntKind.i64.wrap ((j : Int) + 1 - 1) = (j : Int) := by rw [IntKind.wrap_i64]; omega
          have r2 : IntKind.i64.wrap (j : Int) = (j : Int) := by rw [IntKind.wrap_i64]; omega
          have ez : ((j : Int) + 1).toNat = j + 1 := by omega
          have ez0 : ((j : Int)).toNat = j := by omega
          have pz : (0 : Int) ≤ (j : Int) + 1 := by omega
          have pz0 : (0 : Int) ≤ (j : Int) := by omega
          have nz0 : ¬ ((j : Int) < 0) := by omega
          have nz : ¬ ((j : Int) + 1 < 0) := by omega
          have ad2 : ∀ i, (⟨g, 0, none⟩ : Addr).add i = ⟨g, i, none⟩ := By.add_zero g
          gi_upto_region 11 with fail
          gi_region_with (refine hR.mono ?_; rintro e W3 ⟨rfl, hJ3, hS3⟩)
          all_goals
            gi_wp2
            go_roundw
            case rel => exact ⟨j + 1, .inl (by omega), by go_num, hJ3, hS3.ri ((stays_later (later_drewN wr 1)).ri HRI1.out)⟩
            case measure => simp [intOf]; omega
        · have hjz : ¬ (j : Int) + 1 < (m : Int) := by omega
          have hje : j = (Es l).length - 1 := by rw [HM.out]; omega
          have HE2 := Lib.hid hje
          have HJ2 := Lib.hid hjj
          clear hje hri hjj
          gi_wp2
          go_end0
          exact ⟨⟨_, rfl⟩, by rw [← HE2.out]; exact HJ2.out⟩

end Go.Proofs.YtihdijkplmfhfaaGreatDoor.Span

/- What more calls on single spans and on slices of them answer: the reckoning's first span that an instant is in, whether one goes ahead of another, whether spans may be, whether two rows are the same. Conditions: as each theorem states. -/
namespace Go.Proofs.YtihdijkplmfhfaaGreatDoor.Span
set_option maxRecDepth 100000
set_option maxRecDepth 100000
open Go.ChangeShapes Go.WideShapes Go.ChangeAt Go.RowKit
open Go.Proofs.YtihdijkplmfhfaaGreatDoor.Divs Go.Proofs.YtihdijkplmfhfaaGreatDoor.Grow
open Go.Proofs.YtihdijkplmfhfaaGreatDoor.By (Sk SL bool_no bool_yes)
open Go.Proofs.YtihdijkplmfhfaaGreatDoor.Sp

set_option maxHeartbeats 2000000 in
theorem rat_any (v : Value) (l : List Sp) (t : Int) (w : World) (h : Ws w v l) :
    Calls Tryz.prog 43 #[v, .int .i64 t] w fun e w' => e = .returned (.tuple #[.agg (sc (av l t)).toArray, .bool (ab l t)]) ∧ Later w w' := by
  obtain ⟨S, hS⟩ : ∃ S, S = av l t := ⟨_, rfl⟩
  obtain ⟨B, hB⟩ : ∃ B, B = ab l t := ⟨_, rfl⟩
  rw [← hS, ← hB]
  have HP : Hid (∀ o, fi l t = o → S = o.getD z4 ∧ B = o.isSome) := Lib.hid (fun o ho => by rw [hS, hB]; exact at_post ho)
  clear hS hB
  have HR0 := Lib.hid (RA.new w #[.int .i64 0, .int .i64 0, .int .i64 0, .int .i64 0] 56)
  have HG0 := Lib.hid ((Later.refl w).alloc #[.int .i64 0, .int .i64 0, .int .i64 0, .int .i64 0] 56)
  obtain ⟨n, hn⟩ : ∃ n, l.length = n := ⟨_, rfl⟩
  have HN := Lib.hid hn
  rcases Nat.eq_zero_or_pos n with h0 | h0
  · obtain ⟨ad, cap, rfl, hm⟩ := h.len
    rw [hn] at hm ⊢
    subst h0
    have HV := Lib.hid (HP.out none (fi_miss (k := 0) (by omega) rfl))
    clear h hn
    go_enter Tryz.func43, Tryz.ntmps43
    go_wp2_with fail
    refine wp_loop_rounds 1 ?_
    rw [rounds_succ]
    go_wp2
    refine bodyPost_ret (results_rt (P := Tryz.prog) (fn := Tryz.f43) Tryz.results43 _ _ w.heap.size 56 _ _ _ rfl rfl HR0.out Tryz.underlying56 rfl (by kernel_rfl)) rfl ?_
    rw [HV.out.1, HV.out.2]
    exact ⟨rfl, HG0.out⟩
  · obtain ⟨b, off, cap, rfl, hm1, hm2, hb, hc⟩ := h.has (by omega)
    rw [hn] at hm1 ⊢
    have HC := Lib.hid hc
    clear h hn hc
    have ad : ∀ j, (⟨b, off, none⟩ : Addr).add j = ⟨b, off + j, none⟩ := Addr.add_mid b off
    go_enter Tryz.func43, Tryz.ntmps43
    go_wp2_with fail
    go_loopw [6] (fun i wr => ∃ k : Nat, k ≤ n ∧ i = .int .i64 (k : Int) ∧ fi (l.take k) t = none ∧ RA wr w.heap.size #[.int .i64 0, .int .i64 0, .int .i64 0, .int .i64 0] 56 ∧ Later w wr) (fun i _ => n - (intOf i).toNat)
    case atStart => exact ⟨0, by omega, rfl, rfl, HR0.out, HG0.out⟩
    case round =>
      obtain ⟨k, hk, rfl, hj, hr, hg⟩ := hrel
      have HR := Lib.hid hr
      have HG := Lib.hid hg
      have HJ := Lib.hid hj
      clear hr hg hj
      by_cases hlt : k < n
      · obtain ⟨x, hx⟩ : ∃ x, l[k]? = some x := ⟨_, List.getElem?_eq_getElem (by rw [HN.out]; exact hlt)⟩
        have HX := Lib.hid hx
        obtain ⟨c0, c1, c2, c3⟩ := (HC.out k x hx).later HG.out
        clear hx
        have hkz : (k : Int) < (n : Int) := by omega
        by_cases t1 : x.f ≤ t
        · by_cases t2 : t < x.t
          · have HV := Lib.hid (HP.out (some x) (fi_hit HX.out HJ.out ⟨t1, t2⟩))
            have r0 := HR.out.cell 0 _ rfl
            have r1 := HR.out.cell 1 _ rfl
            have r2 := HR.out.cell 2 _ rfl
            have r3 := HR.out.cell 3 _ rfl
            have f0 := HR.out.froz 0
            have f1 := HR.out.froz 1
            have f2 := HR.out.froz 2
            have f3 := HR.out.froz 3
            go_wp2
            refine bodyPost_ret (results_rt (P := Tryz.prog) (fn := Tryz.f43) Tryz.results43 _ _ w.heap.size 56 _ _ _ rfl rfl (HR.out.set4 _ _ _ _) Tryz.underlying56 rfl (by kernel_rfl)) rfl ?_
            rw [HV.out.1, HV.out.2]
            exact ⟨rfl, later_set4 HG.out (Nat.le_refl _) _ _ _ _⟩
          · have HV := Lib.hid (fi_out HX.out HJ.out (by omega))
            go_wp2
            go_roundw
            case rel => exact ⟨k + 1, by omega, by go_num, HV.out, HR.out, HG.out⟩
            case measure => simp [intOf]; omega
        · have HV := Lib.hid (fi_out HX.out HJ.out (by omega))
          go_wp2
          go_roundw
          case rel => exact ⟨k + 1, by omega, by go_num, HV.out, HR.out, HG.out⟩
          case measure => simp [intOf]; omega
      · have HV := Lib.hid (HP.out none (fi_miss (by rw [HN.out]; omega) HJ.out))
        have hkz : ¬ (k : Int) < (n : Int) := by omega
        have r0 := HR.out.cell 0 _ rfl
        have r1 := HR.out.cell 1 _ rfl
        have r2 := HR.out.cell 2 _ rfl
        have r3 := HR.out.cell 3 _ rfl
        have f0 := HR.out.froz 0
        have f1 := HR.out.froz 1
        have f2 := HR.out.froz 2
        have f3 := HR.out.froz 3
        go_wp2
        refine bodyPost_ret (results_rt (P := Tryz.prog) (fn := Tryz.f43) Tryz.results43 _ _ w.heap.size 56 _ _ _ rfl rfl (HR.out.set4 _ _ _ _) Tryz.underlying56 rfl (by kernel_rfl)) rfl ?_
        rw [HV.out.1, HV.out.2]
        exact ⟨rfl, later_set4 HG.out (Nat.le_refl _) _ _ _ _⟩

theorem empty_any (x : Sp) (w : World) : Calls Tryz.prog 55 #[.agg (sc x).toArray] w fun e w' => e = .returned (.bool (decide (x.f ≥ x.t))) ∧ Later w w' := by
  have HG := Lib.hid ((Later.refl w).alloc (sc x).toArray 56)
  unfold sc at *
  go_enter Tryz.func55, Tryz.ntmps55
  go_wp2_with fail
  go_ret
  exact ⟨rfl, HG.out⟩

theorem over_any (x y : Sp) (w : World) : Calls Tryz.prog 101 #[.agg (sc x).toArray, .agg (sc y).toArray] w fun e w' => e = .returned (.bool (ov x y)) ∧ Later w w' := by
  have HG := Lib.hid (((Later.refl w).alloc (sc x).toArray 56).alloc (sc y).toArray 56)
  obtain ⟨O, hO⟩ : ∃ O, O = ov x y := ⟨_, rfl⟩
  rw [← hO]
  unfold sc at *
  by_cases c : x.p = y.p
  · have t : (x.p != y.p) = false := by simp [c]
    have HV : Hid (O = decide (x.f ≥ y.f)) := Lib.hid (by rw [hO]; unfold ov; rw [if_neg (by simp [c])])
    clear hO c
    go_enter Tryz.func101, Tryz.ntmps101
    go_wp2_with fail
    go_ret
    exact ⟨retb HV.out.symm, HG.out⟩
  · have t : (x.p != y.p) = true := by simpa using c
    have HV : Hid (O = decide (x.p > y.p)) := Lib.hid (by rw [hO]; unfold ov; rw [if_pos (by simpa using c)])
    clear hO c
    go_enter Tryz.func101, Tryz.ntmps101
    go_wp2_with fail
    go_ret
    exact ⟨retb HV.out.symm, HG.out⟩

/-- May spans be? -/
def mb (l : List Sp) : Bool := decide (l.length ≤ 500) && !l.any (fun x => decide (x.f ≥ x.t))

theorem mb_iff (l : List Sp) : mb l = true ↔ l.length ≤ 500 ∧ May l := by
  unfold mb May
  simp only [Bool.and_eq_true, decide_eq_true_eq, Bool.not_eq_true', List.any_eq_false]
  constructor
  · rintro ⟨a, b⟩; exact ⟨a, fun s hs => by have := b s hs; omega⟩
  · rintro ⟨a, b⟩; exact ⟨a, fun s hs => by have := b s hs; omega⟩

instance : Inhabited Sp := ⟨z4⟩

theorem some_none (ad : Option Addr) (cap : Nat) (w : World) : Calls Tryz.prog 114 #[.slice ad 0 cap, .func (.func 55) #[] #[]] w fun e w' => e = .returned (.bool false) ∧ Later w w' := by
  have HG := Lib.hid (Later.refl w)
  go_enter Tryz.func114, Tryz.ntmps114
  go_wp2
  refine wp_loop_rounds 1 ?_
  rw [rounds_succ]
  go_wp2
  go_ret
  exact ⟨rfl, HG.out⟩

theorem some_any (v : Value) (l : List Sp) (w : World) (h : Ws w v l) : Calls Tryz.prog 114 #[v, .func (.func 55) #[] #[]] w fun e w' => e = .returned (.bool (l.any (fun x => decide (x.f ≥ x.t)))) ∧ Later w w' := by
  rcases Nat.eq_zero_or_pos l.length with h0 | h0
  · obtain rfl := List.length_eq_zero_iff.1 h0
    obtain ⟨ad, cap, rfl, _⟩ := h.bare
    exact some_none ad cap w
  · obtain ⟨b, off, cap, rfl, hm1, hm2, hb, hc⟩ := h.has h0
    have k := AnyQ.slices_ContainsFunc Ly.LF 4 Tryz.isAgg56 Tryz.sizeOf56 sc (fun _ => rfl) (fun x => decide (x.f ≥ x.t)) 55 #[] (enters_of Tryz.func55 (by kernel_rfl) rfl) b off l.length cap l w
      (fun W x hW => (empty_any x W).mono (fun e w' ⟨he, hg⟩ => ⟨he, hW.trans (hg.below.mono hW.size)⟩)) (Nat.le_refl _) (by omega) hb (by
        intro j hj i u hu
        have e : l[j]? = some l[j]! := by rw [getElem!_pos l j hj]; exact List.getElem?_eq_getElem hj
        have hi : i < 4 := (List.getElem?_eq_some_iff.1 hu).1
        obtain ⟨c0, c1, c2, c3⟩ := hc j _ e
        match i, hi with
        | 0, _ => rw [Nat.add_zero]; exact c0.trans hu
        | 1, _ => exact c1.trans hu
        | 2, _ => exact c2.trans hu
        | 3, _ => exact c3.trans hu)
    refine k.mono ?_
    rintro e w' ⟨rfl, hB⟩
    rw [List.take_length]
    exact ⟨rfl, Later.of_below hB⟩

theorem maybe_any (v : Value) (l : List Sp) (w : World) (h : Ws w v l) : Calls Tryz.prog 91 #[v] w fun e w' => e = .returned (.bool (mb l)) ∧ Later w w' := by
  have K := Lib.hid (some_any v l w h)
  have HG := Lib.hid (Later.refl w)
  obtain ⟨O, hO⟩ : ∃ O, O = mb l := ⟨_, rfl⟩
  rw [← hO]
  unfold mb at hO
  obtain ⟨ad, cap, rfl, hm⟩ := h.len
  clear h
  obtain ⟨n, hn⟩ : ∃ n, l.length = n := ⟨_, rfl⟩
  rw [hn] at hO hm K ⊢
  clear hn
  by_cases c : n ≤ 500
  · have cz : (n : Int) ≤ 500 := by omega
    have HV : Hid (O = !l.any (fun x => decide (x.f ≥ x.t))) := Lib.hid (by rw [hO]; simp [c])
    clear hO
    go_enter Tryz.func91, Tryz.ntmps91
    go_wp2_with fail
    refine K.out.mono ?_
    rintro e w1 ⟨rfl, hg1⟩
    have HG1 := Lib.hid hg1
    generalize l.any (fun x => decide (x.f ≥ x.t)) = q at *
    clear hg1
    go_wp2_with fail
    go_ret
    exact ⟨retb HV.out.symm, HG1.out⟩
  · have cz : ¬ (n : Int) ≤ 500 := by omega
    have HV : Hid (O = false) := Lib.hid (by rw [hO]; simp [c])
    clear hO
    go_enter Tryz.func91, Tryz.ntmps91
    go_wp2_with fail
    go_ret
    exact ⟨retb HV.out.symm, HG.out⟩

end Go.Proofs.YtihdijkplmfhfaaGreatDoor.Span

/- What is between two instants, by the program and by the reckoning; spans without weights. Conditions: as each theorem states. -/
namespace Go.Proofs.YtihdijkplmfhfaaGreatDoor.Span
set_option maxRecDepth 100000
set_option maxRecDepth 100000
open Go.ChangeShapes Go.WideShapes Go.ChangeAt Go.RowKit
open Go.Proofs.YtihdijkplmfhfaaGreatDoor.Divs Go.Proofs.YtihdijkplmfhfaaGreatDoor.Grow
open Go.Proofs.YtihdijkplmfhfaaGreatDoor.By (Sk SL bool_no bool_yes)
open Go.Proofs.YtihdijkplmfhfaaGreatDoor.Sp

theorem max_two (x y : Int) (W : World) : (Builtin.max_ #[3, 3] 3 #[.int .i64 x, .int .i64 y]).run Tryz.prog W = .ok (.int .i64 (max x y)) W := by
  rw [run_max_int2]
  have : (if y > x then y else x) = max x y := by split <;> omega
  rw [this]

theorem min_two (x y : Int) (W : World) : (Builtin.min_ #[3, 3] 3 #[.int .i64 x, .int .i64 y]).run Tryz.prog W = .ok (.int .i64 (min x y)) W := by
  rw [run_min_int2]
  have : (if y < x then y else x) = min x y := by split <;> omega
  rw [this]

theorem cu_out {l : List Sp} {a b : Int} {k : Nat} {x : Sp} (h : l[k]? = some x) (hx : ¬ (cl a b x).f < (cl a b x).t) : cu (l.take (k + 1)) a b = cu (l.take k) a b := by
  rw [take_at h, cu_snoc, if_neg hx]
theorem cu_in {l : List Sp} {a b : Int} {k : Nat} {x : Sp} (h : l[k]? = some x) (hx : (cl a b x).f < (cl a b x).t) : cu (l.take (k + 1)) a b = cu (l.take k) a b ++ [cl a b x] := by
  rw [take_at h, cu_snoc, if_pos hx]

theorem ws_one (W : World) (x : Sp) : Ws (W.alloc (.cells #[.int .i64 x.f, .int .i64 x.t, .int .i64 x.m, .int .i64 x.p] 56)) (.slice (some ⟨W.heap.size, 0, none⟩) 1 1) [x] := by
  refine ⟨_, 1, rfl, by simp, by omega, by simp, fun i u hu => ⟨W.heap.size, 0, rfl, ?_⟩⟩
  rw [Nat.zero_add, World.cell?_alloc_new]
  rw [sf_one] at hu
  simpa [sc] using hu

set_option maxHeartbeats 2000000 in
theorem cut_any (v : Value) (l : List Sp) (a b : Int) (w : World) (h : Ws w v l) (hb : l.length ≤ 50000) :
    Calls Tryz.prog 28 #[v, .int .i64 a, .int .i64 b] w fun e w' => ∃ v', e = .returned v' ∧ WL w' w.heap.size v' (cu l a b) ∧ Later w w' := by
  have E := Lib.hid (fun x W => empty_any x W)
  obtain ⟨n, hn⟩ : ∃ n, l.length = n := ⟨_, rfl⟩
  have HN := Lib.hid hn
  have HG0 := Lib.hid (Later.refl w)
  have HV0 : Hid (WL w w.heap.size (.slice none 0 0) (cu (l.take 0) a b)) := Lib.hid (by rw [List.take_zero, cu_nil]; exact WL.nil w _)
  rcases Nat.eq_zero_or_pos n with h0 | h0
  · obtain ⟨ad, cap, rfl, hm⟩ := h.len
    rw [hn] at hm ⊢
    have hl : l = [] := List.length_eq_zero_iff.1 (hn.trans h0)
    subst h0
    have HV : Hid (WL w w.heap.size (.slice none 0 0) (cu l a b)) := Lib.hid (by rw [hl, cu_nil]; exact WL.nil w _)
    clear h hn hl HN
    go_enter Tryz.func28, Tryz.ntmps28
    go_wp2_with fail
    refine wp_loop_rounds 1 ?_
    rw [rounds_succ]
    go_wp2
    go_ret
    exact ⟨_, rfl, HV.out, HG0.out⟩
  · obtain ⟨B, off, cap, rfl, hm1, hm2, hB, hc⟩ := h.has (by omega)
    rw [hn] at hm1 hb ⊢
    have HC := Lib.hid hc
    clear h hn hc
    have ad : ∀ j, (⟨B, off, none⟩ : Addr).add j = ⟨B, off + j, none⟩ := Addr.add_mid B off
    go_enter Tryz.func28, Tryz.ntmps28
    go_wp2_with fail
    go_loopw [7, 12] (fun r i wr => ∃ k : Nat, k ≤ n ∧ i = .int .i64 (k : Int) ∧ WL wr w.heap.size r (cu (l.take k) a b) ∧ Later w wr) (fun _ i _ => n - (intOf i).toNat)
    case atStart => exact ⟨0, by omega, rfl, HV0.out, HG0.out⟩
    case round =>
      obtain ⟨k, hk, rfl, hr, hg⟩ := hrel
      have HR := Lib.hid hr
      have HG := Lib.hid hg
      clear hr hg
      by_cases hlt : k < n
      · obtain ⟨x, hx⟩ : ∃ x, l[k]? = some x := ⟨_, List.getElem?_eq_getElem (by rw [HN.out]; exact hlt)⟩
        have HX := Lib.hid hx
        obtain ⟨c0, c1, c2, c3⟩ := (HC.out k x hx).later HG.out
        clear hx
        have hkz : (k : Int) < (n : Int) := by omega
        have HCU : Hid ((cu (l.take k) a b).length ≤ k) := Lib.hid (Nat.le_trans (cu_len _ a b) (by rw [List.length_take]; omega))
        obtain ⟨F, hF⟩ : ∃ F, F = max x.f a := ⟨_, rfl⟩
        obtain ⟨T, hT⟩ : ∃ T, T = min x.t b := ⟨_, rfl⟩
        have mx : ∀ W, (Builtin.max_ #[3, 3] 3 #[.int .i64 x.f, .int .i64 a]).run Tryz.prog W = .ok (.int .i64 F) W := fun W => by rw [max_two, hF]
        have mn : ∀ W, (Builtin.min_ #[3, 3] 3 #[.int .i64 x.t, .int .i64 b]).run Tryz.prog W = .ok (.int .i64 T) W := fun W => by rw [min_two, hT]
        have HY : Hid (cl a b x = ⟨F, T, x.m, x.p⟩) := Lib.hid (by unfold cl; rw [hF, hT])
        clear hF hT
        have E' := Lib.hid (fun W => E.out ⟨F, T, x.m, x.p⟩ W)
        unfold sc at E'
        have hcall : ∀ W', (Later w W' ∧ WL W' w.heap.size u7 (cu (l.take k) a b) ∧ RA W' wr.heap.size #[.int .i64 F, .int .i64 T, .int .i64 x.m, .int .i64 x.p] 56) → Calls Tryz.prog 55 #[.agg #[.int .i64 F, .int .i64 T, .int .i64 x.m, .int .i64 x.p]] W' fun e w' => e = .returned (.bool (decide (F ≥ T))) ∧ Later w w' ∧ WL w' w.heap.size u7 (cu (l.take k) a b) ∧ RA w' wr.heap.size #[.int .i64 F, .int .i64 T, .int .i64 x.m, .int .i64 x.p] 56 :=
          fun W' hW => (E'.out W').mono (fun e w' ⟨he, hg⟩ => ⟨he, gtrans hW.1 hg, hW.2.1.later hg, hW.2.2.later hg⟩)
        have HCA := Lib.hid hcall
        have HRS := Lib.hid (show ∀ W', Later wr W' → WL W' w.heap.size u7 (cu (l.take k) a b) from fun W' g => HR.out.later g)
        clear hcall
        by_cases t : F ≥ T
        · have td : decide (F ≥ T) = true := decide_eq_true t
          have HV := Lib.hid (cu_out (a := a) (b := b) HX.out (by rw [HY.out]; simp only; omega))
          clear t
          rw [td] at HCA
          go_wp2_with fail
          refine (HCA.out _ ?_).mono ?_
          · refine ⟨?_, ?_, ?_⟩
            · first | exact HG.out.put _ | exact later_set2 (HG.out.put _) HG.out.size _ _
            · exact HRS.out _ (by first | exact (Later.refl wr).put _ | exact later_set2 ((Later.refl wr).put _) (Nat.le_refl _) _ _)
            · first | exact RA.new wr _ _ | (have := ((RA.new wr #[.int .i64 x.f, .int .i64 x.t, .int .i64 x.m, .int .i64 x.p] 56).set 0 (.int .i64 F)).set 1 (.int .i64 T); simpa using this)
          rintro e w1 ⟨rfl, hg1, hr1, hb1⟩
          have HG1 := Lib.hid hg1
          have HR1 : Hid (WL w1 w.heap.size u7 (cu (l.take (k + 1)) a b)) := Lib.hid (by rw [HV.out]; exact hr1)
          clear hg1 hr1 hb1
          go_wp2_with fail
          go_roundw
          case rel => exact ⟨k + 1, by omega, by go_num, HR1.out, HG1.out⟩
          case measure => simp [intOf]; omega
        · have td : decide (F ≥ T) = false := decide_eq_false t
          have HV := Lib.hid (cu_in (a := a) (b := b) HX.out (by rw [HY.out]; simp only; omega))
          clear t
          rw [td] at HCA
          go_wp2_with fail
          refine (HCA.out _ ?_).mono ?_
          · refine ⟨?_, ?_, ?_⟩
            · first | exact HG.out.put _ | exact later_set2 (HG.out.put _) HG.out.size _ _
            · exact HRS.out _ (by first | exact (Later.refl wr).put _ | exact later_set2 ((Later.refl wr).put _) (Nat.le_refl _) _ _)
            · first | exact RA.new wr _ _ | (have := ((RA.new wr #[.int .i64 x.f, .int .i64 x.t, .int .i64 x.m, .int .i64 x.p] 56).set 0 (.int .i64 F)).set 1 (.int .i64 T); simpa using this)
          rintro e w1 ⟨rfl, hg1, hr1, hb1⟩
          have HG1 := Lib.hid hg1
          have HR1 := Lib.hid hr1
          have b0 := hb1.cell 0 _ rfl
          have b1 := hb1.cell 1 _ rfl
          have b2 := hb1.cell 2 _ rfl
          have b3 := hb1.cell 3 _ rfl
          clear hg1 hr1 hb1
          go_wp2_with (refine append_spans rfl (.tmp 29) (.tmp 31) rfl w (HG1.out.put _) u7 (cu (l.take k) a b) rfl (HR1.out.later ((Later.refl w1).put _)) _ [⟨F, T, x.m, x.p⟩] rfl (ws_one w1 ⟨F, T, x.m, x.p⟩) (by have := HCU.out; simp only [List.length_cons, List.length_nil]; omega) ?_; intro v' w2 hw hl _; have HW := Lib.hid hw; have HL := Lib.hid hl; clear hw hl)
          go_roundw
          case rel => exact ⟨k + 1, by omega, by go_num, by rw [HV.out, HY.out]; exact HW.out, HL.out⟩
          case measure => simp [intOf]; omega
      · obtain rfl : k = n := by omega
        have HV : Hid (WL wr w.heap.size u7 (cu l a b)) := Lib.hid (by have := HR.out; rwa [List.take_of_length_le (by rw [HN.out]; exact Nat.le_refl _)] at this)
        go_wp2
        go_ret
        exact ⟨_, rfl, HV.out, HG.out⟩

end Go.Proofs.YtihdijkplmfhfaaGreatDoor.Span

/- What the reckoning's calls on slices of spans answer: what is between two instants, whether spans may be, whether two rows are the same; and spans whose weights are taken off. Conditions: as each theorem states. -/
namespace Go.Proofs.YtihdijkplmfhfaaGreatDoor.Span
set_option maxRecDepth 100000
set_option maxRecDepth 100000
open Go.ChangeShapes Go.WideShapes Go.ChangeAt Go.RowKit
open Go.Proofs.YtihdijkplmfhfaaGreatDoor.Divs Go.Proofs.YtihdijkplmfhfaaGreatDoor.Grow
open Go.Proofs.YtihdijkplmfhfaaGreatDoor.By (Sk SL bool_no bool_yes)
open Go.Proofs.YtihdijkplmfhfaaGreatDoor.Sp

theorem ws_one' {W : World} {n : Nat} (x : Sp) (hn : W.heap.size = n) : Ws (W.alloc (.cells #[.int .i64 x.f, .int .i64 x.t, .int .i64 x.m, .int .i64 x.p] 56)) (.slice (some ⟨n, 0, none⟩) 1 1) [x] := by
  subst hn
  exact ws_one W x

set_option maxHeartbeats 4000000 in
theorem rcut_any (v : Value) (l : List Sp) (a b : Int) (w : World) (h : Ws w v l) (hb : l.length ≤ 50000) :
    Calls Tryz.prog 39 #[v, .int .i64 a, .int .i64 b] w fun e w' => ∃ v', e = .returned v' ∧ WL w' w.heap.size v' (cu l a b) ∧ Later w w' := by
  obtain ⟨n, hn⟩ : ∃ n, l.length = n := ⟨_, rfl⟩
  have HN := Lib.hid hn
  have HG0 := Lib.hid (Later.refl w)
  have HV0 : Hid (WL w w.heap.size (.slice none 0 0) (cu (l.take 0) a b)) := Lib.hid (by rw [List.take_zero, cu_nil]; exact WL.nil w _)
  rcases Nat.eq_zero_or_pos n with h0 | h0
  · obtain ⟨ad, cap, rfl, hm⟩ := h.len
    rw [hn] at hm ⊢
    have hl : l = [] := List.length_eq_zero_iff.1 (hn.trans h0)
    subst h0
    have HV : Hid (WL w w.heap.size (.slice none 0 0) (cu l a b)) := Lib.hid (by rw [hl, cu_nil]; exact WL.nil w _)
    clear h hn hl HN
    go_enter Tryz.func39, Tryz.ntmps39
    go_wp2_with fail
    refine wp_loop_rounds 1 ?_
    rw [rounds_succ]
    go_wp2
    go_ret
    exact ⟨_, rfl, HV.out, HG0.out⟩
  · obtain ⟨B, off, cap, rfl, hm1, hm2, hB, hc⟩ := h.has (by omega)
    rw [hn] at hm1 hb ⊢
    have HC := Lib.hid hc
    clear h hn hc
    have ad : ∀ j, (⟨B, off, none⟩ : Addr).add j = ⟨B, off + j, none⟩ := Addr.add_mid B off
    go_enter Tryz.func39, Tryz.ntmps39
    go_wp2_with fail
    go_loopw [7, 8] (fun r i wr => ∃ k : Nat, k ≤ n ∧ i = .int .i64 (k : Int) ∧ WL wr w.heap.size r (cu (l.take k) a b) ∧ Later w wr) (fun _ i _ => n - (intOf i).toNat)
    case atStart => exact ⟨0, by omega, rfl, HV0.out, HG0.out⟩
    case round =>
      obtain ⟨k, hk, rfl, hr, hg⟩ := hrel
      have HR := Lib.hid hr
      have HG := Lib.hid hg
      clear hr hg
      by_cases hlt : k < n
      · obtain ⟨x, hx⟩ : ∃ x, l[k]? = some x := ⟨_, List.getElem?_eq_getElem (by rw [HN.out]; exact hlt)⟩
        have HX := Lib.hid hx
        obtain ⟨c0, c1, c2, c3⟩ := (HC.out k x hx).later HG.out
        clear hx
        have hkz : (k : Int) < (n : Int) := by omega
        have HCU : Hid ((cu (l.take k) a b).length ≤ k) := Lib.hid (Nat.le_trans (cu_len _ a b) (by rw [List.length_take]; omega))
        by_cases t1 : x.f < a
        · by_cases t2 : x.t > b
          · have HY : Hid (cl a b x = ⟨a, b, x.m, x.p⟩) := Lib.hid (by unfold cl; congr 1 <;> omega)
            by_cases t3 : a < b
            · have HV := Lib.hid (cu_in (a := a) (b := b) HX.out (by rw [HY.out]; exact t3))
              go_wp2_with (refine append_spans rfl (.tmp 37) (.tmp 39) rfl w (by first | exact Later.put (HG.out.put _) _ | exact Later.put (later_set2 (HG.out.put _) HG.out.size _ _) _) u7 (cu (l.take k) a b) rfl (HR.out.later (by first | exact Later.put ((Later.refl wr).put _) _ | exact Later.put (later_set2 ((Later.refl wr).put _) (Nat.le_refl _) _ _) _)) _ [⟨a, b, x.m, x.p⟩] rfl (ws_one' ⟨a, b, x.m, x.p⟩ (by simp)) (by have := HCU.out; simp only [List.length_cons, List.length_nil]; omega) ?_; intro v' w2 hw hl _; have HW := Lib.hid hw; have HL := Lib.hid hl; clear hw hl)
              go_roundw
              case rel => exact ⟨k + 1, by omega, by go_num, by rw [HV.out, HY.out]; exact HW.out, HL.out⟩
              case measure => simp [intOf]; omega
            · have HV := Lib.hid (cu_out (a := a) (b := b) HX.out (by rw [HY.out]; exact t3))
              go_wp2
              go_roundw
              case rel => exact ⟨k + 1, by omega, by go_num, by rw [HV.out]; exact HR.out.later (by first | exact ((Later.refl wr).put _) | exact (later_set2 ((Later.refl wr).put _) (Nat.le_refl _) _ _)), (by first | exact (HG.out.put _) | exact (later_set2 (HG.out.put _) HG.out.size _ _))⟩
              case measure => simp [intOf]; omega
          · have HY : Hid (cl a b x = ⟨a, x.t, x.m, x.p⟩) := Lib.hid (by unfold cl; congr 1 <;> omega)
            by_cases t3 : a < x.t
            · have HV := Lib.hid (cu_in (a := a) (b := b) HX.out (by rw [HY.out]; exact t3))
              go_wp2_with (refine append_spans rfl (.tmp 37) (.tmp 39) rfl w (by first | exact Later.put (HG.out.put _) _ | exact Later.put (later_set (HG.out.put _) HG.out.size _ _) _) u7 (cu (l.take k) a b) rfl (HR.out.later (by first | exact Later.put ((Later.refl wr).put _) _ | exact Later.put (later_set ((Later.refl wr).put _) (Nat.le_refl _) _ _) _)) _ [⟨a, x.t, x.m, x.p⟩] rfl (ws_one' ⟨a, x.t, x.m, x.p⟩ (by simp)) (by have := HCU.out; simp only [List.length_cons, List.length_nil]; omega) ?_; intro v' w2 hw hl _; have HW := Lib.hid hw; have HL := Lib.hid hl; clear hw hl)
              go_roundw
              case rel => exact ⟨k + 1, by omega, by go_num, by rw [HV.out, HY.out]; exact HW.out, HL.out⟩
              case measure => simp [intOf]; omega
            · have HV := Lib.hid (cu_out (a := a) (b := b) HX.out (by rw [HY.out]; exact t3))
              go_wp2
              go_roundw
              case rel => exact ⟨k + 1, by omega, by go_num, by rw [HV.out]; exact HR.out.later (by first | exact ((Later.refl wr).put _) | exact (later_set ((Later.refl wr).put _) (Nat.le_refl _) _ _)), (by first | exact (HG.out.put _) | exact (later_set (HG.out.put _) HG.out.size _ _))⟩
              case measure => simp [intOf]; omega
        · by_cases t2 : x.t > b
          · have HY : Hid (cl a b x = ⟨x.f, b, x.m, x.p⟩) := Lib.hid (by unfold cl; congr 1 <;> omega)
            by_cases t3 : x.f < b
            · have HV := Lib.hid (cu_in (a := a) (b := b) HX.out (by rw [HY.out]; exact t3))
              go_wp2_with (refine append_spans rfl (.tmp 37) (.tmp 39) rfl w (by first | exact Later.put (HG.out.put _) _ | exact Later.put (later_set (HG.out.put _) HG.out.size _ _) _) u7 (cu (l.take k) a b) rfl (HR.out.later (by first | exact Later.put ((Later.refl wr).put _) _ | exact Later.put (later_set ((Later.refl wr).put _) (Nat.le_refl _) _ _) _)) _ [⟨x.f, b, x.m, x.p⟩] rfl (ws_one' ⟨x.f, b, x.m, x.p⟩ (by simp)) (by have := HCU.out; simp only [List.length_cons, List.length_nil]; omega) ?_; intro v' w2 hw hl _; have HW := Lib.hid hw; have HL := Lib.hid hl; clear hw hl)
              go_roundw
              case rel => exact ⟨k + 1, by omega, by go_num, by rw [HV.out, HY.out]; exact HW.out, HL.out⟩
              case measure => simp [intOf]; omega
            · have HV := Lib.hid (cu_out (a := a) (b := b) HX.out (by rw [HY.out]; exact t3))
              go_wp2
              go_roundw
              case rel => exact ⟨k + 1, by omega, by go_num, by rw [HV.out]; exact HR.out.later (by first | exact ((Later.refl wr).put _) | exact (later_set ((Later.refl wr).put _) (Nat.le_refl _) _ _)), (by first | exact (HG.out.put _) | exact (later_set (HG.out.put _) HG.out.size _ _))⟩
              case measure => simp [intOf]; omega
          · have HY : Hid (cl a b x = ⟨x.f, x.t, x.m, x.p⟩) := Lib.hid (by unfold cl; congr 1 <;> omega)
            by_cases t3 : x.f < x.t
            · have HV := Lib.hid (cu_in (a := a) (b := b) HX.out (by rw [HY.out]; exact t3))
              go_wp2_with (refine append_spans rfl (.tmp 37) (.tmp 39) rfl w (by first | exact Later.put (HG.out.put _) _ | exact Later.put (HG.out.put _) _) u7 (cu (l.take k) a b) rfl (HR.out.later (by first | exact Later.put ((Later.refl wr).put _) _ | exact Later.put ((Later.refl wr).put _) _)) _ [⟨x.f, x.t, x.m, x.p⟩] rfl (ws_one' ⟨x.f, x.t, x.m, x.p⟩ (by simp)) (by have := HCU.out; simp only [List.length_cons, List.length_nil]; omega) ?_; intro v' w2 hw hl _; have HW := Lib.hid hw; have HL := Lib.hid hl; clear hw hl)
              go_roundw
              case rel => exact ⟨k + 1, by omega, by go_num, by rw [HV.out, HY.out]; exact HW.out, HL.out⟩
              case measure => simp [intOf]; omega
            · have HV := Lib.hid (cu_out (a := a) (b := b) HX.out (by rw [HY.out]; exact t3))
              go_wp2
              go_roundw
              case rel => exact ⟨k + 1, by omega, by go_num, by rw [HV.out]; exact HR.out.later (by first | exact ((Later.refl wr).put _) | exact ((Later.refl wr).put _)), (by first | exact (HG.out.put _) | exact (HG.out.put _))⟩
              case measure => simp [intOf]; omega
      · obtain rfl : k = n := by omega
        have HV : Hid (WL wr w.heap.size u7 (cu l a b)) := Lib.hid (by have := HR.out; rwa [List.take_of_length_le (by rw [HN.out]; exact Nat.le_refl _)] at this)
        go_wp2
        go_ret
        exact ⟨_, rfl, HV.out, HG.out⟩

theorem mb_long {l : List Sp} (h : 500 < l.length) : mb l = false := by unfold mb; simp; omega
theorem mb_bad {l : List Sp} {k : Nat} {x : Sp} (hx : l[k]? = some x) (h : x.f ≥ x.t) : mb l = false := by
  unfold mb
  have : l.any (fun x => decide (x.f ≥ x.t)) = true := List.any_eq_true.2 ⟨x, List.mem_of_getElem? hx, by simpa using h⟩
  rw [this]; simp
theorem mb_good {l : List Sp} (h : ∀ j x, j < l.length → l[j]? = some x → ¬ x.f ≥ x.t) : mb l = decide (l.length ≤ 500) := by
  unfold mb
  have : l.any (fun x => decide (x.f ≥ x.t)) = false := by
    rw [List.any_eq_false]
    intro x hx
    obtain ⟨i, hi⟩ := List.mem_iff_getElem?.1 hx
    have := h i x (List.getElem?_eq_some_iff.1 hi).1 hi
    simpa using this
  rw [this]; simp

end Go.Proofs.YtihdijkplmfhfaaGreatDoor.Span
