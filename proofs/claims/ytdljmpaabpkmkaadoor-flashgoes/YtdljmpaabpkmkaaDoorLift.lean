/-
  From the condition on the table of half bytes (what the program's own text lays there) to what the walks ask, and a start that meets it; slices of bytes and two bytes as arguments. No further condition.
-/
import Derived.Test.YtdljmpaabpkmkaaDoorRows
import Derived.Test.YtdljmpaabpkmkaaDoorTie
import Derived.Test.YtdljmpaabpkmkaaDoorCards
import Derived.Test.YtdljmpaabpkmkaaDoorKo
import Derived.ProofKit
import Derived.LaidMore
import Derived.OpenShut
import Derived.ShutString
import Derived.ChangeOld
import Derived.Below
import Derived.Stop.Joined
import Derived.Lib.LaidTab
import Derived.Lib.SmallJoins
import Derived.SevenTiedAt
namespace Go.Proofs.YtdljmpaabpkmkaaDoor.Crc
set_option maxRecDepth 100000
open Go.ChangeShapes Go.WideShapes Go.ChangeAt Go.RowKit
open Go.Proofs.YtdljmpaabpkmkaaDoor.Divs Go.Proofs.YtdljmpaabpkmkaaDoor.Grow Go.Proofs.YtdljmpaabpkmkaaDoor.By Go.Proofs.YtdljmpaabpkmkaaDoor.Cr

theorem own : ownKnob Tryd.prog.godebug = none := by kernel_rfl
theorem laidOut : laidOutB Tryd.prog = true := by kernel_rfl
theorem cells36 : Tryd.prog.cellsOf 101 = 1 := by kernel_rfl
theorem cells41 : Tryd.prog.cellsOf 103 = 16 := by kernel_rfl
theorem gHalves : Tryd.prog.globalNamed "newel/crc.halves" = some 0 := by kernel_rfl
theorem tHalves : (Tryd.prog.globals[0]?).map (·.type) = some 103 := by kernel_rfl

def laidL : List (String × DataW Unit) := [("newel/crc.halves", Rows.laid_newel_crc_halves)]

theorem of_laid {W : World} (h : laidMetH Tryd.prog laidL W) : Laid W := by
  unfold laidL at h
  rw [MakeChecks.laidMetH_plain _ _ _ (by kernel_rfl)] at h
  have t : Lib.TabIs Tryd.prog W "newel/crc.halves" .u16 [0, 4129, 8258, 12387, 16516, 20645, 24774, 28903, 33032, 37161, 41290, 45419, 49548, 53677, 57806, 61935] :=
    Lib.tabIs_of_head (rest := []) gHalves tHalves Tryd.underlying103 Tryd.underlying101 cells36 cells41 h
  have k : ∀ j : Fin 16, [0, 4129, 8258, 12387, 16516, 20645, 24774, 28903, 33032, 37161, 41290, 45419, 49548, 53677, 57806, 61935].getD j.val 0 = ((tb j.val).toNat : Int) := by decide +kernel
  intro i hi
  rw [t.cell gHalves i (by simpa using hi), ← k ⟨i, hi⟩]

theorem door_met (os : Os) (args : Array Value) : laidMetH Tryd.prog laidL ((World.doorLaid Tryd.prog 400 os).forCall (fun _ _ => 0) ⟨#[], args, []⟩).memory :=
  laidMetH_of_parts3 (fuel := 8) (laidMet_of_run' 8 (by kernel_rfl) (by kernel_rfl)) (by kernel_rfl) (by kernel_rfl)

section
variable {H : Type} {enc : TypeId × Value → H} {w : World} {base : Nat} {spare : Nat → Bool} {held : Bool}

/-- A slice of bytes as an argument: its cells. -/
theorem open_bytes {r : Reach} {b0 : Nat} {v : Value} {d : DataW H} {p : List MemPlace} (hv : Value.okWide Tryd.prog w r b0 22 v) (h : DataW.Trod enc Tryd.prog w base spare held 22 v d p) :
    ∃ xs : List Int, Sk .u8 w v xs ∧ ∀ x ∈ xs, 0 ≤ x ∧ x ≤ 255 := by
  obtain ⟨a, len, cap, rfl⟩ := okWide_slice Tryd.underlying22 hv
  obtain ⟨fuel, hf⟩ := h
  rcases open_ints Tryd.underlying22 Tryd.underlying5 (by kernel_rfl) hf with ⟨hcs, _⟩ | ⟨x, l, c, zs, hcs, _, hl, hm, hz, _, hcell, hwz⟩
  · simp [Value.cells] at hcs
    obtain ⟨rfl, rfl, rfl⟩ := hcs
    exact ⟨[], sk_nil _ _, by simp⟩
  · simp [Value.cells] at hcs
    obtain ⟨rfl, rfl, rfl⟩ := hcs
    have h2 : zs.length = if spare x.block = true then cap else len := by simpa using hz
    have hz' : len ≤ zs.length := by rw [h2]; split <;> omega
    have he : (zs.take len).length = len := by rw [List.length_take]; omega
    refine ⟨zs.take len, ⟨some x, cap, by rw [he], by rw [he]; exact hl, by simpa [maxLen] using hm, by simp, fun i y hy => ?_⟩, fun n hn => bounds_u8 (hwz n (List.mem_of_mem_take hn))⟩
    have hi : i < len := by
      have := (List.getElem?_eq_some_iff.1 hy).1
      omega
    obtain ⟨b, off, rfl, hc⟩ := ints_at hcell (by omega)
    refine ⟨b, off, rfl, ?_⟩
    rw [List.getElem?_take_of_lt hi] at hy
    have := hc i (by omega)
    rwa [List.getD_eq_getElem?_getD, hy] at this

end

end Go.Proofs.YtdljmpaabpkmkaaDoor.Crc
