/-
  From the condition on the table of half bytes (what the program's own text lays there) to what the walks ask, and a start that meets it; slices of bytes and two bytes as arguments. No further condition.
-/
import Derived.Test.YtbelhaaibieehaaDoorRows
import Derived.Test.YtbelhaaibieehaaDoorTie
import Derived.Test.YtbelhaaibieehaaDoorCards
import Derived.Test.YtbelhaaibieehaaDoorCa
import Derived.ProofKit
import Derived.LaidMore
import Derived.OpenShut
import Derived.ShutString
import Derived.ChangeOld
import Derived.Below
import Derived.Stop.Joined
import Derived.Lib.LaidTab
import Derived.Lib.SmallJoins
import Derived.SevenTiedAt
namespace Go.Proofs.YtbelhaaibieehaaDoor.Crc
open Go.ChangeShapes Go.WideShapes Go.ChangeAt Go.RowKit
open Go.Proofs.YtbelhaaibieehaaDoor.Divs Go.Proofs.YtbelhaaibieehaaDoor.Grow Go.Proofs.YtbelhaaibieehaaDoor.By Go.Proofs.YtbelhaaibieehaaDoor.Cr

theorem own : ownKnob Tryd.prog.godebug = none := by kernel_rfl
theorem laidOut : laidOutB Tryd.prog = true := by kernel_rfl
theorem cells36 : Tryd.prog.cellsOf 36 = 1 := by kernel_rfl
theorem cells41 : Tryd.prog.cellsOf 41 = 16 := by kernel_rfl
theorem gHalves : Tryd.prog.globalNamed "newel/crc.halves" = some 0 := by kernel_rfl
theorem tHalves : (Tryd.prog.globals[0]?).map (·.type) = some 41 := by kernel_rfl

def laidL : List (String × DataW Unit) := [("newel/crc.halves", Rows.laid_newel_crc_halves)]

theorem of_laid {W : World} (h : laidMetH Tryd.prog laidL W) : Laid W := by
  unfold laidL at h
  rw [MakeChecks.laidMetH_plain _ _ _ (by kernel_rfl)] at h
  have t : Lib.TabIs Tryd.prog W "newel/crc.halves" .u16 [0, 4129, 8258, 12387, 16516, 20645, 24774, 28903, 33032, 37161, 41290, 45419, 49548, 53677, 57806, 61935] :=
    Lib.tabIs_of_head (rest := []) gHalves tHalves Tryd.underlying41 Tryd.underlying36 cells36 cells41 h
  have k : ∀ j : Fin 16, [0, 4129, 8258, 12387, 16516, 20645, 24774, 28903, 33032, 37161, 41290, 45419, 49548, 53677, 57806, 61935].getD j.val 0 = ((tb j.val).toNat : Int) := by decide +kernel
  intro i hi
  rw [t.cell gHalves i (by simpa using hi), ← k ⟨i, hi⟩]

theorem door_met (os : Os) (args : Array Value) : laidMetH Tryd.prog laidL ((World.doorLaid Tryd.prog 400 os).forCall (fun _ _ => 0) ⟨#[], args, []⟩).memory :=
  laidMetH_of_parts3 (fuel := 8) (laidMet_of_run' 8 (by kernel_rfl) (by kernel_rfl)) (by kernel_rfl) (by kernel_rfl)

theorem cells5 : Tryd.prog.cellsOf 5 = 1 := by kernel_rfl
theorem cells34 : Tryd.prog.cellsOf 34 = 2 := by kernel_rfl

section
variable {H : Type} {enc : TypeId × Value → H} {w : World} {base : Nat} {spare : Nat → Bool} {held : Bool}

/-- A slice of bytes as an argument: its cells. -/
theorem open_bytes {r : Reach} {b0 : Nat} {v : Value} {d : DataW H} {p : List MemPlace} (hv : Value.okWide Tryd.prog w r b0 22 v) (h : DataW.Trod enc Tryd.prog w base spare held 22 v d p) :
    ∃ xs : List Int, Sk .u8 w v xs ∧ ∀ x ∈ xs, 0 ≤ x ∧ x ≤ 255 := by
  obtain ⟨a, len, cap, rfl⟩ := okWide_slice Tryd.underlying22 hv
  obtain ⟨fuel, hf⟩ := h
  rcases open_ints Tryd.underlying22 Tryd.underlying5 (by kernel_rfl) hf with ⟨hcs, _⟩ | ⟨x, l, c, zs, hcs, _, hl, hm, hz, _, hcell, hwz⟩
  · simp [Value.cells] at hcs
    obtain ⟨rfl, rfl, rfl⟩ := hcs
    exact ⟨[], sk_nil _ _, by simp⟩
  · simp [Value.cells] at hcs
    obtain ⟨rfl, rfl, rfl⟩ := hcs
    have h2 : zs.length = if spare x.block = true then cap else len := by simpa using hz
    have hz' : len ≤ zs.length := by rw [h2]; split <;> omega
    have he : (zs.take len).length = len := by rw [List.length_take]; omega
    refine ⟨zs.take len, ⟨some x, cap, by rw [he], by rw [he]; exact hl, by simpa [maxLen] using hm, by simp, fun i y hy => ?_⟩, fun n hn => bounds_u8 (hwz n (List.mem_of_mem_take hn))⟩
    have hi : i < len := by
      have := (List.getElem?_eq_some_iff.1 hy).1
      omega
    obtain ⟨b, off, rfl, hc⟩ := ints_at hcell (by omega)
    refine ⟨b, off, rfl, ?_⟩
    rw [List.getElem?_take_of_lt hi] at hy
    have := hc i (by omega)
    rwa [List.getD_eq_getElem?_getD, hy] at this

/-- Two bytes by value. -/
theorem open_two {r : Reach} {b0 : Nat} {v : Value} {d : DataW H} {p : List MemPlace} (hv : Value.okWide Tryd.prog w r b0 34 v) (h : DataW.Trod enc Tryd.prog w base spare held 34 v d p) :
    ∃ a b : Int, v = .agg #[.int .u8 a, .int .u8 b] ∧ d = .agg [.lit (.int .u8 a), .lit (.int .u8 b)] ∧ p = [] ∧ (Lit.int .u8 a).wf = true ∧ (Lit.int .u8 b).wf = true := by
  obtain ⟨cs, rfl, hsz, _⟩ : ∃ cs, v = .agg cs ∧ cs.size = Tryd.prog.cellsOf 34 ∧ Row.okWide Tryd.prog w r b0 34 cs := by
    simpa [Value.okWide, Tryd.underlying34] using hv
  rw [cells34] at hsz
  obtain ⟨l⟩ := cs
  obtain ⟨c0, c1, rfl⟩ : ∃ c0 c1, l = [c0, c1] := by
    match l, (by simpa using hsz : l.length = 2) with
    | [c0, c1], _ => exact ⟨_, _, rfl⟩
  obtain ⟨fuel, hf⟩ := h
  obtain ⟨xs, m, _, ex, _, hl, hel⟩ := DataW.trod_array Tryd.underlying34 hf
  obtain ⟨y0, y1, rfl⟩ : ∃ y0 y1, xs = [y0, y1] := by
    match xs, hl with
    | [y0, y1], _ => exact ⟨_, _, rfl⟩
  have int_of : ∀ (c : Value) (y : DataW H × List MemPlace), DataW.trod enc Tryd.prog w base spare held m 5 [c] = some y → ∃ a : Int, c = .int .u8 a ∧ y = (.lit (.int .u8 a), []) ∧ (Lit.int .u8 a).wf = true := by
    intro c y hy
    obtain ⟨a, e, rfl, w0⟩ := DataW.trod_int Tryd.underlying5 hy
    simp only [List.cons.injEq, and_true] at e
    exact ⟨a, e, rfl, w0⟩
  obtain ⟨a0, rfl, rfl, w0⟩ := int_of c0 y0 (by have := hel 0 (by omega); simpa [Value.cells, cells5] using this)
  obtain ⟨a1, rfl, rfl, w1⟩ := int_of c1 y1 (by have := hel 1 (by omega); simpa [Value.cells, cells5] using this)
  simp only [Prod.mk.injEq] at ex
  obtain ⟨rfl, rfl⟩ := ex
  exact ⟨a0, a1, rfl, rfl, rfl, w0, w1⟩

theorem shut_two (a b : Int) (w0 : (Lit.int .u8 a).wf = true) (w1 : (Lit.int .u8 b).wf = true) : DataW.Trod enc Tryd.prog w base spare held 34 (.agg #[.int .u8 a, .int .u8 b]) (.agg [.lit (.int .u8 a), .lit (.int .u8 b)]) [] :=
  ⟨2, by simp [DataW.trod, Value.cells, Tryd.underlying34, Tryd.underlying5, cells34, cells5, w0, w1, show List.range 2 = [0, 1] from rfl]⟩

end

end Go.Proofs.YtbelhaaibieehaaDoor.Crc
