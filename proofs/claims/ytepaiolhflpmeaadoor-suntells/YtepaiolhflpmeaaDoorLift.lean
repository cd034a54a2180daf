/-
  From the condition on the table of months (what the program's own text lays there) to what the walks ask, and a start that meets it. No further condition.
-/
import Derived.Test.YtepaiolhflpmeaaDoorRows
import Derived.Test.YtepaiolhflpmeaaDoorTie
import Derived.Test.YtepaiolhflpmeaaDoorCards
import Derived.Test.YtepaiolhflpmeaaDoorSw
import Derived.ProofKit
import Derived.LaidMore
import Derived.OpenShut
import Derived.Stop.Joined
import Derived.Lib.LaidTab
import Derived.Lib.SmallJoins
import Derived.SevenTiedAt
namespace Go.Proofs.YtepaiolhflpmeaaDoor.Greg
open Go.ChangeShapes Go.WideShapes Go.ChangeAt Go.RowKit
open Go.Proofs.YtepaiolhflpmeaaDoor.Divs Go.Proofs.YtepaiolhflpmeaaDoor.Grow

theorem own : ownKnob Tryd.prog.godebug = none := by kernel_rfl
theorem cells3 : Tryd.prog.cellsOf 3 = 1 := by kernel_rfl
theorem cells23 : Tryd.prog.cellsOf 44 = 3 := by kernel_rfl
theorem cells39 : Tryd.prog.cellsOf 22 = 12 := by kernel_rfl
theorem gMonths : Tryd.prog.globalNamed "newel/greg.monthDays" = some 0 := by kernel_rfl
theorem tMonths : (Tryd.prog.globals[0]?).map (·.type) = some 22 := by kernel_rfl

def laidL : List (String × DataW Unit) := [("newel/greg.monthDays", Rows.laid_newel_greg_monthDays)]

theorem of_laid {W : World} (h : laidMetH Tryd.prog laidL W) : Laid W := by
  unfold laidL at h
  rw [MakeChecks.laidMetH_plain _ _ _ (by kernel_rfl)] at h
  have t : Lib.TabIs Tryd.prog W "newel/greg.monthDays" .i64 [31, 28, 31, 30, 31, 30, 31, 31, 30, 31, 30, 31] :=
    Lib.tabIs_of_head (rest := []) gMonths tMonths Tryd.underlying22 Tryd.underlying3 cells3 cells39 h
  intro i hi
  rw [t.cell gMonths i (by simpa using hi)]
  obtain rfl | rfl | rfl | rfl | rfl | rfl | rfl | rfl | rfl | rfl | rfl | rfl : i = 0 ∨ i = 1 ∨ i = 2 ∨ i = 3 ∨ i = 4 ∨ i = 5 ∨ i = 6 ∨ i = 7 ∨ i = 8 ∨ i = 9 ∨ i = 10 ∨ i = 11 := by omega
  all_goals rfl

theorem door_met (os : Os) (args : Array Value) : laidMetH Tryd.prog laidL ((World.doorLaid Tryd.prog 400 os).forCall (fun _ _ => 0) ⟨#[], args, []⟩).memory :=
  laidMetH_of_parts3 (fuel := 8) (laidMet_of_run' 8 (by kernel_rfl) (by kernel_rfl)) (by kernel_rfl) (by kernel_rfl)

open Go.Proofs.YtepaiolhflpmeaaDoor.Zo Go.Proofs.YtepaiolhflpmeaaDoor.Zone Go.Joins

/-- A zone's numbers are ints. -/
def Zwf (z : Zn) : Prop := (Lit.int .i64 z.b).wf = true ∧ (Lit.int .i64 z.s).wf = true ∧ (Lit.int .i64 z.p.m).wf = true ∧ (Lit.int .i64 z.p.k).wf = true ∧ (Lit.int .i64 z.p.v).wf = true ∧ (Lit.int .i64 z.p.u).wf = true ∧ (Lit.int .i64 z.q.m).wf = true ∧ (Lit.int .i64 z.q.k).wf = true ∧ (Lit.int .i64 z.q.v).wf = true ∧ (Lit.int .i64 z.q.u).wf = true

/-- A zone's datum. -/
def zd {H : Type} (z : Zn) : DataW H := .agg [.lit (.int .i64 z.b), .lit (.int .i64 z.s), .agg [.lit (.int .i64 z.p.m), .lit (.int .i64 z.p.k), .lit (.int .i64 z.p.v), .lit (.int .i64 z.p.u)], .agg [.lit (.int .i64 z.q.m), .lit (.int .i64 z.q.k), .lit (.int .i64 z.q.v), .lit (.int .i64 z.q.u)]]

theorem cellsT : Tryd.prog.cellsOf 33 = 4 := by kernel_rfl
theorem cellsZ : Tryd.prog.cellsOf 35 = 10 := by kernel_rfl

section
variable {H : Type} {enc : TypeId × Value → H} {w : World} {base : Nat} {spare : Nat → Bool} {held : Bool}

theorem open_turn {n : Nat} {v0 v1 v2 v3 : Value} {x : DataW H × List MemPlace} (h : DataW.trod enc Tryd.prog w base spare held n 33 [v0, v1, v2, v3] = some x) :
    ∃ t : Tn, v0 = .int .i64 t.m ∧ v1 = .int .i64 t.k ∧ v2 = .int .i64 t.v ∧ v3 = .int .i64 t.u ∧ x = (.agg [.lit (.int .i64 t.m), .lit (.int .i64 t.k), .lit (.int .i64 t.v), .lit (.int .i64 t.u)], []) ∧
      ((Lit.int .i64 t.m).wf = true ∧ (Lit.int .i64 t.k).wf = true ∧ (Lit.int .i64 t.v).wf = true ∧ (Lit.int .i64 t.u).wf = true) := by
  obtain ⟨y0, y1, y2, y3, n', hx, _, h0, h1, h2, h3⟩ := trod_struct4 Tryd.underlying33 h
  simp [cells3] at h0 h1 h2 h3
  obtain ⟨a, e0, rfl, w0⟩ := DataW.trod_int Tryd.underlying3 h0
  obtain ⟨b, e1, rfl, w1⟩ := DataW.trod_int Tryd.underlying3 h1
  obtain ⟨c, e2, rfl, w2⟩ := DataW.trod_int Tryd.underlying3 h2
  obtain ⟨d, e3, rfl, w3⟩ := DataW.trod_int Tryd.underlying3 h3
  simp only [List.cons.injEq, and_true] at e0 e1 e2 e3
  exact ⟨⟨a, b, c, d⟩, e0, e1, e2, e3, by simpa using hx, w0, w1, w2, w3⟩

theorem shut_turn (t : Tn) (h : (Lit.int .i64 t.m).wf = true ∧ (Lit.int .i64 t.k).wf = true ∧ (Lit.int .i64 t.v).wf = true ∧ (Lit.int .i64 t.u).wf = true) :
    DataW.trod enc Tryd.prog w base spare held 2 33 [.int .i64 t.m, .int .i64 t.k, .int .i64 t.v, .int .i64 t.u] = some (.agg [.lit (.int .i64 t.m), .lit (.int .i64 t.k), .lit (.int .i64 t.v), .lit (.int .i64 t.u)], []) := by
  obtain ⟨w0, w1, w2, w3⟩ := h
  have := trod_struct4_mk (enc := enc) (w := w) (base := base) (spare := spare) (held := held) (n := 1) (cs := [.int .i64 t.m, .int .i64 t.k, .int .i64 t.v, .int .i64 t.u]) (y0 := (.lit (.int .i64 t.m), [])) (y1 := (.lit (.int .i64 t.k), [])) (y2 := (.lit (.int .i64 t.v), [])) (y3 := (.lit (.int .i64 t.u), [])) Tryd.underlying33 (by rw [cellsT]; rfl)
    (by simp [cells3, DataW.trod, Tryd.underlying3, w0]) (by simp [cells3, DataW.trod, Tryd.underlying3, w1]) (by simp [cells3, DataW.trod, Tryd.underlying3, w2]) (by simp [cells3, DataW.trod, Tryd.underlying3, w3])
  simpa using this

theorem open_zone {r : Reach} {b0 : Nat} {v : Value} {d : DataW H} {p : List MemPlace} (hv : Value.okWide Tryd.prog w r b0 35 v) (h : DataW.Trod enc Tryd.prog w base spare held 35 v d p) :
    ∃ z : Zn, v = .agg (zc z) ∧ d = zd z ∧ p = [] ∧ Zwf z := by
  obtain ⟨cs, rfl, hsz⟩ := okWide_struct Tryd.underlying35 hv
  obtain ⟨l⟩ := cs
  match l, hsz.trans cellsZ with
  | [c0, c1, c2, c3, c4, c5, c6, c7, c8, c9], _ =>
    obtain ⟨fuel, hf⟩ := h
    obtain ⟨y0, y1, y2, y3, n, hx, _, h0, h1, h2, h3⟩ := trod_struct4 Tryd.underlying35 hf
    simp [Value.cells, cells3] at h0 h1
    simp [Value.cells, cellsT] at h2 h3
    obtain ⟨a, e0, rfl, w0⟩ := DataW.trod_int Tryd.underlying3 h0
    obtain ⟨b, e1, rfl, w1⟩ := DataW.trod_int Tryd.underlying3 h1
    obtain ⟨s, rfl, rfl, rfl, rfl, rfl, ws0, ws1, ws2, ws3⟩ := open_turn h2
    obtain ⟨t, rfl, rfl, rfl, rfl, rfl, wt0, wt1, wt2, wt3⟩ := open_turn h3
    simp only [List.cons.injEq, and_true] at e0 e1
    subst e0 e1
    simp only [Prod.mk.injEq] at hx
    exact ⟨⟨a, b, s, t⟩, rfl, hx.1, by simpa using hx.2, w0, w1, ws0, ws1, ws2, ws3, wt0, wt1, wt2, wt3⟩

theorem shut_zone (z : Zn) (h : Zwf z) : DataW.Trod enc Tryd.prog w base spare held 35 (.agg (zc z)) (zd z) [] := by
  obtain ⟨w0, w1, ws0, ws1, ws2, ws3, wt0, wt1, wt2, wt3⟩ := h
  have hp := shut_turn (enc := enc) (w := w) (base := base) (spare := spare) (held := held) z.p ⟨ws0, ws1, ws2, ws3⟩
  have hq := shut_turn (enc := enc) (w := w) (base := base) (spare := spare) (held := held) z.q ⟨wt0, wt1, wt2, wt3⟩
  have := trod_struct4_mk (enc := enc) (w := w) (base := base) (spare := spare) (held := held) (n := 2) (cs := (zc z).toList) (y0 := (.lit (.int .i64 z.b), [])) (y1 := (.lit (.int .i64 z.s), [])) (y2 := (.agg [.lit (.int .i64 z.p.m), .lit (.int .i64 z.p.k), .lit (.int .i64 z.p.v), .lit (.int .i64 z.p.u)], [])) (y3 := (.agg [.lit (.int .i64 z.q.m), .lit (.int .i64 z.q.k), .lit (.int .i64 z.q.v), .lit (.int .i64 z.q.u)], [])) Tryd.underlying35 (by rw [cellsZ]; rfl)
    (by simp [zc, cells3, DataW.trod, Tryd.underlying3, w0]) (by simp [zc, cells3, DataW.trod, Tryd.underlying3, w1]) (by simpa [zc, cellsT] using hp) (by simpa [zc, cellsT] using hq)
  exact ⟨3, by simpa [Value.cells, zc, zd] using this⟩

end

end Go.Proofs.YtepaiolhflpmeaaDoor.Greg
