/-
  A slice of bytes stays what it is where a block that holds no bytes is written. No condition but those that each theorem states.
-/
import Derived.Test.YtdljmpaabpkmkaaDoorFf
namespace Go.Proofs.YtdljmpaabpkmkaaDoor.Fls
set_option maxRecDepth 100000
open Go.ChangeShapes Go.WideShapes Go.ChangeAt Go.RowKit
open Go.Proofs.YtdljmpaabpkmkaaDoor.Divs Go.Proofs.YtdljmpaabpkmkaaDoor.Grow Go.Proofs.YtdljmpaabpkmkaaDoor.By Go.Proofs.YtdljmpaabpkmkaaDoor.Wi Go.Proofs.YtdljmpaabpkmkaaDoor.Fa

/-- None of these cells is a byte. -/
def Nb (cs : Array Value) : Prop := ∀ (i : Nat) (x : Int), cs[i]? ≠ some (.int .u8 x)

theorem nb4 (a b c : Int) (ad : Option Addr) (l k : Nat) : Nb #[.int .i64 a, .int .i64 b, .int .i64 c, .slice ad l k] := by
  intro i x
  match i with
  | 0 => simp
  | 1 => simp
  | 2 => simp
  | 3 => simp
  | n + 4 => simp

theorem nb2 (ad ad' : Option Addr) (l k l' k' : Nat) : Nb #[.slice ad l k, .slice ad' l' k'] := by
  intro i x
  match i with
  | 0 => simp
  | 1 => simp
  | n + 2 => simp

/-- The worlds tell the same of every block but one. -/
def Out (g : Nat) (W W' : World) : Prop := ∀ b o, b ≠ g → W'.cell? ⟨b, o, none⟩ = W.cell? ⟨b, o, none⟩

theorem Out.set {g : Nat} {W W' : World} (h : Out g W W') (k : Nat) (v : Value) : Out g W (W'.setCell ⟨g, k, none⟩ v) := by
  intro b o hb
  rw [World.cell?_setCell_other (h := by intro e; simp only [Addr.mk.injEq, and_true] at e; exact hb e.1.symm)]
  exact h b o hb

theorem Out.refl (g : Nat) (W : World) : Out g W W := fun _ _ _ => rfl

theorem Out.set4 (g : Nat) (W : World) (v0 v1 v2 v3 : Value) : Out g W ((((W.setCell ⟨g, 0, none⟩ v0).setCell ⟨g, 1, none⟩ v1).setCell ⟨g, 2, none⟩ v2).setCell ⟨g, 3, none⟩ v3) :=
  ((((Out.refl g W).set 0 v0).set 1 v1).set 2 v2).set 3 v3

theorem Out.set2 (g : Nat) (W : World) (v0 v1 : Value) : Out g W ((W.setCell ⟨g, 0, none⟩ v0).setCell ⟨g, 1, none⟩ v1) :=
  ((Out.refl g W).set 0 v0).set 1 v1

theorem sk_out {g : Nat} {W W' : World} {v : Value} {xs : List Int} {cs : Array Value} {t : TypeId} (h : Sk .u8 W v xs) (r : RA W g cs t) (n : Nb cs) (o : Out g W W') : Sk .u8 W' v xs := by
  obtain ⟨ad, cap, rfl, h1, h2, h3, h4⟩ := h
  refine ⟨ad, cap, rfl, h1, h2, h3, fun i x hx => ?_⟩
  obtain ⟨b, off, rfl, c⟩ := h4 i x hx
  refine ⟨b, off, rfl, ?_⟩
  by_cases e : b = g
  · subst e
    exfalso
    unfold RA at r
    simp only [World.cell?, r] at c
    exact n _ _ (by simpa using c)
  · rw [o _ _ e]
    exact c

theorem RA.other {W : World} {g g' : Nat} {cs : Array Value} {t : TypeId} (h : RA W g cs t) (hn : g ≠ g') (k : Nat) (v : Value) : RA (W.setCell ⟨g', k, none⟩ v) g cs t := by
  unfold RA at *
  simp [World.setCell, Array.getElem?_modify, h, Ne.symm hn]

theorem laid_out {g : Nat} {W W' : World} (h : Crc.Laid W) (hg : 0 < g) (o : Out g W W') : Crc.Laid W' := fun i hi => by
  rw [o 0 i (by omega)]
  exact h i hi

end Go.Proofs.YtdljmpaabpkmkaaDoor.Fls
