/-
  Texts of mine, merged: each part says what it holds. Conditions: as each theorem states.
-/
import Derived.RowKit
import Derived.Test.YtpkjbcgmhkkfiaaGreatDoorRows
import Derived.WalkKit
import Derived.Lib.Hide
import Derived.ProofKit
import Derived.OpenShut
import Derived.Outline
import Derived.Deep.QuietTactic
import Derived.BigQuiet
import Derived.Below
import Derived.Laws.CopyOwn
import Derived.Laws.AppendOwnNone
import Derived.Laws.OwnMore
import Derived.Maps.AppendAt
import Derived.RangeFuncBox
import Derived.OwnWalk
import Derived.Laws.StructEq
import Derived.Deep.MidRow
import Derived.RegionTactic
import Derived.StillTail
import Derived.Laws.Cover1
import Derived.Laws.EntriesVeiled
import Derived.ChangeKeysEq

/- Plain facts on zones, in whole numbers: which may be. No condition. -/
namespace Go.Proofs.YtpkjbcgmhkkfiaaGreatDoor.Zo

/-- A turn: month, week, weekday, minute. -/
structure Tn where
  m : Int
  k : Int
  v : Int
  u : Int

/-- A zone: base, shift, and its two turns. -/
structure Zn where
  b : Int
  s : Int
  p : Tn
  q : Tn

def ztB (t : Tn) : Bool := t.m == 0 && (t.k == 0 && (t.v == 0 && t.u == 0))

def okB (t : Tn) : Bool := decide (1 ≤ t.m ∧ t.m ≤ 12 ∧ 1 ≤ t.k ∧ t.k ≤ 5 ∧ 0 ≤ t.v ∧ t.v ≤ 6 ∧ 0 ≤ t.u ∧ t.u ≤ 1439)

theorem ztB_iff (t : Tn) : ztB t = true ↔ t.m = 0 ∧ t.k = 0 ∧ t.v = 0 ∧ t.u = 0 := by simp [ztB]

theorem okB_iff (t : Tn) : okB t = true ↔ 1 ≤ t.m ∧ t.m ≤ 12 ∧ 1 ≤ t.k ∧ t.k ≤ 5 ∧ 0 ≤ t.v ∧ t.v ≤ 6 ∧ 0 ≤ t.u ∧ t.u ≤ 1439 := by simp [okB]

/-- May a turn not be, where the shift is s? -/
def wrB (s : Int) (t : Tn) : Bool := if s = 0 then !ztB t else !okB t

/-- Are the months of both far enough from each other? -/
def apB (z : Zn) : Bool := decide ((2 ≤ z.p.m - z.q.m ∧ z.p.m - z.q.m ≤ 10) ∨ (2 ≤ z.q.m - z.p.m ∧ z.q.m - z.p.m ≤ 10))

theorem apB_iff (z : Zn) : apB z = true ↔ (2 ≤ z.p.m - z.q.m ∧ z.p.m - z.q.m ≤ 10) ∨ (2 ≤ z.q.m - z.p.m ∧ z.q.m - z.p.m ≤ 10) := by simp [apB]

def badB (z : Zn) : Bool := wrB z.s z.p || (wrB z.s z.q || (!decide (z.s = 0) && !apB z))

/-- The error of a zone, or 0. -/
def ck (z : Zn) : Int := if z.b < -720 ∨ 840 < z.b then 60 else if z.s < 0 ∨ 120 < z.s then 61 else if badB z = true then 62 else 0

/-- A zone that may be. -/
def May (z : Zn) : Prop := -720 ≤ z.b ∧ z.b ≤ 840 ∧ 0 ≤ z.s ∧ z.s ≤ 120 ∧ ((z.s = 0 ∧ ztB z.p = true ∧ ztB z.q = true) ∨ (1 ≤ z.s ∧ okB z.p = true ∧ okB z.q = true ∧ apB z = true))

theorem ck_may (z : Zn) : ck z = 0 ↔ May z := by
  unfold ck May
  by_cases h1 : z.b < -720 ∨ 840 < z.b
  · rw [if_pos h1]; constructor
    · intro h; omega
    · intro h; omega
  rw [if_neg h1]
  by_cases h2 : z.s < 0 ∨ 120 < z.s
  · rw [if_pos h2]; constructor
    · intro h; omega
    · intro h; omega
  rw [if_neg h2]
  by_cases h3 : z.s = 0
  · have e : badB z = (!ztB z.p || !ztB z.q) := by unfold badB wrB; simp [h3]
    rw [e]
    cases ztB z.p <;> cases ztB z.q <;> simp <;> omega
  · have e : badB z = (!okB z.p || (!okB z.q || !apB z)) := by unfold badB wrB; simp [h3]
    rw [e]
    cases okB z.p <;> cases okB z.q <;> cases apB z <;> simp <;> omega

theorem ck_cases (z : Zn) : ck z = 0 ∨ ck z = 60 ∨ ck z = 61 ∨ ck z = 62 := by
  unfold ck
  split
  · omega
  · split
    · omega
    · split <;> omega

end Go.Proofs.YtpkjbcgmhkkfiaaGreatDoor.Zo

/- What the calls of layer 1 answer, call by call: the contracts of the functions that the statements of this seat go through. Conditions: the numbers are ints, as each theorem says. -/
namespace Go.Proofs.YtpkjbcgmhkkfiaaGreatDoor.Divs
open Go.ChangeShapes Go.WideShapes Go.ChangeAt Go.RowKit

theorem grown_drewN (w : World) (n : Nat) : Grown w (w.drewN n) := Grown.refl w

theorem ret1 {a b : Int} (h : a = b) : Ending.returned (.int .i64 a) = .returned (.int .i64 b) := by rw [h]

theorem ret2 {a b c d : Int} (h1 : a = c) (h2 : b = d) : Ending.returned (.tuple #[.int .i64 a, .int .i64 b]) = .returned (.tuple #[.int .i64 c, .int .i64 d]) := by rw [h1, h2]

def clampI (n lo hi : Int) : Int := if n < lo ∨ hi < lo then lo else if hi < n then hi else n

end Go.Proofs.YtpkjbcgmhkkfiaaGreatDoor.Divs

/- Small facts on worlds that have grown ('Later': the outside, the output and every block that lay are as they were; new blocks lie behind them), and one walk through a region that draws its order where the calls in it make memory: in every world that has grown from the first each operation yields the same. No condition but those that each theorem states. -/
namespace Go.Proofs.YtpkjbcgmhkkfiaaGreatDoor.Grow
open Go.ChangeShapes Go.WideShapes Go.ChangeAt Go.RowKit

/-- w' is w with new blocks behind it: nothing that lay has turned. -/
def Later (w w' : World) : Prop := (w'.os = w.os ∧ w'.tape = w.tape) ∧ w'.output = w.output ∧ w.heap.size ≤ w'.heap.size ∧ ∀ k, k < w.heap.size → w'.heap[k]? = w.heap[k]?

theorem Later.refl (w : World) : Later w w := ⟨⟨rfl, rfl⟩, rfl, Nat.le_refl _, fun _ _ => rfl⟩

theorem gtrans {a b c : World} (h : Later a b) (k : Later b c) : Later a c :=
  ⟨⟨k.1.1.trans h.1.1, k.1.2.trans h.1.2⟩, k.2.1.trans h.2.1, Nat.le_trans h.2.2.1 k.2.2.1, fun i hi => (k.2.2.2 i (Nat.lt_of_lt_of_le hi h.2.2.1)).trans (h.2.2.2 i hi)⟩

theorem Later.size {a b : World} (h : Later a b) : a.heap.size ≤ b.heap.size := h.2.2.1

theorem Later.put {a b : World} (h : Later a b) (o : Obj) : Later a (b.alloc o) :=
  gtrans h ⟨⟨rfl, rfl⟩, rfl, by simp, fun k hk => Below.heap_alloc _ _ _ hk⟩

theorem Later.alloc {a b : World} (h : Later a b) (c : Array Value) (t : TypeId) : Later a (b.alloc (.cells c t)) := h.put _

theorem Later.setCell {a b : World} (h : Later a b) {p : Addr} (hp : a.heap.size ≤ p.block) (u : Value) : Later a (b.setCell p u) :=
  ⟨h.1, h.2.1, by simpa [World.setCell] using h.2.2.1, fun k hk => (Below.heap_setCell _ _ _ _ (by omega)).trans (h.2.2.2 k hk)⟩

theorem Later.of_below {a b : World} (h : Below a.heap.size a b) : Later a b := ⟨⟨h.os, h.tape⟩, h.output, h.size, h.block⟩

theorem Later.below {a b : World} (h : Later a b) : Below a.heap.size a b := ⟨h.1.1, h.1.2, h.2.1, h.2.2.1, h.2.2.2⟩

theorem Later.grownBy {a b : World} (h : Later a b) : a.grownBy b none := ⟨h.1.1, h.1.2, h.2.1, h.2.2.1, fun k hk _ => h.2.2.2 k hk⟩

theorem Later.of_grownBy {a b : World} (h : a.grownBy b none) : Later a b := ⟨⟨h.os, h.tape⟩, h.output, h.size, fun k hk => h.block k hk (by simp)⟩

theorem later_drewN (w : World) (n : Nat) : Later w (w.drewN n) := Later.refl w

theorem Later.frame {a b : World} (h : Later a b) (may : MemPlace → Prop) : a.keptBut b may := by
  refine ⟨h.1.1, h.2.1, fun i hi => ?_⟩
  rw [h.2.2.2 i hi]
  split <;> simp_all

theorem gcell {W w1 : World} (h : Later W w1) (b o : Nat) (hb : b < W.heap.size) : w1.cell? ⟨b, o, none⟩ = W.cell? ⟨b, o, none⟩ :=
  World.cell?_of_block (w := W) (h.2.2.2 b hb)

theorem gfrozen {W w1 : World} (h : Later W w1) (b o : Nat) (hb : b < W.heap.size) : w1.frozen? ⟨b, o, none⟩ = W.frozen? ⟨b, o, none⟩ :=
  World.frozen?_of_block (w := W) (h.2.2.2 b hb)

theorem gsome {W w1 : World} (h : Later W w1) {a : Nat} {o : Nat} {v : Value} (hc : W.cell? ⟨a, o, none⟩ = some v) : w1.cell? ⟨a, o, none⟩ = some v :=
  (gcell h a o (World.block_lt_of_cell? _ _ hc)).trans hc

/-- A world that has grown from w. -/
structure Gw (w : World) where
  w' : World
  h : Later w w'

instance (w : World) : Nonempty (Gw w) := ⟨⟨w, Later.refl w⟩⟩

theorem gw_cell {w : World} {b o : Nat} {v : Value} (hc : w.cell? ⟨b, o, none⟩ = some v) : ∀ x : Gw w, x.w'.cell? ⟨b, o, none⟩ = some v := fun x => gsome x.h hc

theorem gw_new (w : World) (c : Array Value) (t : TypeId) (i : Nat) (v : Value) (hc : c[i]? = some v) : ∀ x : Gw (w.alloc (.cells c t)), x.w'.cell? ⟨w.heap.size, i, none⟩ = some v :=
  gw_cell (by rw [World.cell?_alloc_new]; exact hc)

/-- One walk in the order of the text serves every order, each operation quiet in every world that has grown from w. -/
theorem region_grown {P : Program} {id : Nat} {Q : Exit → Act → World → Prop} {a : Act} {w : World} {l : List Oper} (hm : P.follows .mixedOrders = true) (hB : Region.lexB .any l.toArray = true)
    (h : wpQuiet P l.toArray (fun w' => ∃ x : Gw w, w' = x.w') (fun a' => ∀ w', (∃ x : Gw w, w' = x.w') → Q .normal a' w') l a) : (Code.region id l.toArray true).wp P Q a w :=
  wp_region_quiet (C := fun w' => ∃ x : Gw w, w' = x.w') hm hB ⟨⟨w.drew, Later.refl w⟩, rfl⟩ h

theorem grown_end {w : World} {Q : World → Prop} (h : ∀ w', Later w w' → Q w') : ∀ w', (∃ x : Gw w, w' = x.w') → Q w' := by
  rintro _ ⟨x, rfl⟩
  exact h _ x.h

/-- A callee's contract, met in a world that has grown. -/
theorem in_grown {P : Program} {f : FuncId} {args : Array Value} {w : World} {x : Gw w} {v : Value}
    (h : Calls P f args x.w' fun e w' => e = .returned v ∧ Later x.w' w') : Calls P f args x.w' fun e w'' => e = .returned v ∧ ∃ y : Gw w, w'' = y.w' :=
  h.mono fun _ _ ⟨he, hg⟩ => ⟨he, ⟨_, gtrans x.h hg⟩, rfl⟩

theorem drewN_grown {w w' : World} (h : ∃ n, w' = w.drewN n) : Later w w' := by
  obtain ⟨n, rfl⟩ := h
  exact Later.refl w

theorem retb {a b : Bool} (h : a = b) : Ending.returned (.bool a) = .returned (.bool b) := by rw [h]

theorem same_g {w : World} {P : Program} {f : FuncId} {args : Array Value} {v : Value} (h : Calls P f args w fun e w' => e = .returned v ∧ w = w') : Calls P f args w fun e w' => e = .returned v ∧ Later w w' :=
  h.mono fun _ _ ⟨he, hw⟩ => ⟨he, hw ▸ Later.refl w⟩

theorem drew_g {w : World} {P : Program} {f : FuncId} {args : Array Value} {v : Value} (h : Calls P f args w fun e w' => e = .returned v ∧ ∃ n, w' = w.drewN n) : Calls P f args w fun e w' => e = .returned v ∧ Later w w' :=
  h.mono fun _ _ ⟨he, hw⟩ => ⟨he, drewN_grown hw⟩

/-- What a call leaves, where the arguments and variables hold no memory: nothing need be said of frozen places. -/
theorem post_bare {H : Type} {enc : TypeId × Value → H} {P : Program} {f : Func} {s : ChangeSpec} {apart fresh handsOn again : Bool} {W W' : World} {args : Array Value} {v : Value} {ds gs : List (DataW H)}
    (hW : DataW.Whole enc P f.params.toList s.vars apart W args.toList ds gs [])
    (hres : ∀ (b : Nat) (sp : Nat → Bool) (hd : Bool), DataW.TrodAll enc P W' b sp hd f.resultTypes.toList (v.resultList f.resultTypes.size) (s.fn H (ds ++ gs)).results [])
    (hargs : ∀ sp : Nat → Bool, DataW.TrodAll enc P W' 0 sp true f.params.toList args.toList (s.fn H (ds ++ gs)).args [])
    (hvars : ∀ sp : Nat → Bool, DataW.TrodVars enc P W' sp s.vars (s.fn H (ds ++ gs)).vars [])
    (hg : Later W W')
    (hok : ∀ (j : Nat) (t : TypeId) (r : Value), f.resultTypes[j]? = some t → (v.resultList f.resultTypes.size)[j]? = some r → Value.okWide P W' .any 0 t r) :
    s.post enc P f apart fresh handsOn again W args v W' :=
  ⟨ds, gs, [], [], [], [], hW, hres _ _ _, hargs _, hvars _, hg.frame _, fun _ =>
    ⟨hok, _, _, [], ⟨[], [], trodAll_append (hargs _) (hres _ _ _), hvars _, rfl, fun b off hp => by simp at hp, fun _ => List.nodup_nil⟩, fun p hp _ => by simp at hp⟩⟩

end Go.Proofs.YtpkjbcgmhkkfiaaGreatDoor.Grow

/- Slices of bytes and of numbers, wherever they lie: cut, appended, made, compared. No condition but those that each theorem states. -/
namespace Go.Proofs.YtpkjbcgmhkkfiaaGreatDoor.By
open Go.ChangeShapes Go.WideShapes Go.ChangeAt Go.RowKit
open Go.Proofs.YtpkjbcgmhkkfiaaGreatDoor.Divs Go.Proofs.YtpkjbcgmhkkfiaaGreatDoor.Grow

theorem info_byte : (Tryz.prog.info? 5).map (fun i => (i.zero, i.size, i.bytes)) = some (some (.int .u8 0), 1, 1) := by kernel_rfl

theorem info_int : (Tryz.prog.info? 3).map (fun i => (i.zero, i.size, i.bytes)) = some (some (.int .i64 0), 1, 8) := by kernel_rfl

/-- v is a slice of these numbers. -/
def Sk (k : IntKind) (W : World) (v : Value) (xs : List Int) : Prop :=
  ∃ (ad : Option Addr) (cap : Nat), v = .slice ad xs.length cap ∧ xs.length ≤ cap ∧ cap ≤ 9223372036854775807 ∧ (ad = none → cap = 0) ∧
    ∀ (i : Nat) (x : Int), xs[i]? = some x → ∃ b off, ad = some ⟨b, off, none⟩ ∧ W.cell? ⟨b, off + i, none⟩ = some (.int k x)

theorem Sk.later {k : IntKind} {W W' : World} {v : Value} {xs : List Int} (h : Sk k W v xs) (g : Later W W') : Sk k W' v xs := by
  obtain ⟨ad, cap, rfl, h1, h2, h3, h4⟩ := h
  refine ⟨ad, cap, rfl, h1, h2, h3, fun i x hx => ?_⟩
  obtain ⟨b, off, e, c⟩ := h4 i x hx
  exact ⟨b, off, e, gsome g c⟩

/-- The cells of a slice that has some. -/
theorem Sk.has {k : IntKind} {W : World} {v : Value} {xs : List Int} (h : Sk k W v xs) (hp : 0 < xs.length) :
    ∃ b off cap, v = .slice (some ⟨b, off, none⟩) xs.length cap ∧ xs.length ≤ cap ∧ cap ≤ 9223372036854775807 ∧ b < W.heap.size ∧ ∀ i, i < xs.length → W.cell? ⟨b, off + i, none⟩ = some (.int k (xs.getD i 0)) := by
  obtain ⟨ad, cap, rfl, h1, h2, h3, h4⟩ := h
  obtain ⟨b, off, rfl, c0⟩ := h4 0 (xs.getD 0 0) (by simp [hp])
  refine ⟨b, off, cap, rfl, h1, h2, World.block_lt_of_cell? _ _ c0, fun i hi => ?_⟩
  obtain ⟨b', off', e, c⟩ := h4 i (xs.getD i 0) (by simp [hi])
  simp at e
  obtain ⟨rfl, rfl⟩ := e
  exact c

theorem Sk.bare {k : IntKind} {W : World} {v : Value} (h : Sk k W v []) : ∃ ad cap, v = .slice ad 0 cap ∧ cap ≤ 9223372036854775807 ∧ (ad = none → cap = 0) := by
  obtain ⟨ad, cap, rfl, _, h2, h3, _⟩ := h
  exact ⟨ad, cap, rfl, h2, h3⟩

theorem Sk.len {k : IntKind} {W : World} {v : Value} {xs : List Int} (h : Sk k W v xs) : ∃ ad cap, v = .slice ad xs.length cap ∧ xs.length ≤ 9223372036854775807 := by
  obtain ⟨ad, cap, rfl, h1, h2, _⟩ := h
  exact ⟨ad, cap, rfl, by omega⟩

/-- A row that lies whole. -/
theorem Sk.row {k : IntKind} {W : World} {g : Nat} {t : TypeId} {fr : Nat × Nat} {xs : List Int} {cap : Nat} {cs : Array Value} (h : W.heap[g]? = some (.cells cs t fr)) (hc : ∀ (i : Nat) (x : Int), xs[i]? = some x → cs[i]? = some (.int k x)) (h1 : xs.length ≤ cap) (h2 : cap ≤ 9223372036854775807) :
    Sk k W (.slice (some ⟨g, 0, none⟩) xs.length cap) xs := by
  refine ⟨_, cap, rfl, h1, h2, by simp, fun i x hx => ⟨g, 0, rfl, ?_⟩⟩
  rw [Nat.zero_add]
  have := hc i x hx
  simp [World.cell?, h, this]

/-- Bytes that are 0. -/
def zb (n : Nat) : List Value := List.replicate n (.int .u8 0)

theorem make_any (n : Nat) (h : n ≤ 100000) : ∀ W : World, (Instr.makeSlice 36 (.int .i64 (n : Int)) (.int .i64 (n : Int))).run Tryz.prog W = .ok (.slice (some ⟨W.heap.size, 0, none⟩) n n) (W.alloc (.cells (zb n).toArray 5)) := by
  intro W
  obtain ⟨i0, hi, hz0, hz1, hz2⟩ := info_parts info_byte
  have := run_make (P := Tryz.prog) W 36 5 i0 (.int .u8 0) Tryz.underlying36 hi hz0 .i64 .i64 n n (by omega) (by omega) (by rw [hz2]; omega) (by omega)
  rw [hz1] at this
  rw [this]
  have e : madeCells (Value.int .u8 0).cells ((n : Int).toNat * 1) = (zb n).toArray := by
    rw [show (n : Int).toNat * 1 = n by simp]
    apply Array.ext'
    rw [show (Value.int .u8 0).cells = #[.int .u8 0] from rfl, toList_madeCells_one]
    rfl
  rw [e]
  simp

theorem add_zero (g j : Nat) : (⟨g, 0, none⟩ : Addr).add j = ⟨g, j, none⟩ := by
  unfold Addr.add
  split
  · rename_i h
    rw [h]
  · simp

/-- v is a slice of these numbers, its cells laid since the world had b blocks. -/
def SL (k : IntKind) (e : TypeId) (W : World) (b : Nat) (v : Value) (xs : List Int) : Prop := W.ownsRow b e 1 v xs.length (xs.map (Value.int k))

theorem SL.later {k : IntKind} {e : TypeId} {W W' : World} {b : Nat} {v : Value} {xs : List Int} (h : SL k e W b v xs) (g : Later W W') : SL k e W' b v xs :=
  World.ownsRow.kept h g.grownBy (by cases v.ownBlock <;> simp)

theorem later_grown {k : IntKind} {e : TypeId} {w a b : World} {v : Value} {xs : List Int} (g : Later w a) (f : SL k e a w.heap.size v xs) (h : a.grownBy b v.ownBlock) : Later w b :=
  Later.of_below (g.below.grown h g.size (fun j e => (World.ownsRow.lt f j e).1))

theorem SL.sk {k : IntKind} {e : TypeId} {W : World} {b : Nat} {v : Value} {xs : List Int} (h : SL k e W b v xs) : Sk k W v xs := by
  rcases h.2 with ⟨hv, h0⟩ | ⟨g, cap, cur, rfl, _, _, h1, h2, _⟩
  · obtain rfl : xs = [] := List.length_eq_zero_iff.1 h0
    exact ⟨none, 0, hv, by simp, by omega, by simp, by simp⟩
  · refine ⟨_, cap, rfl, h1, by simpa [maxLen] using h2, by simp, fun i x hx => ⟨g, 0, rfl, ?_⟩⟩
    have c := World.ownsRow.cells h (g := g) rfl i (.int k x) (by rw [List.getElem?_map, hx]; rfl)
    rw [add_zero] at c
    rw [Nat.zero_add]
    exact c

theorem SL.nil (k : IntKind) (e : TypeId) (W : World) (b : Nat) : SL k e W b (.slice none 0 0) [] := World.ownsRow_nil _ _ _ _

theorem sk_nil (k : IntKind) (W : World) : Sk k W (.slice none 0 0) [] := ⟨none, 0, rfl, by simp, by omega, by simp, by simp⟩

/-- A slice that owns bytes begins somewhere. -/
theorem SL.has {k : IntKind} {e : TypeId} {W : World} {b : Nat} {v : Value} {xs : List Int} (h : SL k e W b v xs) (hp : 0 < xs.length) :
    ∃ g cap, v = .slice (some ⟨g, 0, none⟩) xs.length cap ∧ ∀ j u, (xs.map (Value.int k))[j]? = some u → W.cell? ((⟨g, 0, none⟩ : Addr).add j) = some u := by
  rcases h.2 with ⟨_, h0⟩ | ⟨g, cap, cur, rfl, _⟩
  · omega
  · exact ⟨g, cap, rfl, World.ownsRow.cells h (g := g) rfl⟩

theorem SL.base {k : IntKind} {e : TypeId} {W : World} {b c : Nat} {v : Value} {xs : List Int} (h : SL k e W b v xs) (hb : c ≤ b) : SL k e W c v xs := by
  refine ⟨h.1, ?_⟩
  rcases h.2 with h | ⟨g, cap, cur, hv, h1, h2⟩
  · exact .inl h
  · exact .inr ⟨g, cap, cur, hv, Nat.le_trans hb h1, h2⟩

def IRel (xs ys : List Int) (w : World) (x : Value) (wr : World) : Prop := ∃ i k : Nat, i ≤ xs.length ∧ x = .int .i64 (i : Int) ∧ xs.take i = ys.take i ∧ wr = w.drewN k

theorem take_all (xs ys : List Int) (n : Nat) (hx : n = xs.length) (hl : xs.length = ys.length) (h : xs.take n = ys.take n) : xs = ys := by
  rw [List.take_of_length_le (by omega), List.take_of_length_le (by omega)] at h
  exact h

theorem take_on (xs ys : List Int) (i : Nat) (a : Int) (hx : xs[i]? = some a) (hy : ys[i]? = some a) (h : xs.take i = ys.take i) : xs.take (i + 1) = ys.take (i + 1) := by
  rw [List.take_add_one, List.take_add_one, h, hx, hy]

theorem bool_no {b : Bool} (h : ¬ b = true) : Ending.returned (.bool false) = .returned (.bool b) := by
  cases b
  · rfl
  · exact absurd rfl h

theorem bool_yes {b : Bool} (h : b = true) : Ending.returned (.bool true) = .returned (.bool b) := by rw [h]

set_option maxHeartbeats 1000000 in
theorem bsame_any (xs ys : List Int) (u v : Value) (w : World) (hu : Sk .u8 w u xs) (hv : Sk .u8 w v ys) : Calls Tryz.prog 12 #[u, v] w fun e w' => e = .returned (.bool (decide (xs = ys))) ∧ Later w w' := by
  obtain ⟨B, hB⟩ : ∃ B : Bool, B = decide (xs = ys) := ⟨_, rfl⟩
  rw [← hB]
  have HT : Hid (xs = ys → B = true) := Lib.hid (fun h => by rw [hB]; simpa using h)
  have HF : Hid (¬ xs = ys → ¬ B = true) := Lib.hid (fun h => by rw [hB]; simpa using h)
  clear hB
  by_cases hl : xs.length = ys.length
  · rcases Nat.eq_zero_or_pos xs.length with h0 | h0
    · obtain rfl := List.length_eq_zero_iff.1 h0
      obtain rfl := List.length_eq_zero_iff.1 (hl.symm.trans h0)
      obtain ⟨a, c, rfl, _⟩ := hu.bare
      obtain ⟨a', c', rfl, _⟩ := hv.bare
      clear hu hv hl h0
      go_enter Tryz.func12, Tryz.ntmps12
      go_wp2_with fail
      refine wp_loop_rounds 1 ?_
      rw [rounds_succ]
      go_wp2
      go_ret
      exact ⟨bool_yes (HT.out (by trivial)), Later.refl _⟩
    · obtain ⟨b, off, cap, rfl, _, m1, _, hc⟩ := hu.has h0
      obtain ⟨b', off', cap', rfl, _, m2, _, hc'⟩ := hv.has (by omega)
      have HC := Lib.hid hc
      have HC' := Lib.hid hc'
      have hm : xs.length ≤ 9223372036854775807 := by omega
      have HL := Lib.hid hl
      obtain ⟨n, hn⟩ : ∃ n, ys.length = n := ⟨_, rfl⟩
      rw [hn] at hl ⊢
      rw [hl] at h0 hm ⊢
      have HN := Lib.hid hn
      have HX := Lib.hid hl
      clear hc hc' hu hv hl hn m1 m2
      have t : ((n : Int) != (n : Int)) = false := by simp
      go_enter Tryz.func12, Tryz.ntmps12
      go_wp2_with fail
      clear t
      go_loopw [5] (fun x wr => IRel xs ys w x wr) (fun x _ => (n - intOf x).toNat)
      case atStart => exact ⟨0, 0, by omega, rfl, by simp, rfl⟩
      case round =>
        obtain ⟨i, k, hi, rfl, ht, rfl⟩ := hrel
        rw [HX.out] at hi
        have HE := Lib.hid ht
        clear ht
        by_cases hlt : i < n
        · obtain ⟨a, ha⟩ : ∃ a, xs[i]? = some a := ⟨_, List.getElem?_eq_getElem (by rw [HX.out]; exact hlt)⟩
          obtain ⟨c, hc⟩ : ∃ c, ys[i]? = some c := ⟨_, List.getElem?_eq_getElem (by rw [HN.out]; exact hlt)⟩
          have c1 := HC.out i (by rw [HX.out]; exact hlt)
          rw [List.getD_eq_getElem?_getD, ha, Option.getD_some] at c1
          have c2 := HC'.out i (by rw [HN.out]; exact hlt)
          rw [List.getD_eq_getElem?_getD, hc, Option.getD_some] at c2
          have HA := Lib.hid ha
          have HB := Lib.hid hc
          clear ha hc
          by_cases hac : a = c
          · subst hac
            have t : (a != a) = false := by simp
            have HS := Lib.hid (take_on xs ys i a HA.out HB.out HE.out)
            go_wp2_with fail
            go_quiet (fail)
            go_wp2_with fail
            go_roundw
            case rel => exact ⟨i + 1, _, by rw [HX.out]; omega, by go_num, HS.out, rfl⟩
            case measure => simp [intOf]; omega
          · have t : (a != c) = true := by simpa using hac
            have HV : Hid (¬ xs = ys) := by
              have : ¬ xs = ys := by
                rintro rfl
                have := HA.out.symm.trans HB.out
                simp at this
                exact hac this
              exact this
            clear hac
            go_wp2_with fail
            go_quiet (fail)
            go_wp2_with fail
            go_ret
            exact ⟨bool_no (HF.out HV.out), Later.refl w⟩
        · have hn : ¬ i < n := hlt
          go_wp2_with fail
          go_ret
          exact ⟨bool_yes (HT.out (take_all xs ys i (by rw [HX.out]; omega) HL.out HE.out)), later_drewN w _⟩
  · obtain ⟨a, c, rfl, m1⟩ := hu.len
    obtain ⟨a', c', rfl, m2⟩ := hv.len
    have t : ((xs.length : Int) != (ys.length : Int)) = true := by simpa using fun h => hl (by omega)
    have HV : Hid (¬ xs = ys) := by
      have : ¬ xs = ys := by
        rintro rfl
        exact hl rfl
      exact this
    clear hu hv
    go_enter Tryz.func12, Tryz.ntmps12
    go_wp2_with fail
    go_ret
    exact ⟨bool_no (HF.out HV.out), Later.refl _⟩

/-- A row that has just been laid. -/
theorem sk_new (k : IntKind) (t : TypeId) (xs : List Int) (w : World) (hn : xs.length ≤ 1000) : Sk k (w.alloc (.cells (xs.map (Value.int k)).toArray t)) (.slice (some ⟨w.heap.size, 0, none⟩) xs.length xs.length) xs :=
  Sk.row (heap_alloc_new _ _) (fun i x hx => by simp [hx]) (Nat.le_refl _) (by omega)

theorem bsame_yes (xs : List Int) (u v : Value) (w : World) (hu : Sk .u8 w u xs) (hv : Sk .u8 w v xs) : Calls Tryz.prog 12 #[u, v] w fun e w' => e = .returned (.bool true) ∧ Later w w' := by
  have := bsame_any xs xs u v w hu hv
  rwa [decide_eq_true rfl] at this

theorem bsame_no (xs ys : List Int) (u v : Value) (w : World) (hn : xs ≠ ys) (hu : Sk .u8 w u xs) (hv : Sk .u8 w v ys) : Calls Tryz.prog 12 #[u, v] w fun e w' => e = .returned (.bool false) ∧ Later w w' := by
  have := bsame_any xs ys u v w hu hv
  rwa [decide_eq_false hn] at this

/-- A slice as a source of cells: none, or they lie one behind the other. -/
theorem Sk.src {k : IntKind} {W : World} {v : Value} {xs : List Int} (h : Sk k W v xs) :
    (v = .slice none 0 0 ∧ xs = []) ∨ ∃ a cap, v = .slice (some a) xs.length cap ∧ ∀ j u, (xs.map (Value.int k))[j]? = some u → W.cell? (a.add j) = some u := by
  obtain ⟨ad, cap, rfl, h1, h2, h3, h4⟩ := h
  cases ad with
  | none =>
    obtain rfl := h3 rfl
    obtain rfl := List.length_eq_zero_iff.1 (Nat.le_zero.1 h1)
    exact .inl ⟨rfl, rfl⟩
  | some a =>
    refine .inr ⟨a, cap, rfl, fun j u hu => ?_⟩
    rw [List.getElem?_map] at hu
    cases e : xs[j]? with
    | none => rw [e] at hu; simp at hu
    | some x =>
      obtain ⟨b, off, ea, c⟩ := h4 j x e
      simp only [Option.some.injEq] at ea
      rw [e] at hu
      rw [ea, Go.WideShapes.add_plain, c]
      exact hu

/-- A slice cut at both ends. -/
theorem cut_lh {bs : List Int} {v : Value} {w : World} (hs : Sk .u8 w v bs) (l h : Nat) (hl : l ≤ h) (hh : h ≤ bs.length) :
    ∃ ad cap u, v = .slice ad bs.length cap ∧ (∀ W : World, (Instr.slice 36 (.slice ad bs.length cap) (some (.int .i64 (l : Int))) (some (.int .i64 (h : Int))) none).run Tryz.prog W = .ok u W) ∧ Sk .u8 w u ((bs.drop l).take (h - l)) := by
  obtain ⟨ad, cap, rfl, h1, h2, h3, h4⟩ := hs
  refine ⟨ad, cap, sliced ad l h cap 1, rfl, fun W => ?_, ?_⟩
  · have := run_slice_lh (P := Tryz.prog) W 36 ad bs.length cap (by kernel_rfl) .i64 .i64 l h (by omega) (by omega) (by omega)
    rw [this]
    go_simp
  · unfold sliced
    refine ⟨if cap = l then ad else ad.map (·.add (l * 1)), cap - l, ?_, ?_, by omega, ?_, ?_⟩
    · rw [show ((bs.drop l).take (h - l)).length = h - l by rw [List.length_take, List.length_drop]; omega]
    · rw [List.length_take, List.length_drop]; omega
    · intro hn
      by_cases e : cap = l
      · omega
      · rw [if_neg e] at hn
        have := h3 (by cases ad with
          | none => rfl
          | some a => simp at hn)
        omega
    · intro i x hx
      have hi : i < h - l := by
        have := (List.getElem?_eq_some_iff.1 hx).1
        rw [List.length_take] at this
        omega
      rw [List.getElem?_take_of_lt hi, List.getElem?_drop] at hx
      obtain ⟨b, off, rfl, c⟩ := h4 (l + i) x hx
      refine ⟨b, off + l, ?_, ?_⟩
      · rw [if_neg (by omega)]
        simp [Addr.add]
      · rw [Nat.add_assoc]; exact c

/-- A slice cut at its end. -/
theorem cut_h {bs : List Int} {v : Value} {w : World} (hs : Sk .u8 w v bs) (h : Nat) (hh : h ≤ bs.length) :
    ∃ ad cap u, v = .slice ad bs.length cap ∧ (∀ W : World, (Instr.slice 36 (.slice ad bs.length cap) none (some (.int .i64 (h : Int))) none).run Tryz.prog W = .ok u W) ∧ Sk .u8 w u (bs.take h) := by
  obtain ⟨ad, cap, rfl, h1, h2, h3, h4⟩ := hs
  refine ⟨ad, cap, .slice ad h cap, rfl, fun W => ?_, ?_⟩
  · have := run_slice_h (P := Tryz.prog) W 36 ad bs.length cap (by kernel_rfl) .i64 h (by omega) (by omega)
    rw [this]
    go_simp
  · refine ⟨ad, cap, ?_, by rw [List.length_take]; omega, h2, h3, ?_⟩
    · rw [show (bs.take h).length = h by rw [List.length_take]; omega]
    · intro i x hx
      have hi : i < h := by
        have := (List.getElem?_eq_some_iff.1 hx).1
        rw [List.length_take] at this
        omega
      rw [List.getElem?_take_of_lt hi] at hx
      exact h4 i x hx

/-- Bytes appended to bytes of the call's own; the operation may stand behind a guard that says yes. -/
theorem append_sw {w : World} {ops : Array Oper} {rest : List Oper} {o : Oper} {a : Act} {Q : Exit → Act → World → Prop} (hw : Region.wanted o (yielded ops a.tmps) = true) (s x : Operand)
    (ho : o.op = .call { callee := .builtin .append, args := #[s, x], argTypes := #[36, 36] })
    (W0 : World) (hl : Later W0 w) (v : Value) (xs : List Int) (hs : a.eval s = v) (hown : SL .u8 5 w W0.heap.size v xs)
    (u : Value) (ys : List Int) (hx : a.eval x = u) (hy : Sk .u8 w u ys) (hb : xs.length + ys.length ≤ 100000)
    (h : ∀ v' w', SL .u8 5 w' W0.heap.size v' (xs ++ ys) → Later W0 w' → wpList Tryz.prog ops Q rest (a.put o.dst v') w') : wpList Tryz.prog ops Q (o :: rest) a w := by
  obtain ⟨i0, hi, hz0, hz1, hz2⟩ := info_parts info_byte
  rcases hy.src with ⟨rfl, rfl⟩ | ⟨ad, cap, rfl, hc⟩
  · refine BigFrame.wpList_want hw fun K hK => ?_
    have hrun := run_append_owned_none (P := Tryz.prog) (w := w) W0.heap.size 36 o.type 5 i0 1 Tryz.underlying36 hi v _ _ hown
    unfold Oper.wp
    simp [execOp, ho, resolve, invoke, builtin, hs, hx, hrun, Result.andThen]
    exact hK _ _ (h v w (by rw [List.append_nil]; exact hown) hl)
  · refine BigFrame.wpList_want hw fun K hK => ?_
    refine wp_append_own w s x 36 ho W0.heap.size 5 i0 (.int .u8 0) 1 1 Tryz.underlying36 hi hz0 hz1 hz2 rfl (by decide) v _ _ hs hown ad ys.length cap (ys.map (Value.int .u8)) hx (by simp) hc (by intro u hu; obtain ⟨y, _, rfl⟩ := List.mem_map.1 hu; rfl) (by simp only [maxLen]; omega) (by omega) hl.size ?_
    intro v' w' h1 h2 _
    refine hK _ _ (h v' w' ?_ (later_grown hl hown h2))
    unfold SL
    rw [List.length_append, List.map_append]
    exact h1

theorem append_sk {w : World} {ops : Array Oper} {rest : List Oper} {o : Oper} {a : Act} {Q : Exit → Act → World → Prop} (hgd : o.guard = none) (s x : Operand)
    (ho : o.op = .call { callee := .builtin .append, args := #[s, x], argTypes := #[36, 36] })
    (W0 : World) (hl : Later W0 w) (v : Value) (xs : List Int) (hs : a.eval s = v) (hown : SL .u8 5 w W0.heap.size v xs)
    (u : Value) (ys : List Int) (hx : a.eval x = u) (hy : Sk .u8 w u ys) (hb : xs.length + ys.length ≤ 100000)
    (h : ∀ v' w', SL .u8 5 w' W0.heap.size v' (xs ++ ys) → Later W0 w' → wpList Tryz.prog ops Q rest (a.put o.dst v') w') : wpList Tryz.prog ops Q (o :: rest) a w :=
  append_sw (by simp [Region.wanted, hgd]) s x ho W0 hl v xs hs hown u ys hx hy hb h

/-- An empty slice that has just been made. -/
theorem SL.made (W0 w : World) (h : Later W0 w) : SL .u8 5 (w.alloc (.cells #[] 5)) W0.heap.size (.slice (some ⟨w.heap.size, 0, none⟩) 0 0) [] := by
  refine ⟨rfl, .inr ⟨w.heap.size, 0, #[], rfl, h.size, heap_alloc_new _ _, by simp, by simp, by simp, by simp⟩⟩

/-- A slice that begins its block, one of its numbers turned. -/
theorem Sk.set {k : IntKind} {W : World} {g n cap : Nat} {xs : List Int} (h : Sk k W (.slice (some ⟨g, 0, none⟩) n cap) xs) (i : Nat) (x : Int) (hi : i < xs.length) : Sk k (W.setCell ⟨g, i, none⟩ (.int k x)) (.slice (some ⟨g, 0, none⟩) n cap) (xs.set i x) := by
  obtain ⟨ad, cap', e, h1, h2, h3, h4⟩ := h
  simp only [Value.slice.injEq] at e
  obtain ⟨rfl, rfl, rfl⟩ := e
  refine ⟨_, _, by rw [List.length_set], by rw [List.length_set]; exact h1, h2, by simp, fun j y hy => ?_⟩
  refine ⟨g, 0, rfl, ?_⟩
  rw [Nat.zero_add]
  by_cases hj : j = i
  · subst hj
    obtain ⟨b, off, e, c⟩ := h4 j (xs.getD j 0) (by simp [hi])
    simp only [Option.some.injEq, Addr.mk.injEq, and_true] at e
    obtain ⟨rfl, rfl⟩ := e
    rw [Nat.zero_add] at c
    rw [World.cell?_setCell_same (h := c)]
    rw [List.getElem?_set_self hi] at hy
    simpa using hy
  · rw [List.getElem?_set_ne (by omega)] at hy
    obtain ⟨b, off, e, c⟩ := h4 j y hy
    simp only [Option.some.injEq, Addr.mk.injEq, and_true] at e
    obtain ⟨rfl, rfl⟩ := e
    rw [Nat.zero_add] at c
    rw [World.cell?_setCell_other (h := by intro e; simp only [Addr.mk.injEq, and_true, true_and] at e; omega)]
    exact c

/-- The same as one step of a region that draws its order. -/
theorem step_append_sk {w : World} {ops : Array Oper} {o : Oper} {a : Act} {K : Act → World → Prop} {Q : Exit → Act → World → Prop} {E : Prop} (hg : o.guard = none) (s x : Operand)
    (ho : o.op = .call { callee := .builtin .append, args := #[s, x], argTypes := #[36, 36] })
    (W0 : World) (hl : Later W0 w) (v : Value) (xs : List Int) (hs : a.eval s = v) (hown : SL .u8 5 w W0.heap.size v xs)
    (u : Value) (ys : List Int) (hx : a.eval x = u) (hy : Sk .u8 w u ys) (hp : 0 < ys.length) (hb : xs.length + ys.length ≤ 100000)
    (hK : ∀ v' w', SL .u8 5 w' W0.heap.size v' (xs ++ ys) → Later W0 w' → K (a.put o.dst v') w') : if Region.wanted o (yielded ops a.tmps) = true then Oper.wp Tryz.prog o a w K Q else E := by
  have hw : Region.wanted o (yielded ops a.tmps) = true := by simp [Region.wanted, hg]
  rw [if_pos hw]
  obtain ⟨i0, hi, hz0, hz1, hz2⟩ := info_parts info_byte
  rcases hy.src with ⟨_, rfl⟩ | ⟨ad, cap, rfl, hc⟩
  · simp at hp
  · refine wp_append_own w s x 36 ho W0.heap.size 5 i0 (.int .u8 0) 1 1 Tryz.underlying36 hi hz0 hz1 hz2 rfl (by decide) v _ _ hs hown ad ys.length cap (ys.map (Value.int .u8)) hx (by simp) hc (by intro u hu; obtain ⟨y, _, rfl⟩ := List.mem_map.1 hu; rfl) (by simp only [maxLen]; omega) (by omega) hl.size ?_
    intro v' w' h1 h2 _
    refine hK _ _ ?_ (later_grown hl hown h2)
    unfold SL
    rw [List.length_append, List.map_append]
    exact h1

/-- Bytes that have just been made. -/
theorem sk_made (W : World) (n : Nat) (h : n ≤ 100000) : Sk .u8 (W.alloc (.cells (zb n).toArray 5)) (.slice (some ⟨W.heap.size, 0, none⟩) n n) (List.replicate n 0) := by
  have := Sk.row (k := .u8) (xs := List.replicate n 0) (cap := n) (heap_alloc_new W (.cells (zb n).toArray 5)) (fun i x hx => by
    rw [List.getElem?_replicate] at hx
    split at hx
    · rename_i hi
      simp at hx
      subst hx
      simp [zb, hi]
    · simp at hx) (by simp) (by omega)
  simpa using this

end Go.Proofs.YtpkjbcgmhkkfiaaGreatDoor.By

/- Plain facts on tables of sunsets, in whole numbers: which may be. No condition. -/
namespace Go.Proofs.YtpkjbcgmhkkfiaaGreatDoor.Su
open Go.Proofs.YtpkjbcgmhkkfiaaGreatDoor.Zo

/-- Each minute is from 900 to 1320. -/
def okM (s : Nat → Int) : Prop := ∀ i, i < 12 → 900 ≤ s i ∧ s i ≤ 1320

/-- Each differs from the next one by 120 at most. -/
def okS (s : Nat → Int) : Prop := ∀ i, i < 12 → -120 ≤ s ((i + 1) % 12) - s i ∧ s ((i + 1) % 12) - s i ≤ 120

instance (s : Nat → Int) : Decidable (okM s) := by unfold okM; infer_instance
instance (s : Nat → Int) : Decidable (okS s) := by unfold okS; infer_instance

/-- The error of a table, or 0. -/
def sk (s : Nat → Int) : Int := if okM s then (if okS s then 0 else 71) else 70

theorem sk_ok (s : Nat → Int) : sk s = 0 ↔ okM s ∧ okS s := by
  unfold sk
  by_cases h : okM s
  · rw [if_pos h]
    by_cases k : okS s
    · rw [if_pos k]; simp [h, k]
    · rw [if_neg k]; simp [k]
  · rw [if_neg h]; simp [h]

theorem sk_m (s : Nat → Int) (k : Nat) (hk : k < 12) (h : ¬ (900 ≤ s k ∧ s k ≤ 1320)) : sk s = 70 := by
  unfold sk; rw [if_neg (fun g => h (g k hk))]

theorem sk_s (s : Nat → Int) (k : Nat) (hk : k < 12) (hm : okM s) (h : ¬ (-120 ≤ s ((k + 1) % 12) - s k ∧ s ((k + 1) % 12) - s k ≤ 120)) : sk s = 71 := by
  unfold sk; rw [if_pos hm, if_neg (fun g => h (g k hk))]

end Go.Proofs.YtpkjbcgmhkkfiaaGreatDoor.Su

/- Plain facts on configurations, in whole numbers: which windows, and which configurations, may be, and which are the same. No condition but those that each theorem states. -/
namespace Go.Proofs.YtpkjbcgmhkkfiaaGreatDoor.Cf
open Go.Proofs.YtpkjbcgmhkkfiaaGreatDoor.Zo Go.Proofs.YtpkjbcgmhkkfiaaGreatDoor.Su

/-- A window: kind, mode, weight, argument, shift, minute, length. -/
structure Wn where
  k : Int
  m : Int
  p : Int
  a : Int
  h : Int
  u : Int
  l : Int

/-- A configuration: floors, cars, park; stops; travel, level, open, dwell, lead, close, hold; rest, pater; zone, sunsets, abroad; windows. -/
structure Cg where
  f : Int
  n : Int
  p : Int
  st : List Int
  t : Int
  l : Int
  o : Int
  d : Int
  e : Int
  c : Int
  h : Int
  r : Int
  q : Int
  z : Zn
  s : Nat → Int
  ab : Bool
  ws : List Wn

/-- From a to b. -/
def bt (n a b : Int) : Bool := decide (a ≤ n) && decide (n ≤ b)

theorem bt_iff (n a b : Int) : bt n a b = true ↔ a ≤ n ∧ n ≤ b := by simp [bt]

/-- The ends of what goes by a window's kind: argument, shift, minute, length. -/
structure Ru where
  a0 : Int
  a1 : Int
  h0 : Int
  h1 : Int
  u0 : Int
  u1 : Int
  l0 : Int
  l1 : Int

def rz : Ru := ⟨0, 0, 0, 0, 0, 0, 0, 0⟩

def ru (k : Int) : Ru :=
  if k = 1 then ⟨1, 127, 0, 0, 0, 1439, 1, 10080⟩ else if k = 2 then ⟨401, 3651998, 0, 0, 0, 1439, 1, 10080⟩ else if k = 3 then ⟨1, 7, -7, 7, 0, 1439, 1, 10080⟩ else if k = 4 then ⟨0, 0, 0, 0, 0, 180, 0, 180⟩ else rz

def kn (k : Int) : Bool := bt k 1 4

/-- Does a window keep to a rule? -/
def al (r : Ru) (x : Wn) : Bool := bt x.a r.a0 r.a1 && (bt x.h r.h0 r.h1 && (bt x.u r.u0 r.u1 && bt x.l r.l0 r.l1))

/-- May a window be? -/
def wo (x : Wn) : Bool := kn x.k && (bt x.m 0 5 && (bt x.p 0 99 && al (ru x.k) x))

/-- The error of a window, or 0. -/
def we (x : Wn) : Int := if wo x = true then 0 else 104

theorem we_ok (x : Wn) : we x = 0 ↔ wo x = true := by
  unfold we
  split <;> simp_all

theorem we_two (x : Wn) : we x = 0 ∨ we x = 104 := by
  unfold we
  split <;> simp

/-- Is the size one that may be? -/
def so (c : Cg) : Bool := bt c.f 2 64 && (bt c.n 1 8 && bt c.p 0 (c.f - 1))

/-- The least that a stop may be, by the one ahead of it. -/
def lo (st : List Int) (i : Nat) : Int := if i = 0 then 0 else st.getD (i - 1) 0 + 1

def sg (f : Int) (st : List Int) (i : Nat) : Prop := lo st i ≤ st.getD i 0 ∧ st.getD i 0 ≤ f - 1

instance (f : Int) (st : List Int) (i : Nat) : Decidable (sg f st i) := by unfold sg; infer_instance

/-- Do the first k stops rise, each one a floor? -/
def su (f : Int) (st : List Int) (k : Nat) : Prop := ∀ i, i < k → sg f st i

instance (f : Int) (st : List Int) (k : Nat) : Decidable (su f st k) := by unfold su; infer_instance

/-- May the stops be? -/
def to (c : Cg) : Bool := decide (2 ≤ c.st.length ∧ su c.f c.st c.st.length)

theorem to_iff (c : Cg) : to c = true ↔ 2 ≤ c.st.length ∧ su c.f c.st c.st.length := by simp [to]

theorem su_zero (f : Int) (st : List Int) : su f st 0 := fun i h => absurd h (by omega)

theorem su_on {f : Int} {st : List Int} {k : Nat} (h : su f st k) (g : sg f st k) : su f st (k + 1) := by
  intro i hi
  by_cases e : i = k
  · rw [e]; exact g
  · exact h i (by omega)

theorem lo_succ (st : List Int) (i : Nat) : lo st (i + 1) = st.getD i 0 + 1 := by simp [lo]

theorem su_pos {f : Int} {st : List Int} {k : Nat} (h : su f st k) : ∀ i, i < k → 0 ≤ st.getD i 0 ∧ st.getD i 0 ≤ f - 1 := by
  intro i
  induction i with
  | zero =>
    intro hi
    have := h 0 hi
    simp only [sg, lo, if_true] at this
    exact this
  | succ j ih =>
    intro hi
    have a := ih (by omega)
    have b := h (j + 1) hi
    rw [sg, lo_succ] at b
    omega

theorem lo_pos {f : Int} {st : List Int} {k : Nat} (h : su f st k) : 0 ≤ lo st k := by
  cases k with
  | zero => simp [lo]
  | succ j =>
    rw [lo_succ]
    have := su_pos h j (by omega)
    omega

/-- May the times be? -/
def ti (c : Cg) : Bool :=
  (bt c.t 1 60 && (bt c.l 1 60 && (bt c.o 1 60 && (bt c.d 1 60 && bt c.c 1 60)))) && (bt c.h 0 60 && ((bt c.r 1 300 && bt c.q 1 300) && bt c.e 1 (min (min c.d c.r) c.q)))

/-- May the windows be? -/
def wa (ws : List Wn) : Bool := ws.all wo

/-- The error of a configuration, or 0. -/
def ce (c : Cg) : Int :=
  if so c = true then (if to c = true then (if ti c = true then (if ck c.z = 0 then (if sk c.s = 0 then (if c.ws.length ≤ 16 then (if wa c.ws = true then 0 else 104) else 103) else sk c.s) else ck c.z) else 102) else 101) else 100

/-- Are two windows the same? -/
def ws (x y : Wn) : Bool := x.k == y.k && (x.m == y.m && (x.p == y.p && (x.a == y.a && (x.h == y.h && (x.u == y.u && x.l == y.l)))))

theorem ws_iff (x y : Wn) : ws x y = true ↔ x = y := by
  cases x; cases y
  simp [ws]

end Go.Proofs.YtpkjbcgmhkkfiaaGreatDoor.Cf

/- What the zone's small functions and Check answer, by the program. Conditions: the numbers are ints, as each theorem says. -/
namespace Go.Proofs.YtpkjbcgmhkkfiaaGreatDoor.Zone
open Go.ChangeShapes Go.WideShapes Go.ChangeAt Go.RowKit
open Go.Proofs.YtpkjbcgmhkkfiaaGreatDoor.Divs Go.Proofs.YtpkjbcgmhkkfiaaGreatDoor.Grow
open Go.Proofs.YtpkjbcgmhkkfiaaGreatDoor.Zo

/-- A turn's cells. -/
def tc (t : Tn) : Array Value := #[.int .i64 t.m, .int .i64 t.k, .int .i64 t.v, .int .i64 t.u]

/-- A zone's cells. -/
def zc (z : Zn) : Array Value := #[.int .i64 z.b, .int .i64 z.s, .int .i64 z.p.m, .int .i64 z.p.k, .int .i64 z.p.v, .int .i64 z.p.u, .int .i64 z.q.m, .int .i64 z.q.k, .int .i64 z.q.v, .int .i64 z.q.u]

def wiB (n a b : Int) : Bool := decide (a ≤ n) && decide (n ≤ b)

theorem wiB_iff (n a b : Int) : wiB n a b = true ↔ a ≤ n ∧ n ≤ b := by simp [wiB]

theorem within_any (n a b : Int) (w : World) : Calls Tryz.prog 90 #[.int .i64 n, .int .i64 a, .int .i64 b] w fun e w' => e = .returned (.bool (wiB n a b)) ∧ w = w' := by
  by_cases h : a ≤ n
  · have t : decide (a ≤ n) = true := by simpa using h
    have HV : Hid (wiB n a b = decide (n ≤ b)) := by
      have : wiB n a b = decide (n ≤ b) := by unfold wiB; rw [t]; rfl
      exact this
    clear h
    go_enter Tryz.func90, Tryz.ntmps90
    go_wp2
    go_ret
    exact ⟨retb HV.out.symm, rfl⟩
  · have t : decide (a ≤ n) = false := by simpa using h
    have HV : Hid (wiB n a b = false) := by
      have : wiB n a b = false := by unfold wiB; rw [t]; rfl
      exact this
    clear h
    go_enter Tryz.func90, Tryz.ntmps90
    go_wp2
    go_ret
    exact ⟨retb HV.out.symm, rfl⟩

theorem equal_turn_at (n : Nat) (a b c d a' b' c' d' : Int) (w : World) : (Op.equalIn (n + 1 + 1) 26 (.agg #[.int .i64 a, .int .i64 b, .int .i64 c, .int .i64 d]) (.agg #[.int .i64 a', .int .i64 b', .int .i64 c', .int .i64 d'])).run Tryz.prog w = .ok (a == a' && (b == b' && (c == c' && d == d'))) w := by
  have u3 := Tryz.underlying3
  have a3 := Tryz.isAgg3
  have z3 := Tryz.sizeOf3
  have hS : Tryz.prog.underlying 26 = some (.struct (Tryz.prog.fieldsOf 26)) := by kernel_rfl
  have hp : Tryz.prog.stoodInHeld 26 = false := by kernel_rfl
  rw [run_equalIn_agg w (n + 1) 26 _ _ hS hp]
  simp only [Program.fieldsOf, Tryz.underlying26]
  go_simp
  by_cases h1 : a = a' <;> by_cases h2 : b = b' <;> by_cases h3 : c = c' <;> by_cases h4 : d = d' <;> simp [h1, h2, h3, h4]

theorem equal_turn (a b c d a' b' c' d' : Int) (w : World) : (Op.equalIn 10000 26 (.agg #[.int .i64 a, .int .i64 b, .int .i64 c, .int .i64 d]) (.agg #[.int .i64 a', .int .i64 b', .int .i64 c', .int .i64 d'])).run Tryz.prog w = .ok (a == a' && (b == b' && (c == c' && d == d'))) w :=
  equal_turn_at 9998 a b c d a' b' c' d' w

theorem equal_int_at (n : Nat) (a b : Int) (w : World) : (Op.equalIn (n + 1) 3 (.int .i64 a) (.int .i64 b)).run Tryz.prog w = .ok (a == b) w := by
  have u3 := Tryz.underlying3
  have a3 := Tryz.isAgg3
  have z3 := Tryz.sizeOf3
  go_simp

attribute [local go_sem] equal_turn_at equal_int_at

/-- Is a zone nothing but its base? -/
def stB (z : Zn) : Bool := z.s == 0 && (ztB z.p && ztB z.q)

set_option maxHeartbeats 1000000 in
theorem equal_zone (a b c d e f g h i j a' b' c' d' e' f' g' h' i' j' : Int) (w : World) : (Op.equalIn 10000 28 (.agg #[.int .i64 a, .int .i64 b, .int .i64 c, .int .i64 d, .int .i64 e, .int .i64 f, .int .i64 g, .int .i64 h, .int .i64 i, .int .i64 j])
      (.agg #[.int .i64 a', .int .i64 b', .int .i64 c', .int .i64 d', .int .i64 e', .int .i64 f', .int .i64 g', .int .i64 h', .int .i64 i', .int .i64 j'])).run Tryz.prog w
    = .ok (a == a' && (b == b' && ((c == c' && (d == d' && (e == e' && f == f'))) && (g == g' && (h == h' && (i == i' && j == j')))))) w := by
  have u3 := Tryz.underlying3
  have a3 := Tryz.isAgg3
  have z3 := Tryz.sizeOf3
  have hS : Tryz.prog.underlying 28 = some (.struct (Tryz.prog.fieldsOf 28)) := by kernel_rfl
  have hp : Tryz.prog.stoodInHeld 28 = false := by kernel_rfl
  have E : ∀ n, n = 9997 → (Op.equalIn (n + 1 + 1 + 1) 28 (.agg #[.int .i64 a, .int .i64 b, .int .i64 c, .int .i64 d, .int .i64 e, .int .i64 f, .int .i64 g, .int .i64 h, .int .i64 i, .int .i64 j])
      (.agg #[.int .i64 a', .int .i64 b', .int .i64 c', .int .i64 d', .int .i64 e', .int .i64 f', .int .i64 g', .int .i64 h', .int .i64 i', .int .i64 j'])).run Tryz.prog w
    = .ok (a == a' && (b == b' && ((c == c' && (d == d' && (e == e' && f == f'))) && (g == g' && (h == h' && (i == i' && j == j')))))) w := by
    intro n _
    rw [run_equalIn_agg w (n + 1 + 1) 28 _ _ hS hp]
    simp only [Program.fieldsOf, Tryz.underlying28]
    have a23 := Tryz.isAgg26
    have z23 := Tryz.sizeOf26
    go_simp
    repeat' split
    all_goals simp_all
  exact E 9997 rfl

attribute [local go_sem high] equal_turn equal_zone

theorem steady_any (z : Zn) (w : World) : Calls Tryz.prog 91 #[.agg (zc z)] w fun e w' => e = .returned (.bool (stB z)) ∧ Later w w' := by
  unfold zc
  go_enter Tryz.func91, Tryz.ntmps91
  go_wp2
  go_ret
  exact ⟨rfl, (Later.refl w).alloc _ _⟩

theorem apart_any (z : Zn) (w : World) (h1 : 1 ≤ z.p.m) (h2 : z.p.m ≤ 12) (h3 : 1 ≤ z.q.m) (h4 : z.q.m ≤ 12) : Calls Tryz.prog 92 #[.agg (zc z)] w fun e w' => e = .returned (.bool (apB z)) ∧ Later w w' := by
  unfold zc
  have K := Lib.hid (fun n W => within_any n 2 10 W)
  by_cases h : z.p.m - z.q.m < 0
  · have HV : Hid (wiB (-(z.p.m - z.q.m)) 2 10 = apB z) := by
      have : wiB (-(z.p.m - z.q.m)) 2 10 = apB z := by rw [Bool.eq_iff_iff, wiB_iff, apB_iff]; omega
      exact this
    go_enter Tryz.func92, Tryz.ntmps92
    go_wp2_with fail
    refine (K.out _ _).mono ?_
    rintro e w1 ⟨rfl, rfl⟩
    go_wp2_with fail
    go_ret
    exact ⟨retb HV.out, (Later.refl w).alloc _ _⟩
  · have HV : Hid (wiB (z.p.m - z.q.m) 2 10 = apB z) := by
      have : wiB (z.p.m - z.q.m) 2 10 = apB z := by rw [Bool.eq_iff_iff, wiB_iff, apB_iff]; omega
      exact this
    go_enter Tryz.func92, Tryz.ntmps92
    go_wp2_with fail
    refine (K.out _ _).mono ?_
    rintro e w1 ⟨rfl, rfl⟩
    go_wp2_with fail
    go_ret
    exact ⟨retb HV.out, (Later.refl w).alloc _ _⟩

theorem okB_of (t : Tn) : okB t = (wiB t.m 1 12 && (wiB t.k 1 5 && (wiB t.v 0 6 && wiB t.u 0 1439))) := by
  rw [Bool.eq_iff_iff, okB_iff]
  simp only [Bool.and_eq_true, wiB_iff]
  omega

set_option maxHeartbeats 1000000 in
theorem wrong_any (s : Int) (t : Tn) (a : Nat) (w : World) (hc : w.cell? ⟨a, 1, none⟩ = some (.int .i64 s)) : Calls Tryz.prog 108 #[.agg (tc t), .pointer (some ⟨a, 0, none⟩)] w fun e w' => e = .returned (.bool (wrB s t)) ∧ Later w w' := by
  unfold tc
  have c : (w.alloc (.cells #[.int .i64 t.m, .int .i64 t.k, .int .i64 t.v, .int .i64 t.u] 26)).cell? ⟨a, 1, none⟩ = some (.int .i64 s) := gsome ((Later.refl w).alloc _ _) hc
  clear hc
  have HL := Lib.hid ((Later.refl w).alloc #[.int .i64 t.m, .int .i64 t.k, .int .i64 t.v, .int .i64 t.u] 26)
  by_cases h : s = 0
  · have e : (s == 0) = true := by simpa using h
    have HV : Hid (wrB s t = !ztB t) := by
      have : wrB s t = !ztB t := by unfold wrB; rw [if_pos h]
      exact this
    clear h
    go_enter Tryz.func108, Tryz.ntmps108
    go_wp2
    go_ret
    exact ⟨retb (by rw [HV.out]; unfold ztB; simp), HL.out⟩
  · have e : (s == 0) = false := by simpa using h
    have K := Lib.hid (fun n a b W => within_any n a b W)
    have HV : Hid (wrB s t = !okB t) := by
      have : wrB s t = !okB t := by unfold wrB; rw [if_neg h]
      exact this
    have HO := Lib.hid (okB_of t)
    clear h
    have one : ∀ b : Bool, wiB t.m 1 12 = b → ∀ b2 : Bool, wiB t.k 1 5 = b2 → ∀ b3 : Bool, wiB t.v 0 6 = b3 → ∀ b4 : Bool, wiB t.u 0 1439 = b4 → wrB s t = !(b && (b2 && (b3 && b4))) := by
      rintro _ rfl _ rfl _ rfl _ rfl
      rw [HV.out, HO.out]
    cases e1 : wiB t.m 1 12 with
    | false =>
      have R := Lib.hid (one _ e1 _ rfl _ rfl _ rfl)
      clear one
      go_enter Tryz.func108, Tryz.ntmps108
      go_wp2_with (go_at_call 90; refine (K.out _ _ _ _).mono ?_; rintro e w1 ⟨rfl, rfl⟩)
      go_ret
      exact ⟨retb (by rw [R.out]; rfl), HL.out⟩
    | true =>
      cases e2 : wiB t.k 1 5 with
      | false =>
        have R := Lib.hid (one _ e1 _ e2 _ rfl _ rfl)
        clear one
        go_enter Tryz.func108, Tryz.ntmps108
        go_wp2_with (go_at_call 90; refine (K.out _ _ _ _).mono ?_; rintro e w1 ⟨rfl, rfl⟩)
        go_ret
        exact ⟨retb (by rw [R.out]; rfl), HL.out⟩
      | true =>
        cases e3 : wiB t.v 0 6 with
        | false =>
          have R := Lib.hid (one _ e1 _ e2 _ e3 _ rfl)
          clear one
          go_enter Tryz.func108, Tryz.ntmps108
          go_wp2_with (go_at_call 90; refine (K.out _ _ _ _).mono ?_; rintro e w1 ⟨rfl, rfl⟩)
          go_ret
          exact ⟨retb (by rw [R.out]; rfl), HL.out⟩
        | true =>
          have R := Lib.hid (one _ e1 _ e2 _ e3 _ rfl)
          clear one
          go_enter Tryz.func108, Tryz.ntmps108
          go_wp2_with (go_at_call 90; refine (K.out _ _ _ _).mono ?_; rintro e w1 ⟨rfl, rfl⟩)
          go_ret
          exact ⟨retb (by rw [R.out]; rfl), HL.out⟩

/-- A zone lies in the block a. -/
def Zat (w : World) (a : Nat) (z : Zn) : Prop := w.cell? ⟨a, 0, none⟩ = some (.int .i64 z.b) ∧ w.cell? ⟨a, 1, none⟩ = some (.int .i64 z.s) ∧ w.cell? ⟨a, 2, none⟩ = some (.int .i64 z.p.m) ∧ w.cell? ⟨a, 3, none⟩ = some (.int .i64 z.p.k) ∧ w.cell? ⟨a, 4, none⟩ = some (.int .i64 z.p.v) ∧ w.cell? ⟨a, 5, none⟩ = some (.int .i64 z.p.u) ∧ w.cell? ⟨a, 6, none⟩ = some (.int .i64 z.q.m) ∧ w.cell? ⟨a, 7, none⟩ = some (.int .i64 z.q.k) ∧ w.cell? ⟨a, 8, none⟩ = some (.int .i64 z.q.v) ∧ w.cell? ⟨a, 9, none⟩ = some (.int .i64 z.q.u)

theorem Zat.new (w : World) (z : Zn) : Zat (w.alloc (.cells (zc z) 28)) w.heap.size z := by
  refine ⟨?_, ?_, ?_, ?_, ?_, ?_, ?_, ?_, ?_, ?_⟩ <;> rw [World.cell?_alloc_new] <;> rfl

theorem Zat.later {w w1 : World} {a : Nat} {z : Zn} (h : Zat w a z) (g : Later w w1) : Zat w1 a z := by
  obtain ⟨h0, h1, h2, h3, h4, h5, h6, h7, h8, h9⟩ := h
  exact ⟨gsome g h0, gsome g h1, gsome g h2, gsome g h3, gsome g h4, gsome g h5, gsome g h6, gsome g h7, gsome g h8, gsome g h9⟩

theorem make_any (z : Zn) (w : World) : Calls Tryz.prog 89 #[.agg (zc z)] w fun e w' => ∃ a, e = .returned (.func (.func 108) #[] #[.pointer (some ⟨a, 0, none⟩)]) ∧ Zat w' a z ∧ Later w w' := by
  have HZ := Lib.hid (Zat.new w z)
  unfold zc at *
  go_enter Tryz.func89, Tryz.ntmps89
  go_wp2
  go_ret
  exact ⟨_, rfl, HZ.out, (Later.refl w).alloc _ _⟩

theorem ck_of (z : Zn) (e0 : wiB z.b (-720) 840 = true) (e1 : wiB z.s 0 120 = true) : ck z = if badB z = true then 62 else 0 := by
  rw [wiB_iff] at e0 e1
  unfold ck
  rw [if_neg (by omega), if_neg (by omega)]

theorem reti {a b : Int} (h : a = b) : Ending.returned (.int .i64 a) = .returned (.int .i64 b) := by rw [h]

theorem check_base (z : Zn) (w : World) (e0 : wiB z.b (-720) 840 = false) : Calls Tryz.prog 72 #[.agg (zc z)] w fun e w' => e = .returned (.int .i64 (ck z)) ∧ Later w w' := by
  have M := Lib.hid (fun W => make_any z W)
  have K := Lib.hid (fun n a b W => within_any n a b W)
  have HV : Hid (60 = ck z) := by
    have : 60 = ck z := by
      have := mt (wiB_iff z.b (-720) 840).2 (by rw [e0]; simp)
      unfold ck; rw [if_pos (by omega)]
    exact this
  unfold zc
  go_enter Tryz.func72, Tryz.ntmps72
  go_wp2_with fail
  refine (M.out _).mono ?_
  rintro e w1 ⟨a, rfl, za, hg1⟩
  obtain ⟨c0, c1, c2, c3, c4, c5, c6, c7, c8, c9⟩ := (Zat.new w z).later hg1
  have HG := Lib.hid (gtrans ((Later.refl w).alloc _ _) hg1)
  clear hg1 za
  go_wp2_with (go_at_call 90; refine (K.out _ _ _ _).mono ?_; rintro e w1 ⟨rfl, rfl⟩)
  go_ret
  exact ⟨reti HV.out, HG.out⟩

theorem check_shift (z : Zn) (w : World) (e0 : wiB z.b (-720) 840 = true) (e1 : wiB z.s 0 120 = false) : Calls Tryz.prog 72 #[.agg (zc z)] w fun e w' => e = .returned (.int .i64 (ck z)) ∧ Later w w' := by
  have M := Lib.hid (fun W => make_any z W)
  have K := Lib.hid (fun n a b W => within_any n a b W)
  have HV : Hid (61 = ck z) := by
    have : 61 = ck z := by
      have h0 := (wiB_iff z.b (-720) 840).1 e0
      have := mt (wiB_iff z.s 0 120).2 (by rw [e1]; simp)
      unfold ck; rw [if_neg (by omega), if_pos (by omega)]
    exact this
  unfold zc
  go_enter Tryz.func72, Tryz.ntmps72
  go_wp2_with fail
  refine (M.out _).mono ?_
  rintro e w1 ⟨a, rfl, za, hg1⟩
  obtain ⟨c0, c1, c2, c3, c4, c5, c6, c7, c8, c9⟩ := (Zat.new w z).later hg1
  have HG := Lib.hid (gtrans ((Later.refl w).alloc _ _) hg1)
  clear hg1 za
  go_wp2_with (go_at_call 90; refine (K.out _ _ _ _).mono ?_; rintro e w1 ⟨rfl, rfl⟩)
  go_ret
  exact ⟨reti HV.out, HG.out⟩

theorem stB_of (z : Zn) (h1 : wrB z.s z.p = false) (h2 : wrB z.s z.q = false) : stB z = decide (z.s = 0) := by
  unfold wrB at h1 h2
  unfold stB
  by_cases h : z.s = 0
  · rw [if_pos h] at h1 h2
    simp at h1 h2
    simp [h, h1, h2]
  · simp [h]

theorem wr_month (s : Int) (t : Tn) (hs : ¬ s = 0) (h : wrB s t = false) : 1 ≤ t.m ∧ t.m ≤ 12 := by
  unfold wrB at h
  rw [if_neg hs] at h
  have := (okB_iff t).1 (by simpa using h)
  omega

set_option maxHeartbeats 2000000 in
theorem check_turn (z : Zn) (w : World) (e0 : wiB z.b (-720) 840 = true) (e1 : wiB z.s 0 120 = true) : Calls Tryz.prog 72 #[.agg (zc z)] w fun e w' => e = .returned (.int .i64 (ck z)) ∧ Later w w' := by
  have M := Lib.hid (fun W => make_any z W)
  have K := Lib.hid (fun n a b W => within_any n a b W)
  have HP := Lib.hid (fun a W hc => wrong_any z.s z.p a W hc)
  have HQ := Lib.hid (fun a W hc => wrong_any z.s z.q a W hc)
  have HS := Lib.hid (fun W => steady_any z W)
  have HC := Lib.hid (ck_of z e0 e1)
  have HB : Hid (badB z = (wrB z.s z.p || (wrB z.s z.q || (!decide (z.s = 0) && !apB z)))) := (rfl : badB z = _)
  have HA := Lib.hid (fun h1 h2 h3 h4 W => apart_any z W h1 h2 h3 h4)
  have HT := Lib.hid (stB_of z)
  have HM := Lib.hid (fun t => wr_month z.s t)
  have HN := Lib.hid (Zat.new w z)
  unfold zc
  go_enter Tryz.func72, Tryz.ntmps72
  go_wp2_with fail
  refine (M.out _).mono ?_
  rintro e w1 ⟨a, rfl, za, hg1⟩
  have HG := Lib.hid (gtrans ((Later.refl w).alloc _ _) hg1)
  have z1 := HN.out.later hg1
  have HZ := Lib.hid z1
  have HY := Lib.hid za
  obtain ⟨c0, c1, c2, c3, c4, c5, c6, c7, c8, c9⟩ := z1
  clear hg1 za
  go_wp2_with (go_at_call 90; refine (K.out _ _ _ _).mono ?_; rintro e w1 ⟨rfl, rfl⟩)
  refine (HP.out _ _ HY.out.2.1).mono ?_
  rintro e w2 ⟨rfl, hg2⟩
  have HG2 := Lib.hid (gtrans HG.out hg2)
  have z2 := HZ.out.later hg2
  have HZ2 := Lib.hid z2
  have HY2 := Lib.hid (HY.out.later hg2)
  clear c0 c1 c2 c3 c4 c5 c6 c7 c8 c9 hg2
  cases p : wrB z.s z.p with
  | true =>
    clear z2
    have HP := Lib.hid p
    clear p
    go_wp2_with fail
    go_ret
    exact ⟨reti (by rw [HC.out, HB.out, HP.out]; rfl), HG2.out⟩
  | false =>
    have HP1 := Lib.hid p
    clear p
    obtain ⟨c0, c1, c2, c3, c4, c5, c6, c7, c8, c9⟩ := z2
    go_wp2_with fail
    refine (HQ.out _ _ HY2.out.2.1).mono ?_
    rintro e w3 ⟨rfl, hg3⟩
    have HG3 := Lib.hid (gtrans HG2.out hg3)
    have z3 := HZ2.out.later hg3
    have HZ3 := Lib.hid z3
    clear c0 c1 c2 c3 c4 c5 c6 c7 c8 c9 hg3
    cases q : wrB z.s z.q with
    | true =>
      clear z3
      have HQ := Lib.hid q
      clear q
      go_wp2_with fail
      go_ret
      exact ⟨reti (by rw [HC.out, HB.out, HP1.out, HQ.out]; rfl), HG3.out⟩
    | false =>
      have HQ1 := Lib.hid q
      clear q
      obtain ⟨c0, c1, c2, c3, c4, c5, c6, c7, c8, c9⟩ := z3
      go_wp2_with fail
      refine (HS.out _).mono ?_
      rintro e w4 ⟨rfl, hg4⟩
      rw [HT.out HP1.out HQ1.out]
      have HG4 := Lib.hid (gtrans HG3.out hg4)
      have z4 := HZ3.out.later hg4
      clear c0 c1 c2 c3 c4 c5 c6 c7 c8 c9 hg4
      obtain ⟨c0, c1, c2, c3, c4, c5, c6, c7, c8, c9⟩ := z4
      by_cases hs : z.s = 0
      · have t : decide (z.s = 0) = true := by simpa using hs
        have HS0 := Lib.hid hs
        rw [t]
        clear t hs
        go_wp2_with fail
        go_ret
        exact ⟨reti (by rw [HC.out, HB.out, HP1.out, HQ1.out]; simp [HS0.out]), HG4.out⟩
      · have t : decide (z.s = 0) = false := by simpa using hs
        obtain ⟨m1, m2⟩ := HM.out z.p hs HP1.out
        obtain ⟨m3, m4⟩ := HM.out z.q hs HQ1.out
        have HA1 := Lib.hid (HA.out m1 m2 m3 m4)
        have HS0 := Lib.hid hs
        rw [t]
        clear t hs m1 m2 m3 m4
        go_wp2_with fail
        refine (HA1.out _).mono ?_
        rintro e w5 ⟨rfl, hg5⟩
        clear c0 c1 c2 c3 c4 c5 c6 c7 c8 c9
        cases ap : apB z with
        | true =>
          go_wp2_with fail
          go_ret
          exact ⟨reti (by rw [HC.out, HB.out, HP1.out, HQ1.out]; simp [HS0.out, ap]), gtrans HG4.out hg5⟩
        | false =>
          go_wp2_with fail
          go_ret
          exact ⟨reti (by rw [HC.out, HB.out, HP1.out, HQ1.out]; simp [HS0.out, ap]), gtrans HG4.out hg5⟩

theorem check_any (z : Zn) (w : World) : Calls Tryz.prog 72 #[.agg (zc z)] w fun e w' => e = .returned (.int .i64 (ck z)) ∧ Later w w' := by
  cases e0 : wiB z.b (-720) 840 with
  | false => exact check_base z w e0
  | true =>
    cases e1 : wiB z.s 0 120 with
    | false => exact check_shift z w e0 e1
    | true => exact check_turn z w e0 e1

end Go.Proofs.YtpkjbcgmhkkfiaaGreatDoor.Zone

/- Slices of ints that a call laid. No condition. -/
namespace Go.Proofs.YtpkjbcgmhkkfiaaGreatDoor.Zone
open Go.ChangeShapes Go.WideShapes Go.ChangeAt Go.RowKit
open Go.Proofs.YtpkjbcgmhkkfiaaGreatDoor.Divs Go.Proofs.YtpkjbcgmhkkfiaaGreatDoor.Grow
open Go.Proofs.YtpkjbcgmhkkfiaaGreatDoor.Zo

theorem info_int : (Tryz.prog.info? 3).map (fun i => (i.zero, i.size, i.bytes)) = some (some (.int .i64 0), 1, 8) := by kernel_rfl

/-- v is a slice of these numbers, its cells laid since the world had b blocks. -/
def SL (W : World) (b : Nat) (v : Value) (xs : List Int) : Prop := W.ownsRow b 3 1 v xs.length (xs.map (Value.int .i64))

theorem SL.later {W W' : World} {b : Nat} {v : Value} {xs : List Int} (h : SL W b v xs) (g : Later W W') : SL W' b v xs :=
  World.ownsRow.kept h g.grownBy (by cases v.ownBlock <;> simp)

theorem later_grown {w a b : World} {v : Value} {xs : List Int} (g : Later w a) (f : SL a w.heap.size v xs) (k : a.grownBy b v.ownBlock) : Later w b :=
  Later.of_below (g.below.grown k g.size (fun j e => (World.ownsRow.lt f j e).1))

/-- v is a slice of these numbers. -/
def Sl (W : World) (v : Value) (xs : List Int) : Prop :=
  (xs = [] ∧ v = .slice none 0 0) ∨ ∃ g cap, v = .slice (some ⟨g, 0, none⟩) xs.length cap ∧ ∀ (i : Nat) (a : Int), xs[i]? = some a → W.cell? ⟨g, i, none⟩ = some (.int .i64 a)

theorem Sl.later {W W' : World} {v : Value} {xs : List Int} (h : Sl W v xs) (g : Later W W') : Sl W' v xs := by
  rcases h with h | ⟨b, cap, e, h⟩
  · exact .inl h
  · exact .inr ⟨b, cap, e, fun i a hi => gsome g (h i a hi)⟩

theorem add_zero (g j : Nat) : (⟨g, 0, none⟩ : Addr).add j = ⟨g, j, none⟩ := by
  unfold Addr.add
  split
  · rename_i h
    rw [h]
  · simp

theorem SL.sl {W : World} {b : Nat} {v : Value} {xs : List Int} (h : SL W b v xs) : Sl W v xs := by
  rcases h.2 with ⟨e, h0⟩ | ⟨g, cap, cur, rfl, _⟩
  · exact .inl ⟨List.length_eq_zero_iff.1 h0, e⟩
  · refine .inr ⟨g, cap, rfl, fun i a hi => ?_⟩
    have c := World.ownsRow.cells h (g := g) rfl i (.int .i64 a) (by rw [List.getElem?_map, hi]; rfl)
    rwa [add_zero] at c

end Go.Proofs.YtpkjbcgmhkkfiaaGreatDoor.Zone

/- What the program's sunset answers of months: the minutes of some, and of a month and the next one. Conditions: the month is from 1 to 12. -/
namespace Go.Proofs.YtpkjbcgmhkkfiaaGreatDoor.Sun
open Go.ChangeShapes Go.WideShapes Go.ChangeAt Go.RowKit
open Go.Proofs.YtpkjbcgmhkkfiaaGreatDoor.Divs Go.Proofs.YtpkjbcgmhkkfiaaGreatDoor.Grow Go.Proofs.YtpkjbcgmhkkfiaaGreatDoor.Zone
open Go.Proofs.YtpkjbcgmhkkfiaaGreatDoor.Zo Go.Proofs.YtpkjbcgmhkkfiaaGreatDoor.Su
def sc (s : Nat → Int) : Array Value := #[.int .i64 (s 0), .int .i64 (s 1), .int .i64 (s 2), .int .i64 (s 3), .int .i64 (s 4), .int .i64 (s 5), .int .i64 (s 6), .int .i64 (s 7), .int .i64 (s 8), .int .i64 (s 9), .int .i64 (s 10), .int .i64 (s 11)]

theorem sc_get (s : Nat → Int) (i : Nat) (h : i < 12) : (sc s)[i]? = some (.int .i64 (s i)) := by
  obtain rfl | rfl | rfl | rfl | rfl | rfl | rfl | rfl | rfl | rfl | rfl | rfl : i = 0 ∨ i = 1 ∨ i = 2 ∨ i = 3 ∨ i = 4 ∨ i = 5 ∨ i = 6 ∨ i = 7 ∨ i = 8 ∨ i = 9 ∨ i = 10 ∨ i = 11 := by omega
  all_goals rfl

theorem make_two : ∀ W : World, (Instr.makeSlice 22 (.int .i64 0) (.int .i64 2)).run Tryz.prog W = .ok (.slice (some ⟨W.heap.size, 0, none⟩) 0 2) (W.alloc (.cells #[.int .i64 0, .int .i64 0] 3)) := by
  intro W
  obtain ⟨i0, hi, hz0, hz1, hz2⟩ := info_parts info_int
  have := run_make (P := Tryz.prog) W 22 3 i0 (.int .i64 0) Tryz.underlying22 hi hz0 .i64 .i64 0 2 (by omega) (by omega) (by rw [hz2]; decide) (by decide)
  rw [hz1] at this
  have e : madeCells (Value.int .i64 0).cells (Int.toNat 2 * 1) = #[.int .i64 0, .int .i64 0] := by kernel_rfl
  rw [e] at this
  exact this

def MRel (s : Nat → Int) (m : Int) (w : World) (v i : Value) (wr : World) : Prop :=
  ∃ k : Nat, k ≤ 2 ∧ i = .int .i64 (k : Int) ∧ SL wr (w.alloc (.cells (sc s) 30)).heap.size v ([s (m.toNat - 1), s (m.toNat % 12)].take k) ∧ Later (w.alloc (.cells (sc s) 30)) wr

set_option maxHeartbeats 1000000 in
theorem minutes_any (s : Nat → Int) (m : Int) (g : Nat) (w : World) (h1 : 1 ≤ m) (h2 : m ≤ 12) (c0 : w.cell? ⟨g, 0, none⟩ = some (.int .i64 m)) (c1 : w.cell? ⟨g, 1, none⟩ = some (.int .i64 (m + 1))) :
    Calls Tryz.prog 109 #[.agg (sc s), .slice (some ⟨g, 0, none⟩) 2 2] w fun e w' => ∃ v, e = .returned v ∧ Sl w' v [s (m.toNat - 1), s (m.toNat % 12)] ∧ Later w w' := by
  have mk := make_two
  obtain ⟨i0, hi, hz0, hz1, hz2⟩ := info_parts info_int
  have HI := Lib.hid hi
  have HZ0 := Lib.hid hz0
  have HZ1 := Lib.hid hz1
  have HZ2 := Lib.hid hz2
  clear hi hz0 hz1 hz2
  have HC0 := Lib.hid c0
  have HC1 := Lib.hid c1
  clear c0 c1
  have HS : Hid (sc s = #[.int .i64 (s 0), .int .i64 (s 1), .int .i64 (s 2), .int .i64 (s 3), .int .i64 (s 4), .int .i64 (s 5), .int .i64 (s 6), .int .i64 (s 7), .int .i64 (s 8), .int .i64 (s 9), .int .i64 (s 10), .int .i64 (s 11)]) := Lib.hid (rfl : sc s = _)
  rw [HS.out]
  go_enter Tryz.func109, Tryz.ntmps109
  go_wp2
  go_loopw [5, 13] (fun v i wr => MRel s m w v i wr) (fun _ i _ => 2 - (intOf i).toNat)
  case atStart =>
    refine ⟨0, by omega, rfl, ?_, (Later.refl _).alloc _ _⟩
    have := World.ownsRow_made (base := (w.alloc (.cells (sc s) 30)).heap.size) (e := 3) (size := 1) (w.alloc (.cells (sc s) 30)) #[.int .i64 0, .int .i64 0] 2 (Nat.le_refl _) (by decide) rfl
    simpa [SL, HS.out] using this
  case round =>
    obtain ⟨k, hk, rfl, hs, hg⟩ := hrel
    clear mk
    have HG := Lib.hid hg
    have HO := Lib.hid hs
    clear hs hg
    obtain rfl | rfl | rfl : k = 0 ∨ k = 1 ∨ k = 2 := by omega
    · have c0 := gsome HG.out (gsome ((Later.refl w).alloc (sc s) 30) HC0.out)
      have x0 : wr.cell? ⟨w.heap.size, ((m - 1) % 12).toNat, none⟩ = some (.int .i64 (s (m.toNat - 1))) := by
        refine gsome HG.out ?_
        rw [World.cell?_alloc_new, show ((m - 1) % 12).toNat = m.toNat - 1 by omega]
        exact sc_get s _ (by omega)
      go_wp2_with (at_builtin; go_loud (refine wpList_append_own _ rfl _ _ 22 rfl (w.alloc (.cells (sc s) 30)).heap.size 3 i0 (.int .i64 0) 1 8 Tryz.underlying22 HI.out HZ0.out HZ1.out HZ2.out rfl (by decide) _ _ _ rfl (World.ownsRow.alloc HO.out _) ⟨wr.heap.size, 0, none⟩ 1 1 [.int .i64 (s (m.toNat - 1))] rfl rfl (cell_one_new _ _ _) (by simp [Value.oneCell']) (by simp only [maxLen]; simp) (by simp) (by have := HG.out.size; simp only [World.size_alloc] at this ⊢; omega) ?_); go_loud (intro v' w4 hown' hgrow _; have HG4 := Lib.hid (later_grown (HG.out.put _) (HO.out.later ((Later.refl _).put _)) hgrow); have HO4 : Hid (SL w4 (w.alloc (.cells (sc s) 30)).heap.size v' (List.take 1 [s (m.toNat - 1), s (m.toNat % 12)])) := Lib.hid (by unfold SL; exact hown'); clear hown' hgrow))
      go_roundw
      case rel => exact ⟨1, by omega, by go_num, HO4.out, HG4.out⟩
      case measure => simp [intOf]
    · have c1 := gsome HG.out (gsome ((Later.refl w).alloc (sc s) 30) HC1.out)
      have x1 : wr.cell? ⟨w.heap.size, (m % 12).toNat, none⟩ = some (.int .i64 (s (m.toNat % 12))) := by
        refine gsome HG.out ?_
        rw [World.cell?_alloc_new, show (m % 12).toNat = m.toNat % 12 by omega]
        exact sc_get s _ (by omega)
      go_wp2_with (at_builtin; go_loud (refine wpList_append_own _ rfl _ _ 22 rfl (w.alloc (.cells (sc s) 30)).heap.size 3 i0 (.int .i64 0) 1 8 Tryz.underlying22 HI.out HZ0.out HZ1.out HZ2.out rfl (by decide) _ _ _ rfl (World.ownsRow.alloc HO.out _) ⟨wr.heap.size, 0, none⟩ 1 1 [.int .i64 (s (m.toNat % 12))] rfl rfl (cell_one_new _ _ _) (by simp [Value.oneCell']) (by simp only [maxLen]; simp) (by simp) (by have := HG.out.size; simp only [World.size_alloc] at this ⊢; omega) ?_); go_loud (intro v' w4 hown' hgrow _; have HG4 := Lib.hid (later_grown (HG.out.put _) (HO.out.later ((Later.refl _).put _)) hgrow); have HO4 : Hid (SL w4 (w.alloc (.cells (sc s) 30)).heap.size v' (List.take 2 [s (m.toNat - 1), s (m.toNat % 12)])) := Lib.hid (by unfold SL; exact hown'); clear hown' hgrow))
      go_roundw
      case rel => exact ⟨2, by omega, by go_num, HO4.out, HG4.out⟩
      case measure => simp [intOf]
    · have HO2 : Hid (Sl wr _ [s (m.toNat - 1), s (m.toNat % 12)]) := Lib.hid HO.out.sl
      go_wp2
      go_ret
      exact ⟨_, rfl, HO2.out, gtrans ((Later.refl w).alloc _ _) HG.out⟩

theorem within_any (n a b : Int) (w : World) : Calls Tryz.prog 93 #[.int .i64 n, .int .i64 a, .int .i64 b] w fun e w' => e = .returned (.bool (wiB n a b)) ∧ w = w' := by
  by_cases h : a ≤ n
  · have t : decide (a ≤ n) = true := by simpa using h
    have HV : Hid (wiB n a b = decide (n ≤ b)) := by
      have : wiB n a b = decide (n ≤ b) := by unfold wiB; rw [t]; rfl
      exact this
    clear h
    go_enter Tryz.func93, Tryz.ntmps93
    go_wp2
    go_ret
    exact ⟨retb HV.out.symm, rfl⟩
  · have t : decide (a ≤ n) = false := by simpa using h
    have HV : Hid (wiB n a b = false) := by
      have : wiB n a b = false := by unfold wiB; rw [t]; rfl
      exact this
    clear h
    go_enter Tryz.func93, Tryz.ntmps93
    go_wp2
    go_ret
    exact ⟨retb HV.out.symm, rfl⟩
end Go.Proofs.YtpkjbcgmhkkfiaaGreatDoor.Sun

/- Whether a table of sunsets may be, by the program's Check. No condition. -/
namespace Go.Proofs.YtpkjbcgmhkkfiaaGreatDoor.Sun
open Go.ChangeShapes Go.WideShapes Go.ChangeAt Go.RowKit
open Go.Proofs.YtpkjbcgmhkkfiaaGreatDoor.Divs Go.Proofs.YtpkjbcgmhkkfiaaGreatDoor.Grow Go.Proofs.YtpkjbcgmhkkfiaaGreatDoor.Zone
open Go.Proofs.YtpkjbcgmhkkfiaaGreatDoor.Zo Go.Proofs.YtpkjbcgmhkkfiaaGreatDoor.Su

theorem sl_two {W : World} {v : Value} {a b : Int} (h : Sl W v [a, b]) : ∃ g cap, v = .slice (some ⟨g, 0, none⟩) 2 cap ∧ W.cell? ⟨g, 0, none⟩ = some (.int .i64 a) ∧ W.cell? ⟨g, 1, none⟩ = some (.int .i64 b) := by
  rcases h with ⟨h, _⟩ | ⟨g, cap, e, h⟩
  · exact absurd h (by simp)
  · exact ⟨g, cap, e, h 0 a rfl, h 1 b rfl⟩

theorem next_any (s : Nat → Int) (m : Int) (w : World) (h1 : 1 ≤ m) (h2 : m ≤ 12) :
    Calls Tryz.prog 94 #[.agg (sc s), .int .i64 m] w fun e w' => e = .returned (.tuple #[.int .i64 (s (m.toNat - 1)), .int .i64 (s (m.toNat % 12))]) ∧ Later w w' := by
  have M := Lib.hid (fun g W c0 c1 => minutes_any s m g W h1 h2 c0 c1)
  unfold sc
  go_enter Tryz.func94, Tryz.ntmps94
  go_wp2_with fail
  refine (M.out _ _ (by simp) (by simp)).mono ?_
  rintro e w1 ⟨v, rfl, hv, hg1⟩
  obtain ⟨g, cap, rfl, c0, c1⟩ := sl_two hv
  have HG1 := Lib.hid (gtrans (((Later.refl w).alloc _ _).alloc _ _) hg1)
  clear hg1 hv
  go_wp2_with fail
  go_quiet (fail)
  go_wp2_with fail
  go_ret2
  exact ⟨rfl, HG1.out⟩

/-- A table lies in the block a. -/
def Sat (w : World) (a : Nat) (s : Nat → Int) : Prop := ∀ i, i < 12 → w.cell? ⟨a, i, none⟩ = some (.int .i64 (s i))

theorem Sat.new (w : World) (s : Nat → Int) : Sat (w.alloc (.cells (sc s) 30)) w.heap.size s := by
  intro i hi
  rw [World.cell?_alloc_new]
  exact sc_get s i hi

theorem Sat.later {w w1 : World} {a : Nat} {s : Nat → Int} (h : Sat w a s) (g : Later w w1) : Sat w1 a s := fun i hi => gsome g (h i hi)

theorem Sat.all {w : World} {a : Nat} {s : Nat → Int} (h : Sat w a s) : w.cell? ⟨a, 0, none⟩ = some (.int .i64 (s 0)) ∧ w.cell? ⟨a, 1, none⟩ = some (.int .i64 (s 1)) ∧ w.cell? ⟨a, 2, none⟩ = some (.int .i64 (s 2)) ∧ w.cell? ⟨a, 3, none⟩ = some (.int .i64 (s 3)) ∧ w.cell? ⟨a, 4, none⟩ = some (.int .i64 (s 4)) ∧ w.cell? ⟨a, 5, none⟩ = some (.int .i64 (s 5)) ∧ w.cell? ⟨a, 6, none⟩ = some (.int .i64 (s 6)) ∧ w.cell? ⟨a, 7, none⟩ = some (.int .i64 (s 7)) ∧ w.cell? ⟨a, 8, none⟩ = some (.int .i64 (s 8)) ∧ w.cell? ⟨a, 9, none⟩ = some (.int .i64 (s 9)) ∧ w.cell? ⟨a, 10, none⟩ = some (.int .i64 (s 10)) ∧ w.cell? ⟨a, 11, none⟩ = some (.int .i64 (s 11)) :=
  ⟨h 0 (by omega), h 1 (by omega), h 2 (by omega), h 3 (by omega), h 4 (by omega), h 5 (by omega), h 6 (by omega), h 7 (by omega), h 8 (by omega), h 9 (by omega), h 10 (by omega), h 11 (by omega)⟩

/-- A table's minute, by its place. -/
theorem index_any (s : Nat → Int) (k : Nat) (hk : k < 12) : ∀ W : World, (Instr.index 30 (.agg (sc s)) (.int .i64 (k : Int))).run Tryz.prog W = .ok (.int .i64 (s k)) W := by
  intro W
  obtain rfl | rfl | rfl | rfl | rfl | rfl | rfl | rfl | rfl | rfl | rfl | rfl : k = 0 ∨ k = 1 ∨ k = 2 ∨ k = 3 ∨ k = 4 ∨ k = 5 ∨ k = 6 ∨ k = 7 ∨ k = 8 ∨ k = 9 ∨ k = 10 ∨ k = 11 := by omega
  all_goals kernel_rfl

/-- The minutes of k months are from 900 to 1320. -/
def CRel (s : Nat → Int) (i : Value) : Prop := ∃ k : Nat, k ≤ 12 ∧ i = .int .i64 (k : Int) ∧ ∀ j, j < k → 900 ≤ s j ∧ s j ≤ 1320

/-- The steps of k months are so. -/
def DRel (s : Nat → Int) (w : World) (i : Value) (wr : World) : Prop := ∃ k : Nat, k ≤ 12 ∧ i = .int .i64 ((k : Int) + 1) ∧ (∀ j, j < k → -120 ≤ s ((j + 1) % 12) - s j ∧ s ((j + 1) % 12) - s j ≤ 120) ∧ Later w wr

theorem reti {a b : Int} (h : a = b) : Ending.returned (.int .i64 a) = .returned (.int .i64 b) := by rw [h]

set_option maxHeartbeats 1000000 in
theorem check_any (s : Nat → Int) (w : World) : Calls Tryz.prog 73 #[.agg (sc s)] w fun e w' => e = .returned (.int .i64 (sk s)) ∧ Later w w' := by
  have K := Lib.hid (fun n a b W => within_any n a b W)
  have X := Lib.hid (next_any s)
  have IX := Lib.hid (index_any s)
  have HN := Lib.hid (Sat.new w s)
  have HG := Lib.hid ((Later.refl w).alloc (sc s) 30)
  unfold sc at *
  go_enter Tryz.func73, Tryz.ntmps73
  go_wp2
  go_loop [9] (fun i => CRel s i) (fun i => 12 - (intOf i).toNat)
  case atStart => exact ⟨0, by omega, rfl, by omega⟩
  case round =>
    obtain ⟨k, hk, rfl, hj⟩ := hrel
    by_cases hlt : k < 12
    · have ix := IX.out k hlt
      cases hw : wiB (s k) 900 1320 with
      | false =>
        have HV := Lib.hid (sk_m s k hlt (mt (wiB_iff _ _ _).2 (by rw [hw]; simp)))
        clear hj
        go_wp2_with (go_at_call 93; refine (K.out _ _ _ _).mono ?_; rintro e w1 ⟨rfl, rfl⟩)
        go_ret
        exact ⟨reti HV.out.symm, HG.out⟩
      | true =>
        have hin := (wiB_iff _ _ _).1 hw
        have HJ : Hid (∀ j, j < k + 1 → 900 ≤ s j ∧ s j ≤ 1320) := Lib.hid (fun j h => by
          by_cases e : j = k
          · rw [e]; exact hin
          · exact hj j (by omega))
        clear hj hin
        go_wp2_with (go_at_call 93; refine (K.out _ _ _ _).mono ?_; rintro e w1 ⟨rfl, rfl⟩)
        go_round
        case rel => exact ⟨k + 1, by omega, by go_num, HJ.out⟩
        case measure => simp [intOf]; omega
    · obtain rfl : k = 12 := by omega
      have HM : Hid (okM s) := Lib.hid hj
      clear hj hlt hk
      go_wp2
      go_loopw [5] (fun i wr => DRel s (w.alloc (.cells #[.int .i64 (s 0), .int .i64 (s 1), .int .i64 (s 2), .int .i64 (s 3), .int .i64 (s 4), .int .i64 (s 5), .int .i64 (s 6), .int .i64 (s 7), .int .i64 (s 8), .int .i64 (s 9), .int .i64 (s 10), .int .i64 (s 11)] 30)) i wr) (fun i _ => 13 - (intOf i).toNat)
      case atStart => exact ⟨0, by omega, rfl, by omega, Later.refl _⟩
      case round =>
        obtain ⟨k, hk, rfl, hj, hg⟩ := hrel
        have HGR := Lib.hid hg
        clear hg
        by_cases hlt : k < 12
        · obtain ⟨k0, k1, k2, k3, k4, k5, k6, k7, k8, k9, k10, k11⟩ := (HN.out.later HGR.out).all
          have b0 := HM.out k hlt
          have b1 := HM.out ((k + 1) % 12) (by omega)
          go_wp2_with fail
          refine (X.out _ _ (by omega) (by omega)).mono ?_
          rintro e w1 ⟨rfl, hg1⟩
          have HG1 := Lib.hid (gtrans HGR.out hg1)
          clear hg1 k0 k1 k2 k3 k4 k5 k6 k7 k8 k9 k10 k11
          rw [show ((k : Int) + 1).toNat - 1 = k by omega, show ((k : Int) + 1).toNat = k + 1 by omega]
          cases hw : wiB (s ((k + 1) % 12) - s k) (-120) 120 with
          | false =>
            have HV := Lib.hid (sk_s s k hlt HM.out (mt (wiB_iff _ _ _).2 (by rw [hw]; simp)))
            clear hj
            go_wp2_with (go_at_call 93; refine (K.out _ _ _ _).mono ?_; rintro e w1 ⟨rfl, rfl⟩)
            go_ret
            exact ⟨reti HV.out.symm, gtrans HG.out HG1.out⟩
          | true =>
            have hin := (wiB_iff _ _ _).1 hw
            have HJ : Hid (∀ j, j < k + 1 → -120 ≤ s ((j + 1) % 12) - s j ∧ s ((j + 1) % 12) - s j ≤ 120) := Lib.hid (fun j h => by
              by_cases e : j = k
              · rw [e]; exact hin
              · exact hj j (by omega))
            clear hj hin
            go_wp2_with (go_at_call 93; refine (K.out _ _ _ _).mono ?_; rintro e w1 ⟨rfl, rfl⟩)
            go_roundw
            case rel => exact ⟨k + 1, by omega, by go_num, HJ.out, HG1.out⟩
            case measure => simp [intOf]; omega
        · obtain rfl : k = 12 := by omega
          have HV := Lib.hid ((sk_ok s).2 ⟨HM.out, hj⟩)
          clear hj hlt hk
          go_wp2
          go_ret
          exact ⟨reti HV.out.symm, gtrans HG.out HGR.out⟩

end Go.Proofs.YtpkjbcgmhkkfiaaGreatDoor.Sun

/- The cells of windows and of configurations, and rows of windows, wherever they lie. No condition but those that each theorem states. -/
namespace Go.Proofs.YtpkjbcgmhkkfiaaGreatDoor.Conf
open Go.ChangeShapes Go.WideShapes Go.ChangeAt Go.RowKit
open Go.Proofs.YtpkjbcgmhkkfiaaGreatDoor.Divs Go.Proofs.YtpkjbcgmhkkfiaaGreatDoor.Grow Go.Proofs.YtpkjbcgmhkkfiaaGreatDoor.Zone
open Go.Proofs.YtpkjbcgmhkkfiaaGreatDoor.By (Sk SL)
open Go.Proofs.YtpkjbcgmhkkfiaaGreatDoor.Zo Go.Proofs.YtpkjbcgmhkkfiaaGreatDoor.Su Go.Proofs.YtpkjbcgmhkkfiaaGreatDoor.Cf

/-- A window's cells. -/
def wc (x : Wn) : List Value := [.int .i64 x.k, .int .i64 x.m, .int .i64 x.p, .int .i64 x.a, .int .i64 x.h, .int .i64 x.u, .int .i64 x.l]

/-- The cells of windows in a row. -/
def fl (xs : List Wn) : List Value := xs.flatMap wc

theorem fl_len (xs : List Wn) : (fl xs).length = xs.length * 7 := by
  induction xs with
  | nil => rfl
  | cons x r ih =>
    have : fl (x :: r) = wc x ++ fl r := rfl
    rw [this, List.length_append, ih]
    simp only [wc, List.length_cons, List.length_nil]
    omega

theorem fl_app (xs ys : List Wn) : fl (xs ++ ys) = fl xs ++ fl ys := by simp [fl]

theorem fl_one (x : Wn) : fl [x] = wc x := by simp [fl]

theorem fl_take (xs : List Wn) (k : Nat) : fl (xs.take k) = (fl xs).take (k * 7) := by
  induction xs generalizing k with
  | nil => simp [fl]
  | cons x r ih =>
    cases k with
    | zero => simp [fl]
    | succ j =>
      have e : fl (x :: r) = wc x ++ fl r := rfl
      have e' : fl ((x :: r).take (j + 1)) = wc x ++ fl (r.take j) := rfl
      have l : (wc x).length = 7 := rfl
      rw [e, e', ih, List.take_append, l, List.take_of_length_le (l := wc x) (by omega), show (j + 1) * 7 - 7 = j * 7 by omega]

theorem fl_drop (xs : List Wn) (k : Nat) : fl (xs.drop k) = (fl xs).drop (k * 7) := by
  induction xs generalizing k with
  | nil => simp [fl]
  | cons x r ih =>
    cases k with
    | zero => simp [fl]
    | succ j =>
      have e : fl (x :: r) = wc x ++ fl r := rfl
      have e' : fl ((x :: r).drop (j + 1)) = fl (r.drop j) := rfl
      have l : (wc x).length = 7 := rfl
      rw [e, e', ih, List.drop_append, l, List.drop_of_length_le (l := wc x) (by omega), show (j + 1) * 7 - 7 = j * 7 by omega, List.nil_append]

theorem fl_get {xs : List Wn} {i : Nat} {x : Wn} (h : xs[i]? = some x) {j : Nat} (hj : j < 7) : (fl xs)[i * 7 + j]? = (wc x)[j]? := by
  have e : xs.drop i = x :: xs.drop (i + 1) := by
    obtain ⟨hi, rfl⟩ := List.getElem?_eq_some_iff.1 h
    exact List.drop_eq_getElem_cons hi
  have d := fl_drop xs i
  rw [e] at d
  have e2 : fl (x :: xs.drop (i + 1)) = wc x ++ fl (xs.drop (i + 1)) := rfl
  rw [← List.getElem?_drop, ← d, e2, List.getElem?_append_left (by simpa [wc] using hj)]

/-- v is a slice of these windows. -/
def Wk (W : World) (v : Value) (xs : List Wn) : Prop :=
  ∃ (ad : Option Addr) (cap : Nat), v = .slice ad xs.length cap ∧ xs.length ≤ cap ∧ cap ≤ 9223372036854775807 ∧ (ad = none → cap = 0) ∧
    ∀ (i : Nat) (x : Value), (fl xs)[i]? = some x → ∃ b off, ad = some ⟨b, off, none⟩ ∧ W.cell? ⟨b, off + i, none⟩ = some x

theorem Wk.later {W W' : World} {v : Value} {xs : List Wn} (h : Wk W v xs) (g : Later W W') : Wk W' v xs := by
  obtain ⟨ad, cap, rfl, h1, h2, h3, h4⟩ := h
  refine ⟨ad, cap, rfl, h1, h2, h3, fun i x hx => ?_⟩
  obtain ⟨b, off, e, c⟩ := h4 i x hx
  exact ⟨b, off, e, gsome g c⟩

theorem Wk.len {W : World} {v : Value} {xs : List Wn} (h : Wk W v xs) : ∃ ad cap, v = .slice ad xs.length cap ∧ xs.length ≤ 9223372036854775807 := by
  obtain ⟨ad, cap, rfl, h1, h2, _⟩ := h
  exact ⟨ad, cap, rfl, by omega⟩

/-- The cells of a slice of windows that has some. -/
theorem Wk.has {W : World} {v : Value} {xs : List Wn} (h : Wk W v xs) (hp : 0 < xs.length) :
    ∃ b off cap, v = .slice (some ⟨b, off, none⟩) xs.length cap ∧ xs.length ≤ 9223372036854775807 ∧ b < W.heap.size ∧ ∀ i x, xs[i]? = some x → W.rangeAt b (off + i * 7) (wc x) := by
  obtain ⟨ad, cap, rfl, h1, h2, h3, h4⟩ := h
  have hl := fl_len xs
  obtain ⟨c, hc⟩ : ∃ c, (fl xs)[0]? = some c := ⟨_, List.getElem?_eq_getElem (by omega)⟩
  obtain ⟨b, off, rfl, c0⟩ := h4 0 c hc
  refine ⟨b, off, cap, rfl, by omega, World.block_lt_of_cell? _ _ c0, fun i x hx j y hy => ?_⟩
  have hj : j < 7 := by
    have := (List.getElem?_eq_some_iff.1 hy).1
    simpa [wc] using this
  obtain ⟨b', off', e, c⟩ := h4 (i * 7 + j) y (by rw [fl_get hx hj]; exact hy)
  simp only [Option.some.injEq, Addr.mk.injEq, and_true] at e
  obtain ⟨rfl, rfl⟩ := e
  rw [Nat.add_assoc]
  exact c

/-- A configuration's cells, by its two slices. -/
def cc (c : Cg) (u v : Value) : Array Value := #[.int .i64 c.f, .int .i64 c.n, .int .i64 c.p, u, .int .i64 c.t, .int .i64 c.l, .int .i64 c.o, .int .i64 c.d, .int .i64 c.e, .int .i64 c.c, .int .i64 c.h, .int .i64 c.r, .int .i64 c.q,
  .int .i64 c.z.b, .int .i64 c.z.s, .int .i64 c.z.p.m, .int .i64 c.z.p.k, .int .i64 c.z.p.v, .int .i64 c.z.p.u, .int .i64 c.z.q.m, .int .i64 c.z.q.k, .int .i64 c.z.q.v, .int .i64 c.z.q.u,
  .int .i64 (c.s 0), .int .i64 (c.s 1), .int .i64 (c.s 2), .int .i64 (c.s 3), .int .i64 (c.s 4), .int .i64 (c.s 5), .int .i64 (c.s 6), .int .i64 (c.s 7), .int .i64 (c.s 8), .int .i64 (c.s 9), .int .i64 (c.s 10), .int .i64 (c.s 11), .bool c.ab, v]

end Go.Proofs.YtpkjbcgmhkkfiaaGreatDoor.Conf

/- Whether numbers lie between two ends, the rule of a window's kind, and whether a window may be, by the program. No condition but those that each theorem states. -/
namespace Go.Proofs.YtpkjbcgmhkkfiaaGreatDoor.Conf
open Go.ChangeShapes Go.WideShapes Go.ChangeAt Go.RowKit
open Go.Proofs.YtpkjbcgmhkkfiaaGreatDoor.Divs Go.Proofs.YtpkjbcgmhkkfiaaGreatDoor.Grow Go.Proofs.YtpkjbcgmhkkfiaaGreatDoor.Zone
open Go.Proofs.YtpkjbcgmhkkfiaaGreatDoor.By (Sk SL)
open Go.Proofs.YtpkjbcgmhkkfiaaGreatDoor.Zo Go.Proofs.YtpkjbcgmhkkfiaaGreatDoor.Su Go.Proofs.YtpkjbcgmhkkfiaaGreatDoor.Cf

/-- The first i numbers lie between the ends. -/
def HRel (a b : Int) (xs : List Int) (i : Value) : Prop := ∃ k : Nat, k ≤ xs.length ∧ i = .int .i64 (k : Int) ∧ ∀ j, j < k → bt (xs.getD j 0) a b = true

theorem all_no (a b : Int) (xs : List Int) (k : Nat) (hk : k < xs.length) (h : bt (xs.getD k 0) a b = false) : xs.all (fun x => bt x a b) = false := by
  rw [List.all_eq_false]
  refine ⟨xs.getD k 0, ?_, by rw [h]; simp⟩
  rw [List.getD_eq_getElem?_getD, List.getElem?_eq_getElem hk]
  exact List.getElem_mem hk

theorem all_yes (a b : Int) (xs : List Int) (h : ∀ j, j < xs.length → bt (xs.getD j 0) a b = true) : xs.all (fun x => bt x a b) = true := by
  rw [List.all_eq_true]
  intro x hx
  obtain ⟨i, hi, rfl⟩ := List.mem_iff_getElem.1 hx
  have := h i hi
  rwa [List.getD_eq_getElem?_getD, List.getElem?_eq_getElem hi] at this

set_option maxHeartbeats 1000000 in
theorem hold_any (a b : Int) (xs : List Int) (v : Value) (w : World) (hs : Sk .i64 w v xs) (hp : 0 < xs.length) :
    Calls Tryz.prog 70 #[.agg #[.int .i64 a, .int .i64 b], v] w fun e w' => e = .returned (.bool (xs.all (fun x => bt x a b))) ∧ Later w w' := by
  obtain ⟨B, off, cap, rfl, hc1, hc2, hB, hc⟩ := hs.has hp
  have HC : Hid (∀ i, i < xs.length → (w.alloc (.cells #[.int .i64 a, .int .i64 b] 106)).cell? ⟨B, off + i, none⟩ = some (.int .i64 (xs.getD i 0))) := Lib.hid (fun i hi => gsome ((Later.refl w).alloc _ _) (hc i hi))
  have HM : Hid (xs.length ≤ 9223372036854775807) := Lib.hid (by omega)
  have HG := Lib.hid ((Later.refl w).alloc #[.int .i64 a, .int .i64 b] 106)
  clear hs hc hc1 hc2 hB
  obtain ⟨n, hn⟩ : ∃ n, xs.length = n := ⟨_, rfl⟩
  rw [hn] at hp ⊢
  have HN := Lib.hid hn
  clear hn
  go_enter Tryz.func70, Tryz.ntmps70
  go_wp2
  go_loop [9] (fun i => HRel a b xs i) (fun i => n - (intOf i).toNat)
  case atStart => exact ⟨0, by omega, rfl, by omega⟩
  case round =>
    obtain ⟨k, hk, rfl, hj⟩ := hrel
    rw [HN.out] at hk
    by_cases hlt : k < n
    · have c := HC.out k (by rw [HN.out]; exact hlt)
      obtain ⟨x, hx⟩ : ∃ x, xs.getD k 0 = x := ⟨_, rfl⟩
      rw [hx] at c
      have hm : n ≤ 9223372036854775807 := by have := HM.out; rw [HN.out] at this; exact this
      by_cases h1 : x < a
      · have HV := Lib.hid (all_no a b xs k (by rw [HN.out]; exact hlt) (by rw [hx]; unfold bt; rw [decide_eq_false (by omega)]; rfl))
        clear hj hx
        go_wp2
        go_ret
        exact ⟨retb HV.out.symm, HG.out⟩
      · by_cases h2 : x > b
        · have HV := Lib.hid (all_no a b xs k (by rw [HN.out]; exact hlt) (by rw [hx]; unfold bt; rw [decide_eq_false (p := x ≤ b) (by omega)]; simp))
          clear hj hx
          go_wp2
          go_ret
          exact ⟨retb HV.out.symm, HG.out⟩
        · have HJ : Hid (∀ j, j < k + 1 → bt (xs.getD j 0) a b = true) := Lib.hid (fun j h => by
            by_cases e : j = k
            · rw [e, hx, bt_iff]; omega
            · exact hj j (by omega))
          clear hj hx
          go_wp2
          go_round
          case rel => exact ⟨k + 1, by rw [HN.out]; omega, by go_num, HJ.out⟩
          case measure => simp [intOf]; omega
    · obtain rfl : k = n := by omega
      have HV := Lib.hid (all_yes a b xs (fun j h => hj j (by rw [← HN.out]; exact h)))
      clear hj
      go_wp2
      go_ret
      exact ⟨retb HV.out.symm, HG.out⟩

theorem sk_cells (W : World) (g : Nat) (xs : List Int) (hn : xs.length ≤ 1000) (h : ∀ i x, xs[i]? = some x → W.cell? ⟨g, i, none⟩ = some (.int .i64 x)) : Sk .i64 W (.slice (some ⟨g, 0, none⟩) xs.length xs.length) xs :=
  ⟨_, _, rfl, Nat.le_refl _, by omega, by simp, fun i x hx => ⟨g, 0, rfl, by rw [Nat.zero_add]; exact h i x hx⟩⟩

theorem new_cell (W : World) (cs : Array Value) (t : TypeId) (i : Nat) (v : Value) (g : Nat) (hg : g = W.heap.size) (h : cs[i]? = some v) : (W.alloc (.cells cs t)).cell? ⟨g, i, none⟩ = some v := by
  subst hg
  rw [World.cell?_alloc_new]
  exact h

theorem hold_one (a b x : Int) (g : Nat) (w : World) (h : w.cell? ⟨g, 0, none⟩ = some (.int .i64 x)) :
    Calls Tryz.prog 70 #[.agg #[.int .i64 a, .int .i64 b], .slice (some ⟨g, 0, none⟩) 1 1] w fun e w' => e = .returned (.bool (bt x a b)) ∧ Later w w' := by
  have := hold_any a b [x] _ w (sk_cells w g [x] (by simp) (fun i y hy => by
    match i with
    | 0 => simp at hy; subst hy; exact h
    | i + 1 => simp at hy)) (by simp)
  simpa using this

theorem hold_two (a b x y : Int) (g : Nat) (w : World) (h : w.cell? ⟨g, 0, none⟩ = some (.int .i64 x)) (h1 : w.cell? ⟨g, 1, none⟩ = some (.int .i64 y)) :
    Calls Tryz.prog 70 #[.agg #[.int .i64 a, .int .i64 b], .slice (some ⟨g, 0, none⟩) 2 2] w fun e w' => e = .returned (.bool (bt x a b && bt y a b)) ∧ Later w w' := by
  have := hold_any a b [x, y] _ w (sk_cells w g [x, y] (by simp) (fun i z hz => by
    match i with
    | 0 => simp at hz; subst hz; exact h
    | 1 => simp at hz; subst hz; exact h1
    | i + 2 => simp at hz)) (by simp)
  simpa using this

theorem hold_five (a b x y z s t : Int) (g : Nat) (w : World) (h : w.cell? ⟨g, 0, none⟩ = some (.int .i64 x)) (h1 : w.cell? ⟨g, 1, none⟩ = some (.int .i64 y)) (h2 : w.cell? ⟨g, 2, none⟩ = some (.int .i64 z)) (h3 : w.cell? ⟨g, 3, none⟩ = some (.int .i64 s)) (h4 : w.cell? ⟨g, 4, none⟩ = some (.int .i64 t)) :
    Calls Tryz.prog 70 #[.agg #[.int .i64 a, .int .i64 b], .slice (some ⟨g, 0, none⟩) 5 5] w fun e w' => e = .returned (.bool (bt x a b && (bt y a b && (bt z a b && (bt s a b && bt t a b))))) ∧ Later w w' := by
  have := hold_any a b [x, y, z, s, t] _ w (sk_cells w g [x, y, z, s, t] (by simp) (fun i r hr => by
    match i with
    | 0 => simp at hr; subst hr; exact h
    | 1 => simp at hr; subst hr; exact h1
    | 2 => simp at hr; subst hr; exact h2
    | 3 => simp at hr; subst hr; exact h3
    | 4 => simp at hr; subst hr; exact h4
    | i + 5 => simp at hr)) (by simp)
  simpa using this

/-- A rule's cells. -/
def rc (r : Ru) : Array Value := #[.int .i64 r.a0, .int .i64 r.a1, .int .i64 r.h0, .int .i64 r.h1, .int .i64 r.u0, .int .i64 r.u1, .int .i64 r.l0, .int .i64 r.l1]

/-- These cells lie in the block b. -/
def At (W : World) (b : Nat) (cs : Array Value) : Prop := ∀ (i : Nat) (v : Value), cs[i]? = some v → W.cell? ⟨b, i, none⟩ = some v

theorem At.later {W W' : World} {b : Nat} {cs : Array Value} (h : At W b cs) (g : Later W W') : At W' b cs := fun i v e => gsome g (h i v e)

theorem At.new (W : World) (cs : Array Value) (t : TypeId) : At (W.alloc (.cells cs t)) W.heap.size cs := by
  intro i v e
  rw [World.cell?_alloc_new]
  exact e

theorem At.put {W : World} {b : Nat} {cs : Array Value} (h : At W b cs) (o : Obj) : At (W.alloc o) b cs := h.later ((Later.refl W).put o)

theorem off_put {W W' : World} {o : Obj} (h : Later (W.alloc o) W') : Later W W' := gtrans ((Later.refl W).put o) h

theorem size_one (W : World) (o : Obj) : (W.alloc o).heap.size = W.heap.size + 1 := by simp

set_option maxHeartbeats 1000000 in
theorem rule_any (k : Int) (w : World) : Calls Tryz.prog 95 #[.int .i64 k] w fun e w' => e = .returned (.tuple #[.agg (rc (ru k)), .bool (kn k)]) ∧ Later w w' := by
  by_cases h1 : k = 1
  · subst h1
    go_enter Tryz.func95, Tryz.ntmps95
    go_wp2
    exact bodyPost_ret (v := .tuple #[.agg (rc (ru 1)), .bool true]) (by simp [results, Tryz.results95, go_sem, rc, ru]) rfl ⟨rfl, (((Later.refl w).alloc _ _).alloc _ _).alloc _ _⟩
  by_cases h2 : k = 2
  · subst h2
    clear h1
    go_enter Tryz.func95, Tryz.ntmps95
    go_wp2
    exact bodyPost_ret (v := .tuple #[.agg (rc (ru 2)), .bool true]) (by simp [results, Tryz.results95, go_sem, rc, ru]) rfl ⟨rfl, (((Later.refl w).alloc _ _).alloc _ _).alloc _ _⟩
  by_cases h3 : k = 3
  · subst h3
    clear h1 h2
    go_enter Tryz.func95, Tryz.ntmps95
    go_wp2
    exact bodyPost_ret (v := .tuple #[.agg (rc (ru 3)), .bool true]) (by simp [results, Tryz.results95, go_sem, rc, ru]) rfl ⟨rfl, (((Later.refl w).alloc _ _).alloc _ _).alloc _ _⟩
  by_cases h4 : k = 4
  · subst h4
    clear h1 h2 h3
    go_enter Tryz.func95, Tryz.ntmps95
    go_wp2
    exact bodyPost_ret (v := .tuple #[.agg (rc (ru 4)), .bool true]) (by simp [results, Tryz.results95, go_sem, rc, ru]) rfl ⟨rfl, ((((Later.refl w).alloc _ _).alloc _ _).alloc _ _).alloc _ _⟩
  · have t1 : (k == 1) = false := by simpa using h1
    have t2 : (k == 2) = false := by simpa using h2
    have t3 : (k == 3) = false := by simpa using h3
    have t4 : (k == 4) = false := by simpa using h4
    have hr : ru k = rz := by unfold ru; rw [if_neg h1, if_neg h2, if_neg h3, if_neg h4]
    have hk : kn k = false := by
      cases e : kn k with
      | false => rfl
      | true => have := (bt_iff _ _ _).1 e; omega
    rw [hr, hk]
    clear hr hk h1 h2 h3 h4
    go_enter Tryz.func95, Tryz.ntmps95
    go_wp2
    exact bodyPost_ret (v := .tuple #[.agg (rc rz), .bool false]) (by simp [results, Tryz.results95, go_sem, rc, rz]) rfl ⟨rfl, (((Later.refl w).alloc _ _).alloc _ _).alloc _ _⟩

set_option maxHeartbeats 1000000 in
theorem allows_any (r : Ru) (x : Wn) (w : World) : Calls Tryz.prog 96 #[.agg (rc r), .agg (wc x).toArray] w fun e w' => e = .returned (.bool (al r x)) ∧ Later w w' := by
  have K := Lib.hid (fun a b y g W h => hold_one a b y g W h)
  have HA : Hid (∀ W', Later ((w.alloc (.cells (rc r) 144)).alloc (.cells (wc x).toArray 58)) W' → At W' w.heap.size (rc r) ∧ At W' (w.heap.size + 1) (wc x).toArray ∧ Later w W') := Lib.hid (fun W' g =>
    ⟨((At.new w (rc r) 144).put _).later g, by rw [← size_one w (.cells (rc r) 144)]; exact (At.new _ _ _).later g, off_put (off_put g)⟩)
  obtain ⟨b1, e1⟩ : ∃ b, bt x.a r.a0 r.a1 = b := ⟨_, rfl⟩
  obtain ⟨b2, e2⟩ : ∃ b, bt x.h r.h0 r.h1 = b := ⟨_, rfl⟩
  obtain ⟨b3, e3⟩ : ∃ b, bt x.u r.u0 r.u1 = b := ⟨_, rfl⟩
  obtain ⟨b4, e4⟩ : ∃ b, bt x.l r.l0 r.l1 = b := ⟨_, rfl⟩
  have hv : al r x = (b1 && (b2 && (b3 && b4))) := by unfold al; rw [e1, e2, e3, e4]
  rw [hv]
  have E1 := Lib.hid e1
  have E2 := Lib.hid e2
  have E3 := Lib.hid e3
  have E4 := Lib.hid e4
  clear hv e1 e2 e3 e4
  unfold rc wc at *
  go_enter Tryz.func96, Tryz.ntmps96
  go_wp2_with fail
  refine (K.out _ _ x.a _ _ (new_cell _ _ _ 0 _ _ (by simp) rfl)).mono ?_
  rintro e w1 ⟨rfl, hg1⟩
  rw [E1.out]
  obtain ⟨ha, hb, hg⟩ := HA.out w1 (off_put hg1)
  cases b1 with
  | false =>
    clear ha hb hg1
    go_wp2_with fail
    go_ret
    exact ⟨rfl, hg⟩
  | true =>
    have c1 := ha 2 _ rfl
    have c2 := ha 3 _ rfl
    have c3 := hb 4 _ rfl
    have HA1 := Lib.hid (off_put hg1)
    clear ha hb hg1 hg
    go_wp2_with fail
    refine (K.out _ _ x.h _ _ (new_cell _ _ _ 0 _ _ (by simp) rfl)).mono ?_
    rintro e w2 ⟨rfl, hg2⟩
    rw [E2.out]
    clear c1 c2 c3
    have hl := gtrans HA1.out (off_put hg2)
    obtain ⟨ha, hb, hg⟩ := HA.out w2 hl
    cases b2 with
    | false =>
      clear ha hb hg2 hl
      go_wp2_with fail
      go_ret
      exact ⟨rfl, hg⟩
    | true =>
      have c1 := ha 4 _ rfl
      have c2 := ha 5 _ rfl
      have c3 := hb 5 _ rfl
      have HA2 := Lib.hid hl
      clear ha hb hg2 hg hl
      go_wp2_with fail
      refine (K.out _ _ x.u _ _ (new_cell _ _ _ 0 _ _ (by simp) rfl)).mono ?_
      rintro e w3 ⟨rfl, hg3⟩
      rw [E3.out]
      clear c1 c2 c3
      have hl := gtrans HA2.out (off_put hg3)
      obtain ⟨ha, hb, hg⟩ := HA.out w3 hl
      cases b3 with
      | false =>
        clear ha hb hg3 hl
        go_wp2_with fail
        go_ret
        exact ⟨rfl, hg⟩
      | true =>
        have c1 := ha 6 _ rfl
        have c2 := ha 7 _ rfl
        have c3 := hb 6 _ rfl
        clear ha hb hg3
        go_wp2_with fail
        refine (K.out _ _ x.l _ _ (new_cell _ _ _ 0 _ _ (by simp) rfl)).mono ?_
        rintro e w4 ⟨rfl, hg4⟩
        rw [E4.out]
        go_wp2_with fail
        go_ret
        exact ⟨rfl, gtrans hg (off_put hg4)⟩

set_option maxHeartbeats 1000000 in
theorem window_any (x : Wn) (w : World) : Calls Tryz.prog 74 #[.agg (wc x).toArray] w fun e w' => e = .returned (.int .i64 (we x)) ∧ Later w w' := by
  have K := Lib.hid (fun a b y g W h => hold_one a b y g W h)
  have R := Lib.hid (fun W => rule_any x.k W)
  have A := Lib.hid (fun W => allows_any (ru x.k) x W)
  obtain ⟨b1, e1⟩ : ∃ b, kn x.k = b := ⟨_, rfl⟩
  obtain ⟨b2, e2⟩ : ∃ b, bt x.m 0 5 = b := ⟨_, rfl⟩
  obtain ⟨b3, e3⟩ : ∃ b, bt x.p 0 99 = b := ⟨_, rfl⟩
  obtain ⟨b4, e4⟩ : ∃ b, al (ru x.k) x = b := ⟨_, rfl⟩
  have hv : we x = if (b1 && (b2 && (b3 && b4))) = true then 0 else 104 := by unfold we wo; rw [e1, e2, e3, e4]
  rw [hv]
  rw [e1] at R
  rw [e4] at A
  generalize ru x.k = r at *
  have E2 := Lib.hid e2
  have E3 := Lib.hid e3
  clear hv e1 e2 e3 e4
  unfold rc wc at *
  go_enter Tryz.func74, Tryz.ntmps74
  go_wp2_with fail
  refine (R.out _).mono ?_
  rintro e w1 ⟨rfl, hg1⟩
  have hn1 := (((At.new w #[.int .i64 x.k, .int .i64 x.m, .int .i64 x.p, .int .i64 x.a, .int .i64 x.h, .int .i64 x.u, .int .i64 x.l] 58).put _).put _).later hg1
  have hn2 := ((At.new (w.alloc (.cells #[.int .i64 x.k, .int .i64 x.m, .int .i64 x.p, .int .i64 x.a, .int .i64 x.h, .int .i64 x.u, .int .i64 x.l] 58)) #[.int .i64 0, .int .i64 5] 106).put _).later hg1
  have hn3 := (At.new ((w.alloc (.cells #[.int .i64 x.k, .int .i64 x.m, .int .i64 x.p, .int .i64 x.a, .int .i64 x.h, .int .i64 x.u, .int .i64 x.l] 58)).alloc (.cells #[.int .i64 0, .int .i64 5] 106)) #[.int .i64 0, .int .i64 99] 106).later hg1
  simp only [World.size_alloc] at hn2 hn3
  have HG := Lib.hid (off_put (off_put (off_put hg1)))
  clear hg1
  have HN1 := Lib.hid hn1
  have HN2 := Lib.hid hn2
  have HN3 := Lib.hid hn3
  clear hn1 hn2 hn3
  cases b1 with
  | false =>
    go_wp2_with fail
    go_ret
    exact ⟨rfl, HG.out.put _⟩
  | true =>
    have hW := HN2.out.put (.cells #[.int .i64 r.a0, .int .i64 r.a1, .int .i64 r.h0, .int .i64 r.h1, .int .i64 r.u0, .int .i64 r.u1, .int .i64 r.l0, .int .i64 r.l1] 144)
    have c1 := hW 0 _ rfl
    have c2 := hW 1 _ rfl
    have c3 := HN1.out.put (.cells #[.int .i64 r.a0, .int .i64 r.a1, .int .i64 r.h0, .int .i64 r.h1, .int .i64 r.u0, .int .i64 r.u1, .int .i64 r.l0, .int .i64 r.l1] 144) 1 _ rfl
    clear hW
    go_wp2_with fail
    refine (K.out _ _ x.m _ _ (new_cell _ _ _ 0 _ _ (by simp) rfl)).mono ?_
    rintro e w2 ⟨rfl, hg2⟩
    rw [E2.out]
    clear c1 c2 c3
    have HR := Lib.hid ((At.new w1 #[.int .i64 r.a0, .int .i64 r.a1, .int .i64 r.h0, .int .i64 r.h1, .int .i64 r.u0, .int .i64 r.u1, .int .i64 r.l0, .int .i64 r.l1] 144).later (off_put hg2))
    have HG2 := Lib.hid (off_put (off_put hg2))
    clear hg2
    cases b2 with
    | false =>
      go_wp2_with fail
      go_ret
      exact ⟨rfl, gtrans HG.out HG2.out⟩
    | true =>
      have hW := HN3.out.later HG2.out
      have c1 := hW 0 _ rfl
      have c2 := hW 1 _ rfl
      have c3 := HN1.out.later HG2.out 2 _ rfl
      clear hW
      go_wp2_with fail
      refine (K.out _ _ x.p _ _ (new_cell _ _ _ 0 _ _ (by simp) rfl)).mono ?_
      rintro e w3 ⟨rfl, hg3⟩
      rw [E3.out]
      clear c1 c2 c3
      have HG3 := Lib.hid (off_put hg3)
      clear hg3
      cases b3 with
      | false =>
        go_wp2_with fail
        go_ret
        exact ⟨rfl, gtrans (gtrans HG.out HG2.out) HG3.out⟩
      | true =>
        have hR := HR.out.later HG3.out
        have hX := HN1.out.later (gtrans HG2.out HG3.out)
        have c0 := hR 0 _ rfl
        have c1 := hR 1 _ rfl
        have c2 := hR 2 _ rfl
        have c3 := hR 3 _ rfl
        have c4 := hR 4 _ rfl
        have c5 := hR 5 _ rfl
        have c6 := hR 6 _ rfl
        have c7 := hR 7 _ rfl
        have d0 := hX 0 _ rfl
        have d1 := hX 1 _ rfl
        have d2 := hX 2 _ rfl
        have d3 := hX 3 _ rfl
        have d4 := hX 4 _ rfl
        have d5 := hX 5 _ rfl
        have d6 := hX 6 _ rfl
        clear hR hX
        go_wp2_with fail
        refine (A.out _).mono ?_
        rintro e w4 ⟨rfl, hg4⟩
        clear c0 c1 c2 c3 c4 c5 c6 c7 d0 d1 d2 d3 d4 d5 d6
        have HG4 := Lib.hid (gtrans (gtrans (gtrans HG.out HG2.out) HG3.out) hg4)
        clear hg4
        cases b4 with
        | false =>
          go_wp2_with fail
          go_ret
          exact ⟨rfl, HG4.out⟩
        | true =>
          go_wp2_with fail
          go_ret
          exact ⟨rfl, HG4.out⟩

end Go.Proofs.YtpkjbcgmhkkfiaaGreatDoor.Conf

/- A region that draws its order, operation by operation: what each one yields, in every world that has grown and whatever else has come up, is told by a relation of its own that lasts; then each order is served by one look at each operation. No condition but those that each theorem states. -/
namespace Go.Proofs.YtpkjbcgmhkkfiaaGreatDoor.Each
open Go.ChangeShapes Go.WideShapes Go.ChangeAt Go.RowKit
open Go.Proofs.YtpkjbcgmhkkfiaaGreatDoor.Divs Go.Proofs.YtpkjbcgmhkkfiaaGreatDoor.Grow

theorem wpAny_inv {P : Program} {md : Region.Mode} {ops : Array Oper} {Q : Exit → Act → World → Prop} (I : Nat → Array Bool → Act → World → Prop)
    (h0 : ∀ fuel listed a w, I fuel listed a w → Region.ready md ops listed = [] → Q .normal a w) (hz : ∀ listed a w, I 0 listed a w → Region.ready md ops listed = [])
    (hs : ∀ fuel listed a w i, I (fuel + 1) listed a w → i ∈ Region.ready md ops listed → wpOp P ops Q i (fun a' w' => I fuel (listed.setIfInBounds i true) a' w') a w) :
    ∀ fuel listed a w, I fuel listed a w → wpAny P md ops Q fuel listed a w := by
  intro fuel
  induction fuel with
  | zero => exact fun listed a w h => ⟨hz listed a w h, h0 _ _ _ _ h (hz listed a w h)⟩
  | succ fuel ih => exact fun listed a w h => ⟨fun e => h0 _ _ _ _ h e, fun i hi => wpOp_mono (fun a' w' h' => ih _ _ _ h') (hs _ _ _ _ i h hi)⟩

/-- What has come up: its slots hold what V says, the others are as they were. -/
structure Up (ops : Array Oper) (V : Nat → Value → World → Prop) (a0 : Act) (w0 : World) (listed : Array Bool) (a : Act) (w : World) : Prop where
  late : Later w0 w
  defers : a.defers = a0.defers
  size : a.tmps.size = a0.tmps.size
  old : ∀ s, (∀ i o, ops[i]? = some o → o.dst = some s → listed.getD i false = false) → a.tmps[s]? = a0.tmps[s]?
  come : ∀ i o s, ops[i]? = some o → listed.getD i false = true → o.dst = some s → ∃ v, a.tmps[s]? = some v ∧ V i v w

/-- No two operations write one slot, each slot is there, and each operation waits for earlier ones alone. -/
def fitB (ops : Array Oper) (n : Nat) : Bool :=
  (List.range ops.size).all fun i => match ops[i]? with
    | none => true
    | some o => o.after.all (fun e => decide (e.on < i)) && (match o.dst with
      | none => true
      | some s => decide (s < n) && (List.range ops.size).all fun j => decide (j = i) || (match ops[j]? with
        | none => true
        | some q => !(q.dst == some s)))

theorem fit_low {ops : Array Oper} {n : Nat} (h : fitB ops n = true) {i : Nat} {o : Oper} (ho : ops[i]? = some o) {e : Edge} (he : e ∈ o.after) : e.on < i := by
  have hi : i < ops.size := (Array.getElem?_eq_some_iff.1 ho).1
  have := List.all_eq_true.1 h i (List.mem_range.2 hi)
  rw [ho] at this
  simp only [Bool.and_eq_true] at this
  have := Array.all_eq_true_iff_forall_mem.1 this.1 e he
  simpa using this

theorem fit_dst {ops : Array Oper} {n : Nat} (h : fitB ops n = true) {i j : Nat} {o q : Oper} {s : Tmp} (ho : ops[i]? = some o) (hq : ops[j]? = some q) (hs : o.dst = some s) (ht : q.dst = some s) : j = i := by
  have hi : i < ops.size := (Array.getElem?_eq_some_iff.1 ho).1
  have hj : j < ops.size := (Array.getElem?_eq_some_iff.1 hq).1
  have := List.all_eq_true.1 h i (List.mem_range.2 hi)
  rw [ho] at this
  simp only [Bool.and_eq_true, hs] at this
  have := List.all_eq_true.1 this.2.2 j (List.mem_range.2 hj)
  rw [hq] at this
  simpa [ht] using this

theorem fit_in {ops : Array Oper} {n : Nat} (h : fitB ops n = true) {i : Nat} {o : Oper} {s : Tmp} (ho : ops[i]? = some o) (hs : o.dst = some s) : s < n := by
  have hi : i < ops.size := (Array.getElem?_eq_some_iff.1 ho).1
  have := List.all_eq_true.1 h i (List.mem_range.2 hi)
  rw [ho] at this
  simp only [Bool.and_eq_true, hs] at this
  simpa using this.2.1

theorem getD_set {listed : Array Bool} {i : Nat} (hi : i < listed.size) (j : Nat) : (listed.setIfInBounds i true).getD j false = (decide (j = i) || listed.getD j false) := by
  by_cases e : j = i
  · subst e
    simp [hi]
  · simp [Array.getElem?_setIfInBounds_ne (Ne.symm e), e]

/-- How many have not come up. -/
def leftN (listed : Array Bool) : Nat := listed.toList.countP (fun b => !b)

theorem count_set : ∀ (l : List Bool) (i : Nat), l[i]? = some false → (l.set i true).countP (fun b => !b) + 1 = l.countP (fun b => !b)
  | [], i, h => by simp at h
  | b :: r, 0, h => by
    simp at h
    subst h
    simp
  | b :: r, i + 1, h => by
    have := count_set r i (by simpa using h)
    simp only [List.set_cons_succ, List.countP_cons]
    omega

theorem left_set {listed : Array Bool} {i : Nat} (h : listed.getD i true = false) : leftN (listed.setIfInBounds i true) + 1 = leftN listed := by
  have hi : i < listed.size := by
    rcases Nat.lt_or_ge i listed.size with h' | h'
    · exact h'
    · simp [Array.getElem?_eq_none h'] at h
  unfold leftN
  rw [Array.toList_setIfInBounds]
  refine count_set _ _ ?_
  simp [hi] at h
  simp [hi, h]

theorem left_none {listed : Array Bool} (h : leftN listed = 0) (i : Nat) : listed.getD i true = true := by
  rcases Nat.lt_or_ge i listed.size with hi | hi
  · have := List.countP_eq_zero.1 h (listed[i]) (by simp)
    simpa [hi] using this
  · simp [Array.getElem?_eq_none hi]

/-- Where nothing is ready, all has come up. -/
theorem all_up {ops : Array Oper} {n : Nat} (hf : fitB ops n = true) {listed : Array Bool} (hz : listed.size = ops.size) (h : Region.ready .any ops listed = []) : ∀ i, i < ops.size → listed.getD i false = true := by
  intro i
  induction i using Nat.strongRecOn with
  | _ i ih =>
    intro hi
    cases hb : listed.getD i false with
    | true => rfl
    | false =>
      exfalso
      have hm : i ∈ Region.ready .any ops listed := by
        rw [mem_ready]
        refine ⟨?_, ops[i], by simp [hi], fun e he _ => ?_⟩
        · have hj : i < listed.size := by omega
          simp [hj] at hb ⊢
          exact hb
        · have := fit_low hf (i := i) (o := ops[i]) (by simp [hi]) he
          exact ih e.on this (by omega)
      rw [h] at hm
      cases hm

/-- The look at one operation. -/
def Step (P : Program) (ops : Array Oper) (Q : Exit → Act → World → Prop) (V : Nat → Value → World → Prop) (a0 : Act) (w0 : World) (i : Nat) : Prop :=
  ∀ o, ops[i]? = some o → ∀ (a : Act) (w : World), Later w0 w → (∀ s, (∀ (j : Nat) (q : Oper), ops[j]? = some q → q.dst ≠ some s) → a.tmps[s]? = a0.tmps[s]?) →
    (∀ j ∈ (o.after.toList.filter (Region.binds .any)).map (·.on), ∀ (q : Oper) (s : Tmp), ops[j]? = some q → q.dst = some s → ∃ v, a.tmps[s]? = some v ∧ V j v w) →
    if Region.wanted o (yielded ops a.tmps) = true then Oper.wp P o a w (fun a' w' => ∃ v, a' = a.put o.dst v ∧ V i v w' ∧ Later w w') Q else V i undef w

theorem region_each {P : Program} {id : Nat} {Q : Exit → Act → World → Prop} {a0 : Act} {w : World} {ops : Array Oper} (V : Nat → Value → World → Prop) (hm : P.follows .mixedOrders = true) (hf : fitB ops a0.tmps.size = true)
    (hV : ∀ i v W W', V i v W → Later W W' → V i v W')
    (hs : ∀ i, i < ops.size → Step P ops Q V a0 w i)
    (hq : ∀ a w', Later w w' → a.defers = a0.defers → a.tmps.size = a0.tmps.size → (∀ s, (∀ (j : Nat) (q : Oper), ops[j]? = some q → q.dst ≠ some s) → a.tmps[s]? = a0.tmps[s]?) → (∀ (i : Nat) (o : Oper) (s : Tmp), ops[i]? = some o → o.dst = some s → ∃ v, a.tmps[s]? = some v ∧ V i v w') → Q .normal a w') :
    (Code.region id ops true).wp P Q a0 w := by
  refine wp_region_any hm ?_
  refine wpAny_inv (fun fuel listed a w' => Up ops V a0 w listed a w' ∧ listed.size = ops.size ∧ leftN listed ≤ fuel) ?_ ?_ ?_ _ _ _ _ ?_
  · rintro fuel listed a w' ⟨u, hz, _⟩ hr
    have hall := all_up hf hz hr
    refine hq a w' u.late u.defers u.size (fun s hn => u.old s (fun i o ho hd => absurd hd (hn i o ho))) (fun i o s ho hd => u.come i o s ho (hall i (Array.getElem?_eq_some_iff.1 ho).1) hd)
  · rintro listed a w' ⟨u, hz, hl⟩
    refine List.eq_nil_iff_forall_not_mem.2 fun i hi => ?_
    have := (mem_ready.1 hi).1
    rw [left_none (by omega) i] at this
    cases this
  · rintro fuel listed a w' i ⟨u, hz, hl⟩ hi
    obtain ⟨hi0, o, ho, hdep⟩ := mem_ready.1 hi
    have hlt : i < listed.size := by
      rw [hz]
      exact (Array.getElem?_eq_some_iff.1 ho).1
    have hlf := left_set hi0
    have hi1 : listed.getD i false = false := by
      simp [hlt] at hi0 ⊢
      exact hi0
    have hst := (show Step P ops Q V a0 w i from hs i (by omega)) o ho a w' u.late (fun s hn => u.old s (fun j q hq hd => absurd hd (hn j q hq))) (by
      intro j hj q s hq hd
      obtain ⟨e, he, rfl⟩ := List.mem_map.1 hj
      obtain ⟨he1, he2⟩ := List.mem_filter.1 he
      exact u.come e.on q s hq (hdep e (Array.mem_toList_iff.1 he1) he2) hd)
    have key : ∀ v w'', V i v w'' → Later w' w'' → Up ops V a0 w (listed.setIfInBounds i true) (a.put o.dst v) w'' := by
      intro v w'' hv hg
      refine ⟨gtrans u.late hg, ?_, ?_, ?_, ?_⟩
      · cases o.dst <;> exact u.defers
      · cases hd : o.dst with
        | none => exact u.size
        | some d => simp [Act.put, u.size]
      · intro s hn
        have h1 : a.tmps[s]? = a0.tmps[s]? := u.old s (fun j q hq hd => by
          have := hn j q hq hd
          rw [getD_set hlt] at this
          simp at this
          simpa using this.2)
        cases hd : o.dst with
        | none => exact h1
        | some d =>
          have hne : d ≠ s := by
            rintro rfl
            have := hn i o ho hd
            rw [getD_set hlt] at this
            simp at this
          simp only [Act.put]
          rw [Array.getElem?_setIfInBounds_ne hne]
          exact h1
      · intro j q s hq hl' hd
        by_cases hji : j = i
        · subst hji
          obtain rfl : q = o := Option.some.inj (hq.symm.trans ho)
          refine ⟨v, ?_, hv⟩
          rw [hd]
          have := fit_in hf ho hd
          rw [← u.size] at this
          simp [Act.put, this]
        · rw [getD_set hlt] at hl'
          simp [hji] at hl'
          obtain ⟨x, hx, hx'⟩ := u.come j q s hq (by simpa using hl') hd
          refine ⟨x, ?_, hV _ _ _ _ hx' hg⟩
          cases hd' : o.dst with
          | none => exact hx
          | some d =>
            have hne : d ≠ s := by
              rintro rfl
              exact hji (fit_dst hf ho hq hd' hd)
            simp only [Act.put]
            rw [Array.getElem?_setIfInBounds_ne hne]
            exact hx
    unfold wpOp
    rw [ho]
    show if Region.wanted o (yielded ops a.tmps) = true then _ else _
    split
    · rename_i hw
      rw [if_pos hw] at hst
      refine .inl (Oper.wp_mono ?_ hst)
      rintro a' w'' ⟨v, rfl, hv, hg⟩
      exact ⟨key v w'' hv hg, by simp [hz], by omega⟩
    · rename_i hw
      rw [if_neg hw] at hst
      exact ⟨key undef w' hst (Later.refl _), by simp [hz], by omega⟩
  · refine ⟨⟨Later.refl w, rfl, rfl, fun _ _ => rfl, fun i o s ho hl _ => ?_⟩, by simp, ?_⟩
    · rw [getD_replicate_false] at hl
      cases hl
    · unfold leftN
      have := List.countP_le_length (p := fun b => !b) (l := (Array.replicate ops.size false).toList)
      simpa using this

theorem ev {a : Act} {k : Tmp} {v : Value} (h : a.tmps[k]? = some v) : a.eval (.tmp k) = v := by
  simp [Act.eval, h]

/-- No operation writes this slot. -/
def freeB (ops : Array Oper) (s : Tmp) : Bool := ops.toList.all fun q => !(q.dst == some s)

theorem free_of {ops : Array Oper} {s : Tmp} (h : freeB ops s = true) : ∀ (j : Nat) (q : Oper), ops[j]? = some q → q.dst ≠ some s := by
  intro j q hq hd
  have := List.all_eq_true.1 h q (by
    rw [Array.mem_toList_iff]
    exact Array.mem_of_getElem? hq)
  simp [hd] at this

theorem want_of {ops : Array Oper} {o : Oper} {a : Act} {j : Nat} {q : Oper} {s : Tmp} {b c : Bool} (hg : o.guard = some (j, c)) (hq : ops[j]? = some q) (hd : q.dst = some s) (h : a.tmps[s]? = some (.bool b)) : Region.wanted o (yielded ops a.tmps) = (b == c) := by
  unfold Region.wanted yielded
  rw [hg]
  simp [hq, hd, h]

theorem ite_yes {c : Prop} [Decidable c] {A B : Prop} (h : c) (ha : A) : if c then A else B := by rw [if_pos h]; exact ha

theorem ite_by {x : Bool} {A B : Prop} {b : Bool} (h : x = b) (h1 : b = true → A) (h2 : b = false → B) : if x = true then A else B := by
  subst h
  split
  · exact h1 (by assumption)
  · exact h2 (by simpa using ‹¬ x = true›)

theorem act_eta (a : Act) (n : Nat) (d : List Deferred) (hz : a.tmps.size = n) (hd : a.defers = d) : a = ⟨((List.range n).map fun s => a.tmps.getD s undef).toArray, d⟩ := by
  obtain ⟨t, e⟩ := a
  subst hd
  simp only [Act.mk.injEq, and_true]
  apply Array.ext
  · simp at hz ⊢
    exact hz
  · intro i h1 h2
    simp [h1]

theorem getD_of {a : Act} {s : Tmp} {v : Value} (h : a.tmps[s]? = some v) : a.tmps.getD s undef = v := by simp [h]

end Go.Proofs.YtpkjbcgmhkkfiaaGreatDoor.Each

/- Whether a configuration's size, zone, sunsets and number of windows may be, by the program. No condition but those that each theorem states. -/
namespace Go.Proofs.YtpkjbcgmhkkfiaaGreatDoor.Conf
set_option maxRecDepth 100000
open Go.ChangeShapes Go.WideShapes Go.ChangeAt Go.RowKit
open Go.Proofs.YtpkjbcgmhkkfiaaGreatDoor.Divs Go.Proofs.YtpkjbcgmhkkfiaaGreatDoor.Grow Go.Proofs.YtpkjbcgmhkkfiaaGreatDoor.Zone
open Go.Proofs.YtpkjbcgmhkkfiaaGreatDoor.By (Sk SL)
open Go.Proofs.YtpkjbcgmhkkfiaaGreatDoor.Each
open Go.Proofs.YtpkjbcgmhkkfiaaGreatDoor.Zo Go.Proofs.YtpkjbcgmhkkfiaaGreatDoor.Su Go.Proofs.YtpkjbcgmhkkfiaaGreatDoor.Cf

theorem floors_any (c : Cg) (u v : Value) (w : World) (h0 : 2 ≤ c.f) (h1 : c.f ≤ 64) : Calls Tryz.prog 71 #[.agg (cc c u v)] w fun e w' => e = .returned (.agg #[.int .i64 0, .int .i64 (c.f - 1)]) ∧ Later w w' := by
  unfold cc
  go_enter Tryz.func71, Tryz.ntmps71
  go_wp2_with fail
  exact bodyPost_ret (v := .agg #[.int .i64 0, .int .i64 (c.f - 1)]) (by simp [results, Tryz.results71, go_sem]) rfl ⟨rfl, ((Later.refl w).alloc _ _).alloc _ _⟩

theorem new_celld (W : World) (cs : Array Value) (t : TypeId) (i : Nat) (v : Value) (g : Nat) (hg : g = W.heap.size) (h : cs[i]? = some v) : (W.alloc (.cells cs t)).drew.cell? ⟨g, i, none⟩ = some v := new_cell W cs t i v g hg h

theorem load_cfg (C : Array Value) (hC : C.size = 37) (W : World) (g : Nat) (h : At W g C) : (Instr.loadAt 33 (.pointer (some ⟨g, 0, none⟩))).run Tryz.prog W = .ok (.agg C) W := by
  have hi : (Tryz.prog.info? 33).map (·.size) = some C.toList.length := by
    rw [Array.length_toList, hC]
    kernel_rfl
  have := run_loadAt_mid (P := Tryz.prog) W g 0 33 C.toList _ (fun j v hv => by rw [Nat.zero_add]; exact h j v (by simpa using hv)) Tryz.underlying33 rfl hi
  simpa using this

theorem wp_load_cfg {o : Oper} {a : Act} {K : Act → World → Prop} {Q : Exit → Act → World → Prop} (C : Array Value) (hC : C.size = 37) (W : World) (g : Nat) (h : At W g C) (x : Operand) (ho : o.op = .load 33 x) (hx : a.eval x = .pointer (some ⟨g, 0, none⟩)) (hK : K (a.put o.dst (.agg C)) W) : o.wp Tryz.prog a W K Q := by
  have hi : (Tryz.prog.info? 33).map (·.size) = some C.toList.length := by
    rw [Array.length_toList, hC]
    kernel_rfl
  refine wp_load_mid (P := Tryz.prog) 33 x ho g 0 hx C.toList _ (fun j v hv => by rw [Nat.zero_add]; exact h j v (by simpa using hv)) Tryz.underlying33 rfl hi ?_
  simpa using hK

/-- A configuration is loaded whole. -/
theorem load_at {ops : Array Oper} {rest : List Oper} {o : Oper} {a : Act} {W : World} {Q : Exit → Act → World → Prop} (C : Array Value) (hC : C.size = 37) (hgd : o.guard = none) (x : Operand) (ho : o.op = .load 33 x) (g : Nat) (hx : a.eval x = .pointer (some ⟨g, 0, none⟩)) (h : At W g C) (hK : wpList Tryz.prog ops Q rest (a.put o.dst (.agg C)) W) : wpList Tryz.prog ops Q (o :: rest) a W := by
  have hi : (Tryz.prog.info? 33).map (·.size) = some C.toList.length := by
    rw [Array.length_toList, hC]
    kernel_rfl
  refine wpList_load_mid (P := Tryz.prog) hgd 33 x ho g 0 hx C.toList _ (fun j v hv => by rw [Nat.zero_add]; exact h j v (by simpa using hv)) Tryz.underlying33 rfl hi ?_
  simpa using hK

/-- A row of one number. -/
def One (x : Int) (v : Value) (W : World) : Prop := ∃ g, v = .slice (some ⟨g, 0, none⟩) 1 1 ∧ W.cell? ⟨g, 0, none⟩ = some (.int .i64 x)

theorem One.later {x : Int} {v : Value} {W W' : World} (h : One x v W) (g : Later W W') : One x v W' := by
  obtain ⟨b, e, c⟩ := h
  exact ⟨b, e, gsome g c⟩

def SV (C : Array Value) (f n p : Int) (A : Nat) (b1 b2 b3 : Bool) : Nat → Value → World → Prop
  | 0, v, _ => v = .agg #[.int .i64 2, .int .i64 64]
  | 1, v, _ => v = .pointer (some ⟨A, 0, none⟩)
  | 2, v, _ => v = .int .i64 f
  | 3, v, W => One f v W
  | 4, v, _ => v = .bool b1
  | 5, v, _ => v = .bool b1
  | 6, v, _ => b1 = true → v = .agg #[.int .i64 1, .int .i64 8]
  | 7, v, _ => b1 = true → v = .pointer (some ⟨A, 1, none⟩)
  | 8, v, _ => b1 = true → v = .int .i64 n
  | 9, v, W => b1 = true → One n v W
  | 10, v, _ => b1 = true → v = .bool b2
  | 11, v, _ => v = .bool (b1 && b2)
  | 12, v, _ => v = .bool (b1 && b2)
  | 13, v, _ => (b1 && b2) = true → v = .agg C
  | 14, v, _ => (b1 && b2) = true → v = .agg #[.int .i64 0, .int .i64 (f - 1)]
  | 15, v, _ => (b1 && b2) = true → v = .pointer (some ⟨A, 2, none⟩)
  | 16, v, _ => (b1 && b2) = true → v = .int .i64 p
  | 17, v, W => (b1 && b2) = true → One p v W
  | 18, v, _ => (b1 && b2) = true → v = .bool b3
  | 19, v, _ => v = .bool (b1 && b2 && b3)
  | _, _, _ => True

theorem SV.later (C : Array Value) (f n p : Int) (A : Nat) (b1 b2 b3 : Bool) (i : Nat) (v : Value) (W W' : World) (h : SV C f n p A b1 b2 b3 i v W) (g : Later W W') : SV C f n p A b1 b2 b3 i v W' := by
  match i, h with
  | 0, h | 1, h | 2, h | 4, h | 5, h | 6, h | 7, h | 8, h | 10, h | 11, h | 12, h | 13, h | 14, h | 15, h | 16, h | 18, h | 19, h => exact h
  | 3, h => exact One.later h g
  | 9, h | 17, h => exact fun e => One.later (h e) g
  | _ + 20, h => trivial

set_option maxHeartbeats 2000000 in
theorem size_any' (C : Array Value) (f n p N : Int) (B1 B2 B3 : Bool) (w : World) (hC : C.size = 37) (f0 : C[0]? = some (.int .i64 f)) (f1 : C[1]? = some (.int .i64 n)) (f2 : C[2]? = some (.int .i64 p))
    (HN : Hid (N = if (B1 && B2 && B3) = true then 0 else 100)) (X1 : Hid (bt f 2 64 = B1)) (X2 : Hid (bt n 1 8 = B2)) (X3 : Hid (bt p 0 (f - 1) = B3))
    (HF : Hid ((B1 && B2) = true → ∀ W, Calls Tryz.prog 71 #[.agg C] W fun e w' => e = .returned (.agg #[.int .i64 0, .int .i64 (f - 1)]) ∧ Later W w')) :
    Calls Tryz.prog 51 #[.agg C] w fun e w' => e = .returned (.int .i64 N) ∧ Later w w' := by
  have HA := Lib.hid (((At.new w C 33).put (.cells #[.int .i64 2, .int .i64 64] 106)).put (.cells #[.int .i64 1, .int .i64 8] 106))
  have HE := Lib.hid ((At.new (w.alloc (.cells C 33)) #[.int .i64 2, .int .i64 64] 106).put (.cells #[.int .i64 1, .int .i64 8] 106))
  have HD := Lib.hid (At.new ((w.alloc (.cells C 33)).alloc (.cells #[.int .i64 2, .int .i64 64] 106)) #[.int .i64 1, .int .i64 8] 106)
  have HL := Lib.hid ((((Later.refl w).alloc C 33).alloc #[.int .i64 2, .int .i64 64] 106).alloc #[.int .i64 1, .int .i64 8] 106)
  go_enter Tryz.func51, Tryz.ntmps51
  go_wp2_with fail
  generalize ((w.alloc (.cells C 33)).alloc (.cells #[.int .i64 2, .int .i64 64] 106)).alloc (.cells #[.int .i64 1, .int .i64 8] 106) = W0 at *
  simp only [World.size_alloc] at HE HD
  refine region_each (SV C f n p w.heap.size B1 B2 B3) (by kernel_rfl) (by kernel_rfl) (SV.later C f n p w.heap.size _ _ _) ?_ ?_
  · intro i hi
    match i with
    | 0 =>
      intro o ho
      simp only [List.getElem?_toArray, List.getElem?_cons_zero, Option.some.injEq] at ho
      subst ho
      intro a W hl hold hdep
      refine ite_yes rfl ?_
      have h3 : a.tmps[3]? = some (.pointer (some ⟨w.heap.size + 1, 0, none⟩)) := hold 3 (free_of (by kernel_rfl))
      have e0 := HE.out.later hl 0 _ rfl
      have e1 := HE.out.later hl 1 _ rfl
      clear hold hdep
      unfold Oper.wp
      go_simp
      exact ⟨_, rfl, rfl, Later.refl _⟩
    | 1 =>
      intro o ho
      simp only [List.getElem?_toArray, List.getElem?_cons_zero, List.getElem?_cons_succ, Option.some.injEq] at ho
      subst ho
      intro a W hl hold hdep
      refine ite_yes rfl ?_
      have h1 : a.tmps[1]? = some (.pointer (some ⟨w.heap.size, 0, none⟩)) := hold 1 (free_of (by kernel_rfl))
      clear hold hdep
      unfold Oper.wp
      go_simp
      exact ⟨_, rfl, rfl, Later.refl _⟩
    | 2 =>
      intro o ho
      simp only [List.getElem?_toArray, List.getElem?_cons_zero, List.getElem?_cons_succ, Option.some.injEq] at ho
      subst ho
      intro a W hl hold hdep
      refine ite_yes rfl ?_
      obtain ⟨_, h8, rfl⟩ := hdep 1 (by decide) _ _ rfl rfl
      have e0 := HA.out.later hl 0 _ f0
      clear hold hdep
      unfold Oper.wp
      go_simp
      exact ⟨_, rfl, rfl, Later.refl _⟩
    | 3 =>
      intro o ho
      simp only [List.getElem?_toArray, List.getElem?_cons_zero, List.getElem?_cons_succ, Option.some.injEq] at ho
      subst ho
      intro a W hl hold hdep
      refine ite_yes rfl ?_
      obtain ⟨_, h9, rfl⟩ := hdep 2 (by decide) _ _ rfl rfl
      clear hold hdep
      unfold Oper.wp
      go_simp
      exact ⟨_, rfl, ⟨_, rfl, new_cell _ _ _ 0 _ _ rfl rfl⟩, (Later.refl _).put _⟩
    | 4 =>
      intro o ho
      simp only [List.getElem?_toArray, List.getElem?_cons_zero, List.getElem?_cons_succ, Option.some.injEq] at ho
      subst ho
      intro a W hl hold hdep
      refine ite_yes rfl ?_
      obtain ⟨_, h7, rfl⟩ := hdep 0 (by decide) _ _ rfl rfl
      obtain ⟨_, h10, ⟨g, rfl, c⟩⟩ := hdep 3 (by decide) _ _ rfl rfl
      clear hold hdep
      unfold Oper.wp
      go_simp
      refine (hold_one 2 64 f _ _ c).mono ?_
      rintro e w1 ⟨rfl, hg1⟩
      exact ⟨_, rfl, congrArg Value.bool X1.out, hg1⟩
    | 5 =>
      intro o ho
      simp only [List.getElem?_toArray, List.getElem?_cons_zero, List.getElem?_cons_succ, Option.some.injEq] at ho
      subst ho
      intro a W hl hold hdep
      refine ite_yes rfl ?_
      obtain ⟨_, h11, rfl⟩ := hdep 4 (by decide) _ _ rfl rfl
      clear hold hdep
      unfold Oper.wp
      go_simp
      exact ⟨_, rfl, rfl, Later.refl _⟩
    | 6 =>
      intro o ho
      simp only [List.getElem?_toArray, List.getElem?_cons_zero, List.getElem?_cons_succ, Option.some.injEq] at ho
      subst ho
      intro a W hl hold hdep
      obtain ⟨_, hg, rfl⟩ := hdep 5 (by decide) _ _ rfl rfl
      refine ite_by (want_of rfl rfl rfl hg) (fun hb => ?_) (fun hb e => by rw [e] at hb; cases hb)
      have hb : B1 = true := by simpa using hb
      have h4 : a.tmps[4]? = some (.pointer (some ⟨w.heap.size + 1 + 1, 0, none⟩)) := hold 4 (free_of (by kernel_rfl))
      have e0 := HD.out.later hl 0 _ rfl
      have e1 := HD.out.later hl 1 _ rfl
      clear hold hdep
      unfold Oper.wp
      go_simp
      exact ⟨_, rfl, fun _ => rfl, Later.refl _⟩
    | 7 =>
      intro o ho
      simp only [List.getElem?_toArray, List.getElem?_cons_zero, List.getElem?_cons_succ, Option.some.injEq] at ho
      subst ho
      intro a W hl hold hdep
      obtain ⟨_, hg, rfl⟩ := hdep 5 (by decide) _ _ rfl rfl
      refine ite_by (want_of rfl rfl rfl hg) (fun hb => ?_) (fun hb e => by rw [e] at hb; cases hb)
      have hb : B1 = true := by simpa using hb
      have h1 : a.tmps[1]? = some (.pointer (some ⟨w.heap.size, 0, none⟩)) := hold 1 (free_of (by kernel_rfl))
      clear hold hdep
      unfold Oper.wp
      go_simp
      exact ⟨_, rfl, fun _ => rfl, Later.refl _⟩
    | 8 =>
      intro o ho
      simp only [List.getElem?_toArray, List.getElem?_cons_zero, List.getElem?_cons_succ, Option.some.injEq] at ho
      subst ho
      intro a W hl hold hdep
      obtain ⟨_, hg, rfl⟩ := hdep 5 (by decide) _ _ rfl rfl
      refine ite_by (want_of rfl rfl rfl hg) (fun hb => ?_) (fun hb e => by rw [e] at hb; cases hb)
      have hb : B1 = true := by simpa using hb
      obtain ⟨_, h14, v⟩ := hdep 7 (by decide) _ _ rfl rfl
      obtain rfl := v hb
      have e0 := HA.out.later hl 1 _ f1
      clear hold hdep
      unfold Oper.wp
      go_simp
      exact ⟨_, rfl, fun _ => rfl, Later.refl _⟩
    | 9 =>
      intro o ho
      simp only [List.getElem?_toArray, List.getElem?_cons_zero, List.getElem?_cons_succ, Option.some.injEq] at ho
      subst ho
      intro a W hl hold hdep
      obtain ⟨_, hg, rfl⟩ := hdep 5 (by decide) _ _ rfl rfl
      refine ite_by (want_of rfl rfl rfl hg) (fun hb => ?_) (fun hb e => by rw [e] at hb; cases hb)
      have hb : B1 = true := by simpa using hb
      obtain ⟨_, h15, v⟩ := hdep 8 (by decide) _ _ rfl rfl
      obtain rfl := v hb
      clear hold hdep
      unfold Oper.wp
      go_simp
      exact ⟨_, rfl, fun _ => ⟨_, rfl, new_cell _ _ _ 0 _ _ rfl rfl⟩, (Later.refl _).put _⟩
    | 10 =>
      intro o ho
      simp only [List.getElem?_toArray, List.getElem?_cons_zero, List.getElem?_cons_succ, Option.some.injEq] at ho
      subst ho
      intro a W hl hold hdep
      obtain ⟨_, hg, rfl⟩ := hdep 5 (by decide) _ _ rfl rfl
      refine ite_by (want_of rfl rfl rfl hg) (fun hb => ?_) (fun hb e => by rw [e] at hb; cases hb)
      have hb : B1 = true := by simpa using hb
      obtain ⟨_, h13, v⟩ := hdep 6 (by decide) _ _ rfl rfl
      obtain rfl := v hb
      obtain ⟨_, h16, vo⟩ := hdep 9 (by decide) _ _ rfl rfl
      obtain ⟨g, rfl, c⟩ := vo hb
      clear hold hdep
      unfold Oper.wp
      go_simp
      refine (hold_one 1 8 n _ _ c).mono ?_
      rintro e w1 ⟨rfl, hg1⟩
      exact ⟨_, rfl, fun _ => congrArg Value.bool X2.out, hg1⟩
    | 11 =>
      intro o ho
      simp only [List.getElem?_toArray, List.getElem?_cons_zero, List.getElem?_cons_succ, Option.some.injEq] at ho
      subst ho
      intro a W hl hold hdep
      refine ite_yes rfl ?_
      obtain ⟨_, h12, rfl⟩ := hdep 5 (by decide) _ _ rfl rfl
      obtain ⟨x, h17, hx⟩ := hdep 10 (by decide) _ _ rfl rfl
      clear hold hdep
      unfold Oper.wp
      cases hb : B1 with
      | false =>
        rw [hb] at h12
        go_simp
        exact ⟨_, rfl, rfl, Later.refl _⟩
      | true =>
        obtain rfl := hx hb
        rw [hb] at h12
        go_simp
        exact ⟨_, rfl, rfl, Later.refl _⟩
    | 12 =>
      intro o ho
      simp only [List.getElem?_toArray, List.getElem?_cons_zero, List.getElem?_cons_succ, Option.some.injEq] at ho
      subst ho
      intro a W hl hold hdep
      refine ite_yes rfl ?_
      obtain ⟨_, h18, rfl⟩ := hdep 11 (by decide) _ _ rfl rfl
      clear hold hdep
      unfold Oper.wp
      go_simp
      exact ⟨_, rfl, rfl, Later.refl _⟩
    | 13 =>
      intro o ho
      simp only [List.getElem?_toArray, List.getElem?_cons_zero, List.getElem?_cons_succ, Option.some.injEq] at ho
      subst ho
      intro a W hl hold hdep
      obtain ⟨_, hg, rfl⟩ := hdep 12 (by decide) _ _ rfl rfl
      refine ite_by (want_of rfl rfl rfl hg) (fun hb => ?_) (fun hb e => by rw [e] at hb; cases hb)
      have hb : (B1 && B2) = true := by simpa using hb
      have h1 : a.tmps[1]? = some (.pointer (some ⟨w.heap.size, 0, none⟩)) := hold 1 (free_of (by kernel_rfl))
      clear hold hdep
      exact wp_load_cfg C hC W w.heap.size (HA.out.later hl) (.tmp 1) rfl (ev h1) ⟨_, rfl, fun _ => rfl, Later.refl _⟩
    | 14 =>
      intro o ho
      simp only [List.getElem?_toArray, List.getElem?_cons_zero, List.getElem?_cons_succ, Option.some.injEq] at ho
      subst ho
      intro a W hl hold hdep
      obtain ⟨_, hg, rfl⟩ := hdep 12 (by decide) _ _ rfl rfl
      refine ite_by (want_of rfl rfl rfl hg) (fun hb => ?_) (fun hb e => by rw [e] at hb; cases hb)
      have hb : (B1 && B2) = true := by simpa using hb
      obtain ⟨_, h20, v⟩ := hdep 13 (by decide) _ _ rfl rfl
      obtain rfl := v hb
      have hF := HF.out hb W
      clear hold hdep
      unfold Oper.wp
      go_simp
      refine hF.mono ?_
      rintro e w1 ⟨rfl, hg1⟩
      exact ⟨_, rfl, fun _ => rfl, hg1⟩
    | 15 =>
      intro o ho
      simp only [List.getElem?_toArray, List.getElem?_cons_zero, List.getElem?_cons_succ, Option.some.injEq] at ho
      subst ho
      intro a W hl hold hdep
      obtain ⟨_, hg, rfl⟩ := hdep 12 (by decide) _ _ rfl rfl
      refine ite_by (want_of rfl rfl rfl hg) (fun hb => ?_) (fun hb e => by rw [e] at hb; cases hb)
      have hb : (B1 && B2) = true := by simpa using hb
      have h1 : a.tmps[1]? = some (.pointer (some ⟨w.heap.size, 0, none⟩)) := hold 1 (free_of (by kernel_rfl))
      clear hold hdep
      unfold Oper.wp
      go_simp
      exact ⟨_, rfl, fun _ => rfl, Later.refl _⟩
    | 16 =>
      intro o ho
      simp only [List.getElem?_toArray, List.getElem?_cons_zero, List.getElem?_cons_succ, Option.some.injEq] at ho
      subst ho
      intro a W hl hold hdep
      obtain ⟨_, hg, rfl⟩ := hdep 12 (by decide) _ _ rfl rfl
      refine ite_by (want_of rfl rfl rfl hg) (fun hb => ?_) (fun hb e => by rw [e] at hb; cases hb)
      have hb : (B1 && B2) = true := by simpa using hb
      obtain ⟨_, h22, v⟩ := hdep 15 (by decide) _ _ rfl rfl
      obtain rfl := v hb
      have e0 := HA.out.later hl 2 _ f2
      clear hold hdep
      unfold Oper.wp
      go_simp
      exact ⟨_, rfl, fun _ => rfl, Later.refl _⟩
    | 17 =>
      intro o ho
      simp only [List.getElem?_toArray, List.getElem?_cons_zero, List.getElem?_cons_succ, Option.some.injEq] at ho
      subst ho
      intro a W hl hold hdep
      obtain ⟨_, hg, rfl⟩ := hdep 12 (by decide) _ _ rfl rfl
      refine ite_by (want_of rfl rfl rfl hg) (fun hb => ?_) (fun hb e => by rw [e] at hb; cases hb)
      have hb : (B1 && B2) = true := by simpa using hb
      obtain ⟨_, h23, v⟩ := hdep 16 (by decide) _ _ rfl rfl
      obtain rfl := v hb
      clear hold hdep
      unfold Oper.wp
      go_simp
      exact ⟨_, rfl, fun _ => ⟨_, rfl, new_cell _ _ _ 0 _ _ rfl rfl⟩, (Later.refl _).put _⟩
    | 18 =>
      intro o ho
      simp only [List.getElem?_toArray, List.getElem?_cons_zero, List.getElem?_cons_succ, Option.some.injEq] at ho
      subst ho
      intro a W hl hold hdep
      obtain ⟨_, hg, rfl⟩ := hdep 12 (by decide) _ _ rfl rfl
      refine ite_by (want_of rfl rfl rfl hg) (fun hb => ?_) (fun hb e => by rw [e] at hb; cases hb)
      have hb : (B1 && B2) = true := by simpa using hb
      obtain ⟨_, h21, v⟩ := hdep 14 (by decide) _ _ rfl rfl
      obtain rfl := v hb
      obtain ⟨_, h24, vo⟩ := hdep 17 (by decide) _ _ rfl rfl
      obtain ⟨g, rfl, c⟩ := vo hb
      clear hold hdep
      unfold Oper.wp
      go_simp
      refine (hold_one 0 (f - 1) p _ _ c).mono ?_
      rintro e w1 ⟨rfl, hg1⟩
      exact ⟨_, rfl, fun _ => congrArg Value.bool X3.out, hg1⟩
    | 19 =>
      intro o ho
      simp only [List.getElem?_toArray, List.getElem?_cons_zero, List.getElem?_cons_succ, Option.some.injEq] at ho
      subst ho
      intro a W hl hold hdep
      refine ite_yes rfl ?_
      obtain ⟨_, h19, rfl⟩ := hdep 12 (by decide) _ _ rfl rfl
      obtain ⟨x, h25, hx⟩ := hdep 18 (by decide) _ _ rfl rfl
      clear hold hdep
      unfold Oper.wp
      cases hb : (B1 && B2) with
      | false =>
        rw [hb] at h19
        go_simp
        exact ⟨_, rfl, by show _ = Value.bool ((B1 && B2) && B3); rw [hb]; rfl, Later.refl _⟩
      | true =>
        obtain rfl := hx hb
        rw [hb] at h19
        go_simp
        exact ⟨_, rfl, by show _ = Value.bool ((B1 && B2) && B3); rw [hb]; rfl, Later.refl _⟩
    | k + 20 => exact absurd hi (by simp)
  · intro a W hl hd hz hold hall
    obtain ⟨x, hx, rfl⟩ := hall 19 _ _ rfl rfl
    have ha := act_eta a 27 [] hz hd
    rw [show (List.range 27).map (fun s => a.tmps.getD s undef) = [a.tmps.getD 0 undef, a.tmps.getD 1 undef, a.tmps.getD 2 undef, a.tmps.getD 3 undef, a.tmps.getD 4 undef, a.tmps.getD 5 undef, a.tmps.getD 6 undef, a.tmps.getD 7 undef, a.tmps.getD 8 undef, a.tmps.getD 9 undef, a.tmps.getD 10 undef, a.tmps.getD 11 undef, a.tmps.getD 12 undef, a.tmps.getD 13 undef, a.tmps.getD 14 undef, a.tmps.getD 15 undef, a.tmps.getD 16 undef, a.tmps.getD 17 undef, a.tmps.getD 18 undef, a.tmps.getD 19 undef, a.tmps.getD 20 undef, a.tmps.getD 21 undef, a.tmps.getD 22 undef, a.tmps.getD 23 undef, a.tmps.getD 24 undef, a.tmps.getD 25 undef, a.tmps.getD 26 undef] from rfl, getD_of hx] at ha
    rw [ha]
    clear hall hold hz hd ha hx
    generalize a.tmps.getD 0 undef = x0
    generalize a.tmps.getD 1 undef = x1
    generalize a.tmps.getD 2 undef = x2
    generalize a.tmps.getD 3 undef = x3
    generalize a.tmps.getD 4 undef = x4
    generalize a.tmps.getD 5 undef = x5
    generalize a.tmps.getD 6 undef = x6
    generalize a.tmps.getD 7 undef = x7
    generalize a.tmps.getD 8 undef = x8
    generalize a.tmps.getD 9 undef = x9
    generalize a.tmps.getD 10 undef = x10
    generalize a.tmps.getD 11 undef = x11
    generalize a.tmps.getD 12 undef = x12
    generalize a.tmps.getD 13 undef = x13
    generalize a.tmps.getD 14 undef = x14
    generalize a.tmps.getD 15 undef = x15
    generalize a.tmps.getD 16 undef = x16
    generalize a.tmps.getD 17 undef = x17
    generalize a.tmps.getD 18 undef = x18
    generalize a.tmps.getD 19 undef = x19
    generalize a.tmps.getD 20 undef = x20
    generalize a.tmps.getD 21 undef = x21
    generalize a.tmps.getD 22 undef = x22
    generalize a.tmps.getD 23 undef = x23
    generalize a.tmps.getD 24 undef = x24
    generalize a.tmps.getD 25 undef = x25
    have HW := Lib.hid (gtrans HL.out hl)
    clear hl
    cases hb : (B1 && B2 && B3) with
    | false =>
      have HV : Hid (N = 100) := Lib.hid (by rw [HN.out, hb]; rfl)
      clear hb
      go_wp2_with fail
      go_ret
      exact ⟨ret1 HV.out.symm, HW.out⟩
    | true =>
      have HV : Hid (N = 0) := Lib.hid (by rw [HN.out, hb]; rfl)
      clear hb
      go_wp2_with fail
      go_ret
      exact ⟨ret1 HV.out.symm, HW.out⟩

theorem size_any (c : Cg) (u v : Value) (w : World) : Calls Tryz.prog 51 #[.agg (cc c u v)] w fun e w' => e = .returned (.int .i64 (if so c = true then 0 else 100)) ∧ Later w w' := by
  have := size_any' (cc c u v) c.f c.n c.p _ _ _ _ w rfl rfl rfl rfl (Lib.hid rfl) (Lib.hid rfl) (Lib.hid rfl) (Lib.hid rfl) (Lib.hid (fun h W => by
    simp only [Bool.and_eq_true, bt_iff] at h
    exact floors_any c u v W h.1.1 h.1.2))
  rwa [Bool.and_assoc] at this

theorem many_any (c : Cg) (u v : Value) (w : World) (hv : Wk w v c.ws) : Calls Tryz.prog 56 #[.agg (cc c u v)] w fun e w' => e = .returned (.int .i64 (if c.ws.length ≤ 16 then 0 else 103)) ∧ Later w w' := by
  unfold cc
  obtain ⟨ad, cap, rfl, hm⟩ := hv.len
  clear hv
  by_cases h : c.ws.length ≤ 16
  · have t : decide ((c.ws.length : Int) > 16) = false := by simp; omega
    rw [if_pos h]
    go_enter Tryz.func56, Tryz.ntmps56
    go_wp2_with fail
    go_ret
    exact ⟨rfl, (Later.refl w).alloc _ _⟩
  · have t : decide ((c.ws.length : Int) > 16) = true := by simp; omega
    rw [if_neg h]
    go_enter Tryz.func56, Tryz.ntmps56
    go_wp2_with fail
    go_ret
    exact ⟨rfl, (Later.refl w).alloc _ _⟩

theorem zone_any (c : Cg) (u v : Value) (w : World) : Calls Tryz.prog 54 #[.agg (cc c u v)] w fun e w' => e = .returned (.int .i64 (ck c.z)) ∧ Later w w' := by
  unfold cc
  have K := Lib.hid (fun W => Zone.check_any c.z W)
  unfold zc at K
  go_enter Tryz.func54, Tryz.ntmps54
  go_wp2_with fail
  refine (K.out _).mono ?_
  rintro e w1 ⟨rfl, hg1⟩
  go_wp2_with fail
  go_ret
  exact ⟨rfl, gtrans ((Later.refl w).alloc _ _) hg1⟩

theorem sun_any (c : Cg) (u v : Value) (w : World) : Calls Tryz.prog 55 #[.agg (cc c u v)] w fun e w' => e = .returned (.int .i64 (sk c.s)) ∧ Later w w' := by
  unfold cc
  have K := Lib.hid (fun W => Sun.check_any c.s W)
  unfold Sun.sc at K
  go_enter Tryz.func55, Tryz.ntmps55
  go_wp2_with fail
  refine (K.out _).mono ?_
  rintro e w1 ⟨rfl, hg1⟩
  go_wp2_with fail
  go_ret
  exact ⟨rfl, gtrans ((Later.refl w).alloc _ _) hg1⟩
end Go.Proofs.YtpkjbcgmhkkfiaaGreatDoor.Conf

/- Whether a configuration's stops, times and windows may be, by the program. No condition but those that each theorem states. -/
namespace Go.Proofs.YtpkjbcgmhkkfiaaGreatDoor.Conf
open Go.ChangeShapes Go.WideShapes Go.ChangeAt Go.RowKit
open Go.Proofs.YtpkjbcgmhkkfiaaGreatDoor.Divs Go.Proofs.YtpkjbcgmhkkfiaaGreatDoor.Grow Go.Proofs.YtpkjbcgmhkkfiaaGreatDoor.Zone
open Go.Proofs.YtpkjbcgmhkkfiaaGreatDoor.By (Sk SL)
open Go.Proofs.YtpkjbcgmhkkfiaaGreatDoor.Each
open Go.Proofs.YtpkjbcgmhkkfiaaGreatDoor.Zo Go.Proofs.YtpkjbcgmhkkfiaaGreatDoor.Su Go.Proofs.YtpkjbcgmhkkfiaaGreatDoor.Cf

/-- These cells are the block B, whole. -/
def Row (B : Nat) (t : TypeId) (cs : Array Value) (W : World) : Prop := W.heap[B]? = some (.cells cs t (0, 0))

theorem Row.cell {B : Nat} {t : TypeId} {cs : Array Value} {W : World} (h : Row B t cs W) (i : Nat) {v : Value} (hc : cs[i]? = some v) : W.cell? ⟨B, i, none⟩ = some v := by
  unfold Row at h
  simp [World.cell?, h, hc]

theorem Row.frozen {B : Nat} {t : TypeId} {cs : Array Value} {W : World} (h : Row B t cs W) (i : Nat) : W.frozen? ⟨B, i, none⟩ = false := by
  unfold Row at h
  simp [World.frozen?, h]

theorem Row.lt {B : Nat} {t : TypeId} {cs : Array Value} {W : World} (h : Row B t cs W) : B < W.heap.size := by
  unfold Row at h
  exact (Array.getElem?_eq_some_iff.1 h).1

theorem Row.later {B : Nat} {t : TypeId} {cs : Array Value} {W W' : World} (h : Row B t cs W) (g : Later W W') : Row B t cs W' := (g.2.2.2 B h.lt).trans h

theorem Row.at {B : Nat} {t : TypeId} {cs : Array Value} {W : World} (h : Row B t cs W) : At W B cs := fun i _ hc => h.cell i hc

theorem Row.new (W : World) (cs : Array Value) (t : TypeId) : Row W.heap.size t cs (W.alloc (.cells cs t)) := heap_alloc_new W _

theorem row_set {X : World} {b : Nat} {c : Array Value} {t : TypeId} {fr : Nat × Nat} {k : Nat} {v : Value} (h : X.heap[b]? = some (.cells c t fr)) :
    (X.setCell ⟨b, k, none⟩ v).heap[b]? = some (.cells (c.setIfInBounds k v) t fr) := by
  simp [World.setCell, Array.getElem?_modify, h]

theorem Row.set {B : Nat} {t : TypeId} {cs : Array Value} {W : World} (h : Row B t cs W) (k : Nat) (v : Value) : Row B t (cs.setIfInBounds k v) (W.setCell ⟨B, k, none⟩ v) := row_set h

/-- The first k stops may be; the ends of the next one lie in the block E. -/
def SRel (f : Int) (st : List Int) (w : World) (E : Nat) (i : Value) (wr : World) : Prop :=
  ∃ k : Nat, k ≤ st.length ∧ i = .int .i64 (k : Int) ∧ su f st k ∧ Row E 106 #[.int .i64 (lo st k), .int .i64 (f - 1)] wr ∧ Later w wr

set_option maxHeartbeats 2000000 in
theorem stops_any (c : Cg) (u v : Value) (w : World) (hu : Sk .i64 w u c.st) (h0 : 2 ≤ c.f) (h1 : c.f ≤ 64) : Calls Tryz.prog 52 #[.agg (cc c u v)] w fun e w' => e = .returned (.int .i64 (if to c = true then 0 else 101)) ∧ Later w w' := by
  obtain ⟨N, hN⟩ : ∃ N : Int, N = if to c = true then 0 else 101 := ⟨_, rfl⟩
  rw [← hN]
  have HY : Hid (2 ≤ c.st.length ∧ su c.f c.st c.st.length → N = 0) := Lib.hid (fun h => by rw [hN, if_pos ((to_iff c).2 h)])
  have HN : Hid (¬ (2 ≤ c.st.length ∧ su c.f c.st c.st.length) → N = 101) := Lib.hid (fun h => by rw [hN, if_neg (fun g => h ((to_iff c).1 g))])
  clear hN
  have F := Lib.hid (fun W => floors_any c u v W h0 h1)
  have K := Lib.hid (fun a b x g W h => hold_one a b x g W h)
  by_cases hl : c.st.length < 2
  · have t : decide ((c.st.length : Int) < 2) = true := by simp; omega
    have HV := Lib.hid (HN.out (by omega))
    obtain ⟨ad, cap, rfl, hm⟩ := hu.len
    clear hu h0 h1
    unfold cc at *
    go_enter Tryz.func52, Tryz.ntmps52
    go_wp2_with fail
    go_ret
    exact ⟨ret1 HV.out.symm, (Later.refl w).alloc _ _⟩
  · have t : decide ((c.st.length : Int) < 2) = false := by simp; omega
    obtain ⟨B, off, cap, rfl, hc1, hc2, hB, hc⟩ := hu.has (by omega)
    have HC := Lib.hid hc
    have HM : Hid (c.st.length ≤ 9223372036854775807) := Lib.hid (by omega)
    have HB := Lib.hid hl
    clear hu hc1 hc2 hB hc hl
    obtain ⟨n, hn⟩ : ∃ n, c.st.length = n := ⟨_, rfl⟩
    rw [hn] at t F ⊢
    have HL := Lib.hid hn
    clear hn
    obtain ⟨C, hC⟩ : ∃ C, C = cc c (.slice (some ⟨B, off, none⟩) n cap) v := ⟨_, rfl⟩
    rw [← hC] at F ⊢
    have f3 : C[3]? = some (.slice (some ⟨B, off, none⟩) n cap) := by rw [hC]; rfl
    have HZ : Hid (C.size = 37) := Lib.hid (by rw [hC]; rfl)
    clear hC
    have AC := Lib.hid (At.new w C 33)
    go_enter Tryz.func52, Tryz.ntmps52
    go_wp2_with (refine load_at C HZ.out rfl (.tmp 1) rfl w.heap.size rfl AC.out ?_)
    refine (F.out _).mono ?_
    rintro e w1 ⟨rfl, hg1⟩
    have HG1 := Lib.hid (off_put hg1)
    have x3 := (AC.out.later hg1).put (.cells #[.int .i64 0, .int .i64 (c.f - 1)] 106) 3 _ f3
    clear hg1 t f3
    go_wp2_with fail
    clear x3
    go_loopw [15] (fun i wr => SRel c.f c.st w w1.heap.size i wr) (fun i _ => n - (intOf i).toNat)
    case atStart => exact ⟨0, by omega, rfl, su_zero _ _, Row.new _ _ _, HG1.out.put _⟩
    case round =>
      obtain ⟨k, hk, rfl, hsu, hrow, hg⟩ := hrel
      rw [HL.out] at hk
      have HS := Lib.hid hsu
      have HR := Lib.hid hrow
      have HG := Lib.hid hg
      clear hsu hrow hg
      by_cases hlt : k < n
      · have cx := gsome HG.out (HC.out k (by rw [HL.out]; exact hlt))
        obtain ⟨x, hx⟩ : ∃ x, c.st.getD k 0 = x := ⟨_, rfl⟩
        rw [hx] at cx
        have hm : n ≤ 9223372036854775807 := by have := HM.out; rw [HL.out] at this; exact this
        have r0 := HR.out.cell 0 rfl
        have r1 := HR.out.cell 1 rfl
        have rf := HR.out.frozen 0
        have HX := Lib.hid hx
        clear hx
        go_wp2_with fail
        refine (K.out _ _ x _ _ (new_cell _ _ _ 0 _ _ rfl rfl)).mono ?_
        rintro e w2 ⟨rfl, hg2⟩
        have HR2 := Lib.hid (HR.out.later (off_put hg2))
        have HG2 := Lib.hid (gtrans HG.out (off_put hg2))
        clear hg2 r0 r1 rf cx
        cases hb : bt x (lo c.st k) (c.f - 1) with
        | false =>
          have HV := Lib.hid (HN.out (fun h => by
            have := h.2 k (by rw [HL.out]; exact hlt)
            rw [sg, HX.out] at this
            rw [(bt_iff _ _ _).2 this] at hb
            cases hb))
          clear hb
          go_wp2_with fail
          go_ret
          exact ⟨ret1 HV.out.symm, HG2.out⟩
        | true =>
          have hsg : sg c.f c.st k := by rw [sg, HX.out]; exact (bt_iff _ _ _).1 hb
          have HS' := Lib.hid (su_on HS.out hsg)
          have hp := su_pos HS'.out k (by omega)
          rw [HX.out] at hp
          have hlo : lo c.st (k + 1) = x + 1 := by rw [lo_succ, HX.out]
          have HLo := Lib.hid hlo
          have r0 := HR2.out.cell 0 rfl
          have r1 := HR2.out.cell 1 rfl
          have rf := HR2.out.frozen 0
          clear hb hsg hlo
          go_wp2_with fail
          go_roundw
          case rel =>
            refine ⟨k + 1, by rw [HL.out]; omega, by go_num, HS'.out, ?_, HG2.out.setCell (by exact HG1.out.size) _⟩
            rw [HLo.out]
            exact HR2.out.set 0 _
          case measure => simp [intOf]; omega
      · obtain rfl : k = n := by omega
        have HV := Lib.hid (HY.out ⟨by have := HB.out; omega, by rw [HL.out]; exact HS.out⟩)
        go_wp2_with fail
        go_ret
        exact ⟨ret1 HV.out.symm, HG.out⟩

end Go.Proofs.YtpkjbcgmhkkfiaaGreatDoor.Conf

/- Whether a configuration's times and windows may be, by the program. No condition but those that each theorem states. -/
namespace Go.Proofs.YtpkjbcgmhkkfiaaGreatDoor.Conf
open Go.ChangeShapes Go.WideShapes Go.ChangeAt Go.RowKit
open Go.Proofs.YtpkjbcgmhkkfiaaGreatDoor.Divs Go.Proofs.YtpkjbcgmhkkfiaaGreatDoor.Grow Go.Proofs.YtpkjbcgmhkkfiaaGreatDoor.Zone
open Go.Proofs.YtpkjbcgmhkkfiaaGreatDoor.By (Sk SL)
open Go.Proofs.YtpkjbcgmhkkfiaaGreatDoor.Each
open Go.Proofs.YtpkjbcgmhkkfiaaGreatDoor.Zo Go.Proofs.YtpkjbcgmhkkfiaaGreatDoor.Su Go.Proofs.YtpkjbcgmhkkfiaaGreatDoor.Cf

theorem min_three (x y z : Int) (W : World) : (Builtin.min_ #[3, 3, 3] 3 #[.int .i64 x, .int .i64 y, .int .i64 z]).run Tryz.prog W = .ok (.int .i64 (min (min x y) z)) W := by
  rw [run_min_int3]
  have : (if z < (if y < x then y else x) then z else (if y < x then y else x)) = min (min x y) z := by
    split <;> split at * <;> omega
  rw [this]

set_option maxHeartbeats 2000000 in
theorem times_any (c : Cg) (u v : Value) (w : World) : Calls Tryz.prog 53 #[.agg (cc c u v)] w fun e w' => e = .returned (.int .i64 (if ti c = true then 0 else 102)) ∧ Later w w' := by
  obtain ⟨N, hN⟩ : ∃ N : Int, N = if ti c = true then 0 else 102 := ⟨_, rfl⟩
  rw [← hN]
  obtain ⟨B1, e1⟩ : ∃ b, (bt c.t 1 60 && (bt c.l 1 60 && (bt c.o 1 60 && (bt c.d 1 60 && bt c.c 1 60)))) = b := ⟨_, rfl⟩
  obtain ⟨B2, e2⟩ : ∃ b, bt c.h 0 60 = b := ⟨_, rfl⟩
  obtain ⟨B3, e3⟩ : ∃ b, (bt c.r 1 300 && bt c.q 1 300) = b := ⟨_, rfl⟩
  obtain ⟨B4, e4⟩ : ∃ b, bt c.e 1 (min (min c.d c.r) c.q) = b := ⟨_, rfl⟩
  have HN : Hid (N = if (B1 && (B2 && (B3 && B4))) = true then 0 else 102) := Lib.hid (by rw [hN]; unfold ti; rw [e1, e2, e3, e4])
  have E1 := Lib.hid e1
  have E2 := Lib.hid e2
  have E3 := Lib.hid e3
  have E4 := Lib.hid e4
  clear hN e1 e2 e3 e4
  have K1 := Lib.hid (fun a b x g W h => hold_one a b x g W h)
  have K2 := Lib.hid (fun a b x y g W h h1 => hold_two a b x y g W h h1)
  have K5 := Lib.hid (fun a b x y z s t g W h h1 h2 h3 h4 => hold_five a b x y z s t g W h h1 h2 h3 h4)
  obtain ⟨C, hC⟩ : ∃ C, C = cc c u v := ⟨_, rfl⟩
  rw [← hC]
  have f4 : C[4]? = some (.int .i64 c.t) := by rw [hC]; rfl
  have f5 : C[5]? = some (.int .i64 c.l) := by rw [hC]; rfl
  have f6 : C[6]? = some (.int .i64 c.o) := by rw [hC]; rfl
  have f7 : C[7]? = some (.int .i64 c.d) := by rw [hC]; rfl
  have f8 : C[8]? = some (.int .i64 c.e) := by rw [hC]; rfl
  have f9 : C[9]? = some (.int .i64 c.c) := by rw [hC]; rfl
  have f10 : C[10]? = some (.int .i64 c.h) := by rw [hC]; rfl
  have f11 : C[11]? = some (.int .i64 c.r) := by rw [hC]; rfl
  have f12 : C[12]? = some (.int .i64 c.q) := by rw [hC]; rfl
  clear hC
  obtain ⟨M, hM⟩ : ∃ M, min (min c.d c.r) c.q = M := ⟨_, rfl⟩
  have mn : ∀ W : World, (Builtin.min_ #[3, 3, 3] 3 #[.int .i64 c.d, .int .i64 c.r, .int .i64 c.q]).run Tryz.prog W = .ok (.int .i64 M) W := by
    intro W
    rw [min_three, hM]
  rw [hM] at E4
  clear hM
  have AA := Lib.hid (At.new w C 33)
  obtain ⟨T, hT⟩ : ∃ T : Array Value, T = #[.int .i64 c.t, .int .i64 c.l, .int .i64 c.o, .int .i64 c.d, .int .i64 c.e, .int .i64 c.c, .int .i64 c.h] := ⟨_, rfl⟩
  have AT := Lib.hid (At.new (w.alloc (.cells C 33)) T 24)
  have A1 := Lib.hid (At.new ((w.alloc (.cells C 33)).alloc (.cells T 24)) #[.int .i64 1, .int .i64 60] 106)
  have A2 := Lib.hid (At.new (((w.alloc (.cells C 33)).alloc (.cells T 24)).alloc (.cells #[.int .i64 1, .int .i64 60] 106)) #[.int .i64 0, .int .i64 60] 106)
  have A3 := Lib.hid (At.new ((((w.alloc (.cells C 33)).alloc (.cells T 24)).alloc (.cells #[.int .i64 1, .int .i64 60] 106)).alloc (.cells #[.int .i64 0, .int .i64 60] 106)) #[.int .i64 1, .int .i64 300] 106)
  have A4 := Lib.hid (At.new (((((w.alloc (.cells C 33)).alloc (.cells T 24)).alloc (.cells #[.int .i64 1, .int .i64 60] 106)).alloc (.cells #[.int .i64 0, .int .i64 60] 106)).alloc (.cells #[.int .i64 1, .int .i64 300] 106)) #[.int .i64 1, .int .i64 M] 106)
  subst hT
  simp only [World.size_alloc] at AT A1 A2 A3 A4
  have F8 := Lib.hid f8
  have F10 := Lib.hid f10
  have F11 := Lib.hid f11
  have F12 := Lib.hid f12
  go_enter Tryz.func53, Tryz.ntmps53
  go_wp2_with fail
  refine (K5.out _ _ c.t c.l c.o c.d c.c _ _ (new_cell _ _ _ 0 _ _ (by simp) rfl) (new_cell _ _ _ 1 _ _ (by simp) rfl) (new_cell _ _ _ 2 _ _ (by simp) rfl) (new_cell _ _ _ 3 _ _ (by simp) rfl) (new_cell _ _ _ 4 _ _ (by simp) rfl)).mono ?_
  rintro e w1 ⟨rfl, hg1⟩
  rw [E1.out]
  clear mn f4 f5 f6 f7 f8 f9 f10 f11 f12
  have HG1 := Lib.hid (off_put hg1)
  clear hg1
  have HW := Lib.hid (off_put (off_put (off_put (off_put (off_put (off_put HG1.out))))))
  cases B1 with
  | false =>
    have HV : Hid (N = 102) := Lib.hid (by rw [HN.out]; rfl)
    go_wp2_with fail
    go_ret
    exact ⟨ret1 HV.out.symm, HW.out⟩
  | true =>
    have a0 := A2.out.put (.cells #[.int .i64 1, .int .i64 300] 106)
    have a1 := (a0.put (.cells #[.int .i64 1, .int .i64 M] 106)).later HG1.out
    have c1 := a1 0 _ rfl
    have c2 := a1 1 _ rfl
    have t1 := (((((AT.out.put (.cells #[.int .i64 1, .int .i64 60] 106)).put (.cells #[.int .i64 0, .int .i64 60] 106)).put (.cells #[.int .i64 1, .int .i64 300] 106)).put (.cells #[.int .i64 1, .int .i64 M] 106)).later HG1.out)
    have HT := Lib.hid t1
    have c3 := t1 6 _ rfl
    clear a0 a1 t1
    go_wp2_with fail
    refine (K1.out _ _ c.h _ _ (new_cell _ _ _ 0 _ _ (by simp) rfl)).mono ?_
    rintro e w2 ⟨rfl, hg2⟩
    rw [E2.out]
    clear c1 c2 c3
    have HG2 := Lib.hid (off_put hg2)
    clear hg2
    cases B2 with
    | false =>
      have HV : Hid (N = 102) := Lib.hid (by rw [HN.out]; rfl)
      go_wp2_with fail
      go_ret
      exact ⟨ret1 HV.out.symm, gtrans HW.out HG2.out⟩
    | true =>
      have a1 := (A3.out.put (.cells #[.int .i64 1, .int .i64 M] 106)).later (gtrans HG1.out HG2.out)
      have c1 := a1 0 _ rfl
      have c2 := a1 1 _ rfl
      have hx := (AA.out.later (gtrans (((((Later.refl _).put _).put _).put _).put _) (gtrans ((Later.refl _).put _) (gtrans HG1.out HG2.out))))
      have c3 := hx 11 _ F11.out
      have c4 := hx 12 _ F12.out
      clear a1 hx
      go_wp2_with fail
      refine (K2.out _ _ c.r c.q _ _ (new_cell _ _ _ 0 _ _ (by simp) rfl) (new_cell _ _ _ 1 _ _ (by simp) rfl)).mono ?_
      rintro e w3 ⟨rfl, hg3⟩
      rw [E3.out]
      clear c1 c2 c3 c4
      have HG3 := Lib.hid (off_put hg3)
      clear hg3
      cases B3 with
      | false =>
        have HV : Hid (N = 102) := Lib.hid (by rw [HN.out]; rfl)
        go_wp2_with fail
        go_ret
        exact ⟨ret1 HV.out.symm, gtrans HW.out (gtrans HG2.out HG3.out)⟩
      | true =>
        have a1 := A4.out.later (gtrans HG1.out (gtrans HG2.out HG3.out))
        have c1 := a1 0 _ rfl
        have c2 := a1 1 _ rfl
        have c3 := HT.out.later (gtrans HG2.out HG3.out) 4 _ rfl
        clear a1
        go_wp2_with fail
        refine (K1.out _ _ c.e _ _ (new_cell _ _ _ 0 _ _ (by simp) rfl)).mono ?_
        rintro e w4 ⟨rfl, hg4⟩
        rw [E4.out]
        clear c1 c2 c3
        have HG4 := Lib.hid (off_put hg4)
        clear hg4
        cases B4 with
        | false =>
          have HV : Hid (N = 102) := Lib.hid (by rw [HN.out]; rfl)
          go_wp2_with fail
          go_ret
          exact ⟨ret1 HV.out.symm, gtrans HW.out (gtrans HG2.out (gtrans HG3.out HG4.out))⟩
        | true =>
          have HV : Hid (N = 0) := Lib.hid (by rw [HN.out]; rfl)
          go_wp2_with fail
          go_ret
          exact ⟨ret1 HV.out.symm, gtrans HW.out (gtrans HG2.out (gtrans HG3.out HG4.out))⟩

end Go.Proofs.YtpkjbcgmhkkfiaaGreatDoor.Conf

/- Whether a configuration's windows may be, and whether a configuration may be, by the program. No condition but those that each theorem states. -/
namespace Go.Proofs.YtpkjbcgmhkkfiaaGreatDoor.Conf
open Go.ChangeShapes Go.WideShapes Go.ChangeAt Go.RowKit
open Go.Proofs.YtpkjbcgmhkkfiaaGreatDoor.Divs Go.Proofs.YtpkjbcgmhkkfiaaGreatDoor.Grow Go.Proofs.YtpkjbcgmhkkfiaaGreatDoor.Zone
open Go.Proofs.YtpkjbcgmhkkfiaaGreatDoor.By (Sk SL)
open Go.Proofs.YtpkjbcgmhkkfiaaGreatDoor.Each
open Go.Proofs.YtpkjbcgmhkkfiaaGreatDoor.Zo Go.Proofs.YtpkjbcgmhkkfiaaGreatDoor.Su Go.Proofs.YtpkjbcgmhkkfiaaGreatDoor.Cf

/-- A window is loaded whole. -/
theorem load_win {ops : Array Oper} {rest : List Oper} {o : Oper} {a : Act} {W : World} {Q : Exit → Act → World → Prop} (y : Wn) (hgd : o.guard = none) (x : Operand) (ho : o.op = .load 58 x) (B off : Nat) (hx : a.eval x = .pointer (some ⟨B, off, none⟩)) (h : W.rangeAt B off (wc y)) (hK : wpList Tryz.prog ops Q rest (a.put o.dst (.agg #[.int .i64 y.k, .int .i64 y.m, .int .i64 y.p, .int .i64 y.a, .int .i64 y.h, .int .i64 y.u, .int .i64 y.l])) W) : wpList Tryz.prog ops Q (o :: rest) a W :=
  wpList_load_mid (P := Tryz.prog) hgd 58 x ho B off hx (wc y) _ h Tryz.underlying58 rfl (by kernel_rfl) hK

/-- The first k windows may be. -/
def WRel (xs : List Wn) (w : World) (i : Value) (wr : World) : Prop := ∃ k : Nat, k ≤ xs.length ∧ i = .int .i64 (k : Int) ∧ (∀ j x, j < k → xs[j]? = some x → wo x = true) ∧ Later w wr

theorem wa_no {xs : List Wn} {k : Nat} {x : Wn} (h : xs[k]? = some x) (hx : wo x = false) : wa xs = false := by
  unfold wa
  rw [List.all_eq_false]
  exact ⟨x, List.mem_of_getElem? h, by rw [hx]; simp⟩

theorem wa_yes {xs : List Wn} (h : ∀ j x, j < xs.length → xs[j]? = some x → wo x = true) : wa xs = true := by
  unfold wa
  rw [List.all_eq_true]
  intro x hx
  obtain ⟨i, hi⟩ := List.mem_iff_getElem?.1 hx
  exact h i x (List.getElem?_eq_some_iff.1 hi).1 hi

set_option maxHeartbeats 2000000 in
theorem windows_any (c : Cg) (u v : Value) (w : World) (hv : Wk w v c.ws) : Calls Tryz.prog 57 #[.agg (cc c u v)] w fun e w' => e = .returned (.int .i64 (if wa c.ws = true then 0 else 104)) ∧ Later w w' := by
  obtain ⟨N, hN⟩ : ∃ N : Int, N = if wa c.ws = true then 0 else 104 := ⟨_, rfl⟩
  rw [← hN]
  have HN := Lib.hid hN
  clear hN
  have K := Lib.hid (fun x W => window_any x W)
  obtain ⟨C, hC⟩ : ∃ C, C = cc c u v := ⟨_, rfl⟩
  rw [← hC]
  have f36 : C[36]? = some v := by rw [hC]; rfl
  clear hC
  have HG0 := Lib.hid ((Later.refl w).alloc C 33)
  rcases Nat.eq_zero_or_pos c.ws.length with h0 | h0
  · have HV : Hid (N = 0) := Lib.hid (by rw [HN.out, List.length_eq_zero_iff.1 h0]; rfl)
    obtain ⟨ad, cap, rfl, hm⟩ := hv.len
    rw [h0] at f36
    clear hv h0 hm
    go_enter Tryz.func57, Tryz.ntmps57
    go_wp2_with fail
    refine wp_loop_rounds 1 ?_
    rw [rounds_succ]
    go_wp2
    go_ret
    exact ⟨ret1 HV.out.symm, HG0.out⟩
  · obtain ⟨B, off, cap, rfl, hm, hB, hc⟩ := hv.has h0
    have HC := Lib.hid hc
    clear hv hc hB
    obtain ⟨xs, hxs⟩ : ∃ xs, c.ws = xs := ⟨_, rfl⟩
    rw [hxs] at HN HC hm h0 f36
    clear hxs
    obtain ⟨n, hn⟩ : ∃ n, xs.length = n := ⟨_, rfl⟩
    rw [hn] at h0 hm f36
    have HL := Lib.hid hn
    clear hn
    have ad : ∀ j, (⟨B, off, none⟩ : Addr).add j = ⟨B, off + j, none⟩ := Addr.add_mid B off
    go_enter Tryz.func57, Tryz.ntmps57
    go_wp2_with fail
    clear f36
    go_loopw [9] (fun i wr => WRel xs w i wr) (fun i _ => n - (intOf i).toNat)
    case atStart => exact ⟨0, by omega, rfl, by omega, HG0.out⟩
    case round =>
      obtain ⟨k, hk, rfl, hj, hg⟩ := hrel
      rw [HL.out] at hk
      have HG := Lib.hid hg
      clear hg
      by_cases hlt : k < n
      · obtain ⟨x, hx⟩ : ∃ x, xs[k]? = some x := ⟨_, List.getElem?_eq_getElem (by rw [HL.out]; exact hlt)⟩
        have hr := HC.out k x hx
        have HR : Hid (wr.rangeAt B (off + k * 7) (wc x)) := Lib.hid (fun j y hy => gsome HG.out (hr j y hy))
        have HJ := Lib.hid hj
        have HX := Lib.hid hx
        clear hr hj hx
        have K' := Lib.hid (fun W => K.out x W)
        unfold wc at K'
        go_wp2_with (refine load_win x rfl (.tmp 11) rfl B (off + k * 7) rfl HR.out ?_)
        refine (K'.out _).mono ?_
        rintro e w1 ⟨rfl, hg1⟩
        have HG1 := Lib.hid (gtrans HG.out (off_put hg1))
        clear hg1
        cases hb : wo x with
        | false =>
          have he : we x = 104 := by unfold we; rw [hb]; rfl
          have HV : Hid (N = 104) := Lib.hid (by rw [HN.out, wa_no HX.out hb]; rfl)
          rw [he]
          clear hb he
          go_wp2_with fail
          go_ret
          exact ⟨ret1 HV.out.symm, HG1.out⟩
        | true =>
          have he : we x = 0 := by unfold we; rw [hb]; rfl
          have HJ' : Hid (∀ j y, j < k + 1 → xs[j]? = some y → wo y = true) := Lib.hid (fun j y hj hy => by
            by_cases e : j = k
            · subst e
              rw [HX.out] at hy
              obtain rfl := Option.some.inj hy
              exact hb
            · exact HJ.out j y (by omega) hy)
          rw [he]
          clear hb he
          go_wp2_with fail
          go_roundw
          case rel => exact ⟨k + 1, by rw [HL.out]; omega, by go_num, HJ'.out, HG1.out⟩
          case measure => simp [intOf]; omega
      · obtain rfl : k = n := by omega
        have HV : Hid (N = 0) := Lib.hid (by rw [HN.out, wa_yes (fun j x hl hx => hj j x (by rw [← HL.out]; exact hl) hx)]; rfl)
        clear hj
        go_wp2_with fail
        go_ret
        exact ⟨ret1 HV.out.symm, HG.out⟩

end Go.Proofs.YtpkjbcgmhkkfiaaGreatDoor.Conf

/- Whether a configuration may be, by the program's Check. No condition. -/
namespace Go.Proofs.YtpkjbcgmhkkfiaaGreatDoor.Conf
open Go.ChangeShapes Go.WideShapes Go.ChangeAt Go.RowKit
open Go.Proofs.YtpkjbcgmhkkfiaaGreatDoor.Divs Go.Proofs.YtpkjbcgmhkkfiaaGreatDoor.Grow Go.Proofs.YtpkjbcgmhkkfiaaGreatDoor.Zone
open Go.Proofs.YtpkjbcgmhkkfiaaGreatDoor.By (Sk SL)
open Go.Proofs.YtpkjbcgmhkkfiaaGreatDoor.Each
open Go.Proofs.YtpkjbcgmhkkfiaaGreatDoor.Zo Go.Proofs.YtpkjbcgmhkkfiaaGreatDoor.Su Go.Proofs.YtpkjbcgmhkkfiaaGreatDoor.Cf

/-- The row of questions. -/
def qs : Array Value := #[.func (.func 51) #[] #[], .func (.func 52) #[] #[], .func (.func 53) #[] #[], .func (.func 54) #[] #[], .func (.func 55) #[] #[], .func (.func 56) #[] #[], .func (.func 57) #[] #[]]

theorem questions_any (w : World) : Calls Tryz.prog 30 #[] w fun e w' => ∃ g, e = .returned (.slice (some ⟨g, 0, none⟩) 7 7) ∧ At w' g qs ∧ Later w w' := by
  go_enter Tryz.func30, Tryz.ntmps30
  go_wp2
  go_ret
  exact ⟨_, rfl, At.new _ _ _, (Later.refl w).alloc _ _⟩

/-- The error of the k-th question, or 0. -/
def qe (c : Cg) : Nat → Int
  | 0 => if so c = true then 0 else 100
  | 1 => if to c = true then 0 else 101
  | 2 => if ti c = true then 0 else 102
  | 3 => ck c.z
  | 4 => sk c.s
  | 5 => if c.ws.length ≤ 16 then 0 else 103
  | 6 => if wa c.ws = true then 0 else 104
  | _ => 0

theorem q0 {c : Cg} (h : qe c 0 = 0) : so c = true := by
  by_cases e : so c = true
  · exact e
  · simp [qe, e] at h

theorem n0 {c : Cg} (h : qe c 0 ≠ 0) : ¬ so c = true ∧ qe c 0 = 100 := by
  by_cases e : so c = true
  · simp [qe, e] at h
  · exact ⟨e, by simp [qe, e]⟩

theorem q1 {c : Cg} (h : qe c 1 = 0) : to c = true := by
  by_cases e : to c = true
  · exact e
  · simp [qe, e] at h

theorem n1 {c : Cg} (h : qe c 1 ≠ 0) : ¬ to c = true ∧ qe c 1 = 101 := by
  by_cases e : to c = true
  · simp [qe, e] at h
  · exact ⟨e, by simp [qe, e]⟩

theorem q2 {c : Cg} (h : qe c 2 = 0) : ti c = true := by
  by_cases e : ti c = true
  · exact e
  · simp [qe, e] at h

theorem n2 {c : Cg} (h : qe c 2 ≠ 0) : ¬ ti c = true ∧ qe c 2 = 102 := by
  by_cases e : ti c = true
  · simp [qe, e] at h
  · exact ⟨e, by simp [qe, e]⟩

theorem q3 {c : Cg} (h : qe c 3 = 0) : ck c.z = 0 := h

theorem n3 {c : Cg} (h : qe c 3 ≠ 0) : ¬ ck c.z = 0 := h

theorem q4 {c : Cg} (h : qe c 4 = 0) : sk c.s = 0 := h

theorem n4 {c : Cg} (h : qe c 4 ≠ 0) : ¬ sk c.s = 0 := h

theorem q5 {c : Cg} (h : qe c 5 = 0) : c.ws.length ≤ 16 := by
  by_cases e : c.ws.length ≤ 16
  · exact e
  · simp [qe, e] at h

theorem n5 {c : Cg} (h : qe c 5 ≠ 0) : ¬ c.ws.length ≤ 16 ∧ qe c 5 = 103 := by
  by_cases e : c.ws.length ≤ 16
  · simp [qe, e] at h
  · exact ⟨e, by simp [qe, e]⟩

theorem q6 {c : Cg} (h : qe c 6 = 0) : wa c.ws = true := by
  by_cases e : wa c.ws = true
  · exact e
  · simp [qe, e] at h

theorem n6 {c : Cg} (h : qe c 6 ≠ 0) : ¬ wa c.ws = true ∧ qe c 6 = 104 := by
  by_cases e : wa c.ws = true
  · simp [qe, e] at h
  · exact ⟨e, by simp [qe, e]⟩

theorem ce_at (c : Cg) (k : Nat) (hk : k < 7) (h : ∀ j, j < k → qe c j = 0) (hn : qe c k ≠ 0) : ce c = qe c k := by
  unfold ce
  match k with
  | 0 =>
    rw [if_neg (n0 hn).1, (n0 hn).2]
  | 1 =>
    rw [if_pos (q0 (h 0 (by omega))), if_neg (n1 hn).1, (n1 hn).2]
  | 2 =>
    rw [if_pos (q0 (h 0 (by omega))), if_pos (q1 (h 1 (by omega))), if_neg (n2 hn).1, (n2 hn).2]
  | 3 =>
    rw [if_pos (q0 (h 0 (by omega))), if_pos (q1 (h 1 (by omega))), if_pos (q2 (h 2 (by omega))), if_neg (n3 hn)]
    rfl
  | 4 =>
    rw [if_pos (q0 (h 0 (by omega))), if_pos (q1 (h 1 (by omega))), if_pos (q2 (h 2 (by omega))), if_pos (q3 (h 3 (by omega))), if_neg (n4 hn)]
    rfl
  | 5 =>
    rw [if_pos (q0 (h 0 (by omega))), if_pos (q1 (h 1 (by omega))), if_pos (q2 (h 2 (by omega))), if_pos (q3 (h 3 (by omega))), if_pos (q4 (h 4 (by omega))), if_neg (n5 hn).1, (n5 hn).2]
  | 6 =>
    rw [if_pos (q0 (h 0 (by omega))), if_pos (q1 (h 1 (by omega))), if_pos (q2 (h 2 (by omega))), if_pos (q3 (h 3 (by omega))), if_pos (q4 (h 4 (by omega))), if_pos (q5 (h 5 (by omega))), if_neg (n6 hn).1, (n6 hn).2]
  | _ + 7 => omega

theorem ce_zero (c : Cg) (h : ∀ j, j < 7 → qe c j = 0) : ce c = 0 := by
  unfold ce
  rw [if_pos (q0 (h 0 (by omega))), if_pos (q1 (h 1 (by omega))), if_pos (q2 (h 2 (by omega))), if_pos (q3 (h 3 (by omega))), if_pos (q4 (h 4 (by omega))), if_pos (q5 (h 5 (by omega))), if_pos (q6 (h 6 (by omega)))]

theorem so_floors {c : Cg} (h : so c = true) : 2 ≤ c.f ∧ c.f ≤ 64 := by
  unfold so at h
  rw [Bool.and_eq_true] at h
  exact (bt_iff _ _ _).1 h.1

def QRel (c : Cg) (w : World) (e i : Value) (wr : World) : Prop := ∃ k : Nat, k ≤ 7 ∧ i = .int .i64 (k : Int) ∧ e = .int .i64 0 ∧ (∀ j, j < k → qe c j = 0) ∧ Later w wr

set_option maxHeartbeats 4000000 in
theorem check_any (c : Cg) (u v : Value) (w : World) (hu : Sk .i64 w u c.st) (hv : Wk w v c.ws) : Calls Tryz.prog 14 #[.agg (cc c u v)] w fun e w' => e = .returned (.int .i64 (ce c)) ∧ Later w w' := by
  have HU := Lib.hid hu
  have HV := Lib.hid hv
  clear hu hv
  have QQ := Lib.hid questions_any
  obtain ⟨C, hC⟩ : ∃ C, C = cc c u v := ⟨_, rfl⟩
  rw [← hC]
  have K0 : Hid (∀ W, Later w W → (∀ j, j < 0 → qe c j = 0) → Calls Tryz.prog 51 #[.agg C] W fun e w' => e = .returned (.int .i64 (qe c 0)) ∧ Later W w') := Lib.hid (fun W g h => by rw [hC]; exact size_any c u v W)
  have K1 : Hid (∀ W, Later w W → (∀ j, j < 1 → qe c j = 0) → Calls Tryz.prog 52 #[.agg C] W fun e w' => e = .returned (.int .i64 (qe c 1)) ∧ Later W w') := Lib.hid (fun W g h => by rw [hC]; exact stops_any c u v W (HU.out.later g) (so_floors (q0 (h 0 (by omega)))).1 (so_floors (q0 (h 0 (by omega)))).2)
  have K2 : Hid (∀ W, Later w W → (∀ j, j < 2 → qe c j = 0) → Calls Tryz.prog 53 #[.agg C] W fun e w' => e = .returned (.int .i64 (qe c 2)) ∧ Later W w') := Lib.hid (fun W g h => by rw [hC]; exact times_any c u v W)
  have K3 : Hid (∀ W, Later w W → (∀ j, j < 3 → qe c j = 0) → Calls Tryz.prog 54 #[.agg C] W fun e w' => e = .returned (.int .i64 (qe c 3)) ∧ Later W w') := Lib.hid (fun W g h => by rw [hC]; exact zone_any c u v W)
  have K4 : Hid (∀ W, Later w W → (∀ j, j < 4 → qe c j = 0) → Calls Tryz.prog 55 #[.agg C] W fun e w' => e = .returned (.int .i64 (qe c 4)) ∧ Later W w') := Lib.hid (fun W g h => by rw [hC]; exact sun_any c u v W)
  have K5 : Hid (∀ W, Later w W → (∀ j, j < 5 → qe c j = 0) → Calls Tryz.prog 56 #[.agg C] W fun e w' => e = .returned (.int .i64 (qe c 5)) ∧ Later W w') := Lib.hid (fun W g h => by rw [hC]; exact many_any c u v W (HV.out.later g))
  have K6 : Hid (∀ W, Later w W → (∀ j, j < 6 → qe c j = 0) → Calls Tryz.prog 57 #[.agg C] W fun e w' => e = .returned (.int .i64 (qe c 6)) ∧ Later W w') := Lib.hid (fun W g h => by rw [hC]; exact windows_any c u v W (HV.out.later g))
  have HZ : Hid (C.size = 37) := Lib.hid (by rw [hC]; rfl)
  have HCC := Lib.hid hC
  clear hC
  have AC := Lib.hid (At.new w C 33)
  obtain ⟨M, hM⟩ : ∃ M, M = ce c := ⟨_, rfl⟩
  rw [← hM]
  have HM := Lib.hid hM
  clear hM
  go_enter Tryz.func14, Tryz.ntmps14
  go_wp2_with fail
  go_step3
  go_wp2_with fail
  go_step3
  go_wp2_with fail
  refine (QQ.out _).mono ?_
  rintro e w1 ⟨g, rfl, hq, hg1⟩
  have HQ := Lib.hid hq
  have HG1 := Lib.hid (off_put hg1)
  have HA1 := Lib.hid (AC.out.later hg1)
  clear hg1 hq
  go_wp2_with fail
  go_loopw [3, 8] (fun e i wr => QRel c w1 e i wr) (fun _ i _ => 7 - (intOf i).toNat)
  case atStart => exact ⟨0, by omega, rfl, rfl, by omega, Later.refl _⟩
  case round =>
    obtain ⟨k, hk, rfl, rfl, hj, hg⟩ := hrel
    have HG := Lib.hid hg
    have HJ := Lib.hid hj
    have HW := Lib.hid (gtrans HG1.out hg)
    clear hg hj
    obtain rfl | rfl | rfl | rfl | rfl | rfl | rfl | rfl : k = 0 ∨ k = 1 ∨ k = 2 ∨ k = 3 ∨ k = 4 ∨ k = 5 ∨ k = 6 ∨ k = 7 := by omega
    · have hc : wr.cell? ⟨g, 0, none⟩ = some (.func (.func 51) #[] #[]) := HQ.out.later HG.out 0 _ rfl
      clear hk
      go_wp2_with (refine load_at C HZ.out rfl (.tmp 1) rfl w.heap.size rfl ((HA1.out.later HG.out).put _) ?_)
      refine (K0.out _ (HW.out.put _) HJ.out).mono ?_
      rintro e w2 ⟨rfl, hg2⟩
      clear hc
      have HG2 := Lib.hid (gtrans HG.out (off_put hg2))
      clear hg2
      by_cases hz : qe c 0 = 0
      · have HJ' : Hid (∀ j, j < 1 → qe c j = 0) := Lib.hid (fun j h => by
          by_cases e : j = 0
          · rw [e]; exact hz
          · exact HJ.out j (by omega))
        rw [hz]
        clear hz
        go_wp2_with fail
        go_roundw
        case rel => exact ⟨1, by omega, by go_num, rfl, HJ'.out, HG2.out⟩
        case measure => simp [intOf]
      · have HE : Hid (M = qe c 0) := Lib.hid (by rw [HM.out]; exact ce_at c 0 (by omega) HJ.out hz)
        have tt : (qe c 0 != 0) = true := by simpa using hz
        generalize qe c 0 = E at *
        clear hz
        go_wp2_with fail
        rw [Exit.noGoto_ret]
        go_ret
        exact ⟨ret1 HE.out.symm, gtrans HG1.out HG2.out⟩
    · have hc : wr.cell? ⟨g, 1, none⟩ = some (.func (.func 52) #[] #[]) := HQ.out.later HG.out 1 _ rfl
      clear hk
      go_wp2_with (refine load_at C HZ.out rfl (.tmp 1) rfl w.heap.size rfl ((HA1.out.later HG.out).put _) ?_)
      refine (K1.out _ (HW.out.put _) HJ.out).mono ?_
      rintro e w2 ⟨rfl, hg2⟩
      clear hc
      have HG2 := Lib.hid (gtrans HG.out (off_put hg2))
      clear hg2
      by_cases hz : qe c 1 = 0
      · have HJ' : Hid (∀ j, j < 2 → qe c j = 0) := Lib.hid (fun j h => by
          by_cases e : j = 1
          · rw [e]; exact hz
          · exact HJ.out j (by omega))
        rw [hz]
        clear hz
        go_wp2_with fail
        go_roundw
        case rel => exact ⟨2, by omega, by go_num, rfl, HJ'.out, HG2.out⟩
        case measure => simp [intOf]
      · have HE : Hid (M = qe c 1) := Lib.hid (by rw [HM.out]; exact ce_at c 1 (by omega) HJ.out hz)
        have tt : (qe c 1 != 0) = true := by simpa using hz
        generalize qe c 1 = E at *
        clear hz
        go_wp2_with fail
        rw [Exit.noGoto_ret]
        go_ret
        exact ⟨ret1 HE.out.symm, gtrans HG1.out HG2.out⟩
    · have hc : wr.cell? ⟨g, 2, none⟩ = some (.func (.func 53) #[] #[]) := HQ.out.later HG.out 2 _ rfl
      clear hk
      go_wp2_with (refine load_at C HZ.out rfl (.tmp 1) rfl w.heap.size rfl ((HA1.out.later HG.out).put _) ?_)
      refine (K2.out _ (HW.out.put _) HJ.out).mono ?_
      rintro e w2 ⟨rfl, hg2⟩
      clear hc
      have HG2 := Lib.hid (gtrans HG.out (off_put hg2))
      clear hg2
      by_cases hz : qe c 2 = 0
      · have HJ' : Hid (∀ j, j < 3 → qe c j = 0) := Lib.hid (fun j h => by
          by_cases e : j = 2
          · rw [e]; exact hz
          · exact HJ.out j (by omega))
        rw [hz]
        clear hz
        go_wp2_with fail
        go_roundw
        case rel => exact ⟨3, by omega, by go_num, rfl, HJ'.out, HG2.out⟩
        case measure => simp [intOf]
      · have HE : Hid (M = qe c 2) := Lib.hid (by rw [HM.out]; exact ce_at c 2 (by omega) HJ.out hz)
        have tt : (qe c 2 != 0) = true := by simpa using hz
        generalize qe c 2 = E at *
        clear hz
        go_wp2_with fail
        rw [Exit.noGoto_ret]
        go_ret
        exact ⟨ret1 HE.out.symm, gtrans HG1.out HG2.out⟩
    · have hc : wr.cell? ⟨g, 3, none⟩ = some (.func (.func 54) #[] #[]) := HQ.out.later HG.out 3 _ rfl
      clear hk
      go_wp2_with (refine load_at C HZ.out rfl (.tmp 1) rfl w.heap.size rfl ((HA1.out.later HG.out).put _) ?_)
      refine (K3.out _ (HW.out.put _) HJ.out).mono ?_
      rintro e w2 ⟨rfl, hg2⟩
      clear hc
      have HG2 := Lib.hid (gtrans HG.out (off_put hg2))
      clear hg2
      by_cases hz : qe c 3 = 0
      · have HJ' : Hid (∀ j, j < 4 → qe c j = 0) := Lib.hid (fun j h => by
          by_cases e : j = 3
          · rw [e]; exact hz
          · exact HJ.out j (by omega))
        rw [hz]
        clear hz
        go_wp2_with fail
        go_roundw
        case rel => exact ⟨4, by omega, by go_num, rfl, HJ'.out, HG2.out⟩
        case measure => simp [intOf]
      · have HE : Hid (M = qe c 3) := Lib.hid (by rw [HM.out]; exact ce_at c 3 (by omega) HJ.out hz)
        have tt : (qe c 3 != 0) = true := by simpa using hz
        generalize qe c 3 = E at *
        clear hz
        go_wp2_with fail
        rw [Exit.noGoto_ret]
        go_ret
        exact ⟨ret1 HE.out.symm, gtrans HG1.out HG2.out⟩
    · have hc : wr.cell? ⟨g, 4, none⟩ = some (.func (.func 55) #[] #[]) := HQ.out.later HG.out 4 _ rfl
      clear hk
      go_wp2_with (refine load_at C HZ.out rfl (.tmp 1) rfl w.heap.size rfl ((HA1.out.later HG.out).put _) ?_)
      refine (K4.out _ (HW.out.put _) HJ.out).mono ?_
      rintro e w2 ⟨rfl, hg2⟩
      clear hc
      have HG2 := Lib.hid (gtrans HG.out (off_put hg2))
      clear hg2
      by_cases hz : qe c 4 = 0
      · have HJ' : Hid (∀ j, j < 5 → qe c j = 0) := Lib.hid (fun j h => by
          by_cases e : j = 4
          · rw [e]; exact hz
          · exact HJ.out j (by omega))
        rw [hz]
        clear hz
        go_wp2_with fail
        go_roundw
        case rel => exact ⟨5, by omega, by go_num, rfl, HJ'.out, HG2.out⟩
        case measure => simp [intOf]
      · have HE : Hid (M = qe c 4) := Lib.hid (by rw [HM.out]; exact ce_at c 4 (by omega) HJ.out hz)
        have tt : (qe c 4 != 0) = true := by simpa using hz
        generalize qe c 4 = E at *
        clear hz
        go_wp2_with fail
        rw [Exit.noGoto_ret]
        go_ret
        exact ⟨ret1 HE.out.symm, gtrans HG1.out HG2.out⟩
    · have hc : wr.cell? ⟨g, 5, none⟩ = some (.func (.func 56) #[] #[]) := HQ.out.later HG.out 5 _ rfl
      clear hk
      go_wp2_with (refine load_at C HZ.out rfl (.tmp 1) rfl w.heap.size rfl ((HA1.out.later HG.out).put _) ?_)
      refine (K5.out _ (HW.out.put _) HJ.out).mono ?_
      rintro e w2 ⟨rfl, hg2⟩
      clear hc
      have HG2 := Lib.hid (gtrans HG.out (off_put hg2))
      clear hg2
      by_cases hz : qe c 5 = 0
      · have HJ' : Hid (∀ j, j < 6 → qe c j = 0) := Lib.hid (fun j h => by
          by_cases e : j = 5
          · rw [e]; exact hz
          · exact HJ.out j (by omega))
        rw [hz]
        clear hz
        go_wp2_with fail
        go_roundw
        case rel => exact ⟨6, by omega, by go_num, rfl, HJ'.out, HG2.out⟩
        case measure => simp [intOf]
      · have HE : Hid (M = qe c 5) := Lib.hid (by rw [HM.out]; exact ce_at c 5 (by omega) HJ.out hz)
        have tt : (qe c 5 != 0) = true := by simpa using hz
        generalize qe c 5 = E at *
        clear hz
        go_wp2_with fail
        rw [Exit.noGoto_ret]
        go_ret
        exact ⟨ret1 HE.out.symm, gtrans HG1.out HG2.out⟩
    · have hc : wr.cell? ⟨g, 6, none⟩ = some (.func (.func 57) #[] #[]) := HQ.out.later HG.out 6 _ rfl
      clear hk
      go_wp2_with (refine load_at C HZ.out rfl (.tmp 1) rfl w.heap.size rfl ((HA1.out.later HG.out).put _) ?_)
      refine (K6.out _ (HW.out.put _) HJ.out).mono ?_
      rintro e w2 ⟨rfl, hg2⟩
      clear hc
      have HG2 := Lib.hid (gtrans HG.out (off_put hg2))
      clear hg2
      by_cases hz : qe c 6 = 0
      · have HJ' : Hid (∀ j, j < 7 → qe c j = 0) := Lib.hid (fun j h => by
          by_cases e : j = 6
          · rw [e]; exact hz
          · exact HJ.out j (by omega))
        rw [hz]
        clear hz
        go_wp2_with fail
        go_roundw
        case rel => exact ⟨7, by omega, by go_num, rfl, HJ'.out, HG2.out⟩
        case measure => simp [intOf]
      · have HE : Hid (M = qe c 6) := Lib.hid (by rw [HM.out]; exact ce_at c 6 (by omega) HJ.out hz)
        have tt : (qe c 6 != 0) = true := by simpa using hz
        generalize qe c 6 = E at *
        clear hz
        go_wp2_with fail
        rw [Exit.noGoto_ret]
        go_ret
        exact ⟨ret1 HE.out.symm, gtrans HG1.out HG2.out⟩
    · have HE : Hid (M = 0) := Lib.hid (by rw [HM.out]; exact ce_zero c HJ.out)
      clear hk
      go_wp2_with fail
      rw [Exit.noGoto_ret]
      go_ret
      exact ⟨ret1 HE.out.symm, HW.out⟩

end Go.Proofs.YtpkjbcgmhkkfiaaGreatDoor.Conf

/- The document's answers of layer 6, call by call: whether a zone may be, a turn's instant, whether clocks are shifted, what they tell. Conditions: the numbers are ints, as each theorem says. -/
namespace Go.Proofs.YtpkjbcgmhkkfiaaGreatDoor.Zone
open Go.ChangeShapes Go.WideShapes Go.ChangeAt Go.RowKit
open Go.Proofs.YtpkjbcgmhkkfiaaGreatDoor.Divs Go.Proofs.YtpkjbcgmhkkfiaaGreatDoor.Grow
open Go.Proofs.YtpkjbcgmhkkfiaaGreatDoor.Zo

attribute [local go_sem high] equal_turn

set_option maxHeartbeats 1000000 in
theorem rturn_any (t : Tn) (w : World) : Calls Tryz.prog 47 #[.agg (tc t)] w fun e w' => e = .returned (.bool (okB t)) ∧ Later w w' := by
  have HV := Lib.hid (okB_iff t)
  have HL := Lib.hid ((Later.refl w).alloc (tc t) 26)
  unfold tc at *
  go_enter Tryz.func47, Tryz.ntmps47
  go_wp2
  all_goals
    go_ret
    refine ⟨retb ?_, HL.out⟩
    rw [Bool.eq_iff_iff, HV.out]
    simp
    omega

def dyB (d m : Int) : Bool := decide (401 ≤ d ∧ d ≤ 3651998 ∧ 0 ≤ m ∧ m ≤ 1439)

theorem dyB_iff (d m : Int) : dyB d m = true ↔ 401 ≤ d ∧ d ≤ 3651998 ∧ 0 ≤ m ∧ m ≤ 1439 := by simp [dyB]

theorem rcheck_low (z : Zn) (w : World) (h : z.b < -720 ∨ 840 < z.b ∨ z.s < 0 ∨ 120 < z.s) : Calls Tryz.prog 25 #[.agg (zc z)] w fun e w' => e = .returned (.int .i64 (ck z)) ∧ Later w w' := by
  have HL := Lib.hid ((Later.refl w).alloc (zc z) 28)
  unfold zc at *
  by_cases h1 : z.b < -720
  · have HV := Lib.hid (show 60 = ck z by unfold ck; rw [if_pos (by omega)])
    clear h
    go_enter Tryz.func25, Tryz.ntmps25
    go_wp2_with fail
    go_ret
    exact ⟨reti HV.out, HL.out⟩
  by_cases h2 : 840 < z.b
  · have HV := Lib.hid (show 60 = ck z by unfold ck; rw [if_pos (by omega)])
    clear h
    go_enter Tryz.func25, Tryz.ntmps25
    go_wp2_with fail
    go_ret
    exact ⟨reti HV.out, HL.out⟩
  by_cases h3 : z.s < 0
  · have HV := Lib.hid (show 61 = ck z by unfold ck; rw [if_neg (by omega), if_pos (by omega)])
    clear h
    go_enter Tryz.func25, Tryz.ntmps25
    go_wp2_with fail
    go_ret
    exact ⟨reti HV.out, HL.out⟩
  have h4 : 120 < z.s := by omega
  have HV := Lib.hid (show 61 = ck z by unfold ck; rw [if_neg (by omega), if_pos (by omega)])
  clear h
  go_enter Tryz.func25, Tryz.ntmps25
  go_wp2_with fail
  go_ret
  exact ⟨reti HV.out, HL.out⟩

theorem ck_zero (z : Zn) (b0 : -720 ≤ z.b) (b1 : z.b ≤ 840) (hs : z.s = 0) : ck z = if ztB z.p = true ∧ ztB z.q = true then 0 else 62 := by
  unfold ck
  rw [if_neg (by omega), if_neg (by omega)]
  have e : badB z = (!ztB z.p || !ztB z.q) := by unfold badB wrB; simp [hs]
  rw [e]
  cases ztB z.p <;> cases ztB z.q <;> simp

theorem ck_some (z : Zn) (b0 : -720 ≤ z.b) (b1 : z.b ≤ 840) (s0 : 1 ≤ z.s) (s1 : z.s ≤ 120) : ck z = if okB z.p = true ∧ okB z.q = true ∧ apB z = true then 0 else 62 := by
  unfold ck
  rw [if_neg (by omega), if_neg (by omega)]
  have hs : ¬ z.s = 0 := by omega
  have e : badB z = (!okB z.p || (!okB z.q || !apB z)) := by unfold badB wrB; simp [hs]
  rw [e]
  cases okB z.p <;> cases okB z.q <;> cases apB z <;> simp

set_option maxHeartbeats 1000000 in
theorem rcheck_zero (z : Zn) (w : World) (b0 : -720 ≤ z.b) (b1 : z.b ≤ 840) (hs : z.s = 0) : Calls Tryz.prog 25 #[.agg (zc z)] w fun e w' => e = .returned (.int .i64 (ck z)) ∧ Later w w' := by
  have HC := Lib.hid (ck_zero z b0 b1 hs)
  have e0 : (z.s == 0) = true := by simpa using hs
  have x0 : ¬ z.s < 0 := by omega
  have x1 : ¬ 120 < z.s := by omega
  clear hs
  unfold zc at *
  go_enter Tryz.func25, Tryz.ntmps25
  go_wp2_with fail
  all_goals
    go_ret
    refine ⟨reti ?_, ((Later.refl w).alloc _ _).alloc _ _⟩
    rw [HC.out]
    try simp only [Bool.not_eq_true', Bool.not_eq_false', beq_iff_eq, beq_eq_false_iff_ne, ne_eq] at *
    first
      | (rw [if_pos ⟨by rw [ztB_iff]; omega, by rw [ztB_iff]; omega⟩])
      | (rw [if_neg (by rw [ztB_iff, ztB_iff]; omega)])

set_option maxHeartbeats 1000000 in
theorem rcheck_some (z : Zn) (w : World) (b0 : -720 ≤ z.b) (b1 : z.b ≤ 840) (s0 : 1 ≤ z.s) (s1 : z.s ≤ 120) : Calls Tryz.prog 25 #[.agg (zc z)] w fun e w' => e = .returned (.int .i64 (ck z)) ∧ Later w w' := by
  have HC := Lib.hid (ck_some z b0 b1 s0 s1)
  have HN := Lib.hid (Zat.new w z)
  have HL := Lib.hid ((((Later.refl w).alloc (zc z) 28).alloc #[.int .i64 0, .int .i64 0, .int .i64 0, .int .i64 0] 26))
  have e0 : (z.s == 0) = false := by simp; omega
  have P := Lib.hid (fun W => rturn_any z.p W)
  have Q := Lib.hid (fun W => rturn_any z.q W)
  have HP := Lib.hid (okB_iff z.p)
  have HQ := Lib.hid (okB_iff z.q)
  have HA := Lib.hid (apB_iff z)
  unfold zc at HL ⊢
  go_enter Tryz.func25, Tryz.ntmps25
  go_wp2_with fail
  refine (P.out _).mono ?_
  rintro e w1 ⟨rfl, hg1⟩
  have HG1 := Lib.hid (gtrans HL.out hg1)
  have z1 := HN.out.later (gtrans ((Later.refl _).alloc _ _) hg1)
  have HZ1 := Lib.hid z1
  obtain ⟨c0, c1, c2, c3, c4, c5, c6, c7, c8, c9⟩ := z1
  clear hg1
  go_wp2_with fail
  refine (Q.out _).mono ?_
  rintro e w2 ⟨rfl, hg2⟩
  have HG2 := Lib.hid (gtrans HG1.out hg2)
  clear c0 c1 c2 c3 c4 c5 c6 c7 c8 c9
  obtain ⟨c0, c1, c2, c3, c4, c5, c6, c7, c8, c9⟩ := HZ1.out.later hg2
  clear hg2
  cases hp : okB z.p with
  | false =>
    have HP1 := Lib.hid hp
    clear hp
    go_wp2_with fail
    all_goals
      go_ret
      refine ⟨reti ?_, HG2.out⟩
      rw [HC.out, HP1.out]
      simp
  | true =>
    have HP1 := Lib.hid hp
    obtain ⟨p1, p2, _⟩ := HP.out.1 hp
    clear hp
    cases hq : okB z.q with
    | false =>
      have HQ1 := Lib.hid hq
      clear hq
      go_wp2_with fail
      all_goals
        go_ret
        refine ⟨reti ?_, HG2.out⟩
        rw [HC.out, HQ1.out]
        simp
    | true =>
      have HQ1 := Lib.hid hq
      obtain ⟨q1, q2, _⟩ := HQ.out.1 hq
      clear hq
      by_cases hlt : z.p.m - z.q.m < 0
      all_goals
        go_wp2_with fail
        all_goals
          go_ret
          refine ⟨reti ?_, HG2.out⟩
          rw [HC.out, HP1.out, HQ1.out]
          first
            | (rw [if_pos ⟨rfl, rfl, HA.out.2 (by omega)⟩])
            | (rw [if_neg (by rintro ⟨_, _, h⟩; have := HA.out.1 h; omega)])

theorem rcheck_any (z : Zn) (w : World) : Calls Tryz.prog 25 #[.agg (zc z)] w fun e w' => e = .returned (.int .i64 (ck z)) ∧ Later w w' := by
  by_cases h : z.b < -720 ∨ 840 < z.b ∨ z.s < 0 ∨ 120 < z.s
  · exact rcheck_low z w h
  by_cases hs : z.s = 0
  · exact rcheck_zero z w (by omega) (by omega) hs
  · exact rcheck_some z w (by omega) (by omega) (by omega) (by omega)

end Go.Proofs.YtpkjbcgmhkkfiaaGreatDoor.Zone

/- The document's answers on sunsets: which tables may be, the minute of a day, its instant. Conditions: where the minute is asked, the table may be and the day has a date. -/
namespace Go.Proofs.YtpkjbcgmhkkfiaaGreatDoor.Sun
open Go.ChangeShapes Go.WideShapes Go.ChangeAt Go.RowKit
open Go.Proofs.YtpkjbcgmhkkfiaaGreatDoor.Divs Go.Proofs.YtpkjbcgmhkkfiaaGreatDoor.Grow Go.Proofs.YtpkjbcgmhkkfiaaGreatDoor.Zone
open Go.Proofs.YtpkjbcgmhkkfiaaGreatDoor.Zo Go.Proofs.YtpkjbcgmhkkfiaaGreatDoor.Su

def ERel (s : Nat → Int) (w : World) (i : Value) (wr : World) : Prop := ∃ k : Nat, k ≤ 12 ∧ i = .int .i64 (k : Int) ∧ (∀ j, j < k → 900 ≤ s j ∧ s j ≤ 1320) ∧ Later w wr

def FRel (s : Nat → Int) (w : World) (i : Value) (wr : World) : Prop := ∃ k : Nat, k ≤ 12 ∧ i = .int .i64 (k : Int) ∧ (∀ j, j < k → -120 ≤ s ((j + 1) % 12) - s j ∧ s ((j + 1) % 12) - s j ≤ 120) ∧ Later w wr

set_option maxHeartbeats 1000000 in
theorem rcheck_tab (s : Nat → Int) (w : World) : Calls Tryz.prog 26 #[.agg (sc s)] w fun e w' => e = .returned (.int .i64 (sk s)) ∧ Later w w' := by
  have HN := Lib.hid (Sat.new w s)
  have HG := Lib.hid ((Later.refl w).alloc (sc s) 30)
  unfold sc at *
  go_enter Tryz.func26, Tryz.ntmps26
  go_wp2
  go_loopw [3] (fun i wr => ERel s (w.alloc (.cells #[.int .i64 (s 0), .int .i64 (s 1), .int .i64 (s 2), .int .i64 (s 3), .int .i64 (s 4), .int .i64 (s 5), .int .i64 (s 6), .int .i64 (s 7), .int .i64 (s 8), .int .i64 (s 9), .int .i64 (s 10), .int .i64 (s 11)] 30)) i wr) (fun i _ => 12 - (intOf i).toNat)
  case atStart => exact ⟨0, by omega, rfl, by omega, Later.refl _⟩
  case round =>
    obtain ⟨k, hk, rfl, hj, hg⟩ := hrel
    have HGR := Lib.hid hg
    clear hg
    by_cases hlt : k < 12
    · have c := HN.out.later HGR.out k hlt
      by_cases h1 : s k < 900
      · have HV := Lib.hid (sk_m s k hlt (by omega))
        clear hj
        go_wp2
        go_ret
        exact ⟨reti HV.out.symm, gtrans HG.out HGR.out⟩
      by_cases h2 : s k > 1320
      · have HV := Lib.hid (sk_m s k hlt (by omega))
        clear hj
        go_wp2
        go_ret
        exact ⟨reti HV.out.symm, gtrans HG.out HGR.out⟩
      have HJ : Hid (∀ j, j < k + 1 → 900 ≤ s j ∧ s j ≤ 1320) := Lib.hid (fun j h => by
        by_cases e : j = k
        · rw [e]; omega
        · exact hj j (by omega))
      clear hj
      go_wp2
      go_roundw
      case rel => exact ⟨k + 1, by omega, by go_num, HJ.out, HGR.out⟩
      case measure => simp [intOf]; omega
    · obtain rfl : k = 12 := by omega
      have HM : Hid (okM s) := Lib.hid hj
      clear hj hlt hk
      go_wp2
      go_loopw [4] (fun i w2 => FRel s wr i w2) (fun i _ => 12 - (intOf i).toNat)
      case atStart => exact ⟨0, by omega, rfl, by omega, Later.refl _⟩
      case round =>
        obtain ⟨k, hk, rfl, hj, hg⟩ := hrel
        have HG2 := Lib.hid (gtrans HGR.out hg)
        have HG3 := Lib.hid hg
        clear hg
        by_cases hlt : k < 12
        · have b0 := HM.out k hlt
          have b1 := HM.out ((k + 1) % 12) (by omega)
          have c0 := HN.out.later HG2.out k hlt
          obtain ⟨j, hjd⟩ : ∃ j, j = (k + 1) % 12 := ⟨_, rfl⟩
          have j12 : j < 12 := by omega
          have c1 := HN.out.later HG2.out j j12
          have HJD := Lib.hid hjd
          have e1 : IntKind.i64.wrap ((k : Int) + 1) = (k : Int) + 1 := IntWalk.i64_in _ (by omega)
          have e2 : ((k : Int) + 1).tmod 12 = (j : Int) := by rw [Int.tmod_eq_emod_of_nonneg (by omega)]; omega
          have e3 : IntKind.i64.wrap (s j - s k) = s j - s k := by rw [hjd]; exact IntWalk.i64_in _ (by omega)
          clear hjd b0 b1
          go_wp2
          go_quiet (fail)
          clear c0 c1 e1 e2 e3
          have hjd := HJD.out
          subst hjd
          generalize hx : s ((k + 1) % 12) - s k = x at *
          by_cases h1 : x > 120
          · have HV := Lib.hid (sk_s s k hlt HM.out (by omega))
            clear hj
            go_wp2
            go_ret
            exact ⟨reti HV.out.symm, gtrans HG.out HG2.out⟩
          by_cases h2 : x < -120
          · have HV := Lib.hid (sk_s s k hlt HM.out (by omega))
            clear hj
            go_wp2
            go_ret
            exact ⟨reti HV.out.symm, gtrans HG.out HG2.out⟩
          have HJ : Hid (∀ j, j < k + 1 → -120 ≤ s ((j + 1) % 12) - s j ∧ s ((j + 1) % 12) - s j ≤ 120) := Lib.hid (fun j h => by
            by_cases e : j = k
            · rw [e]; omega
            · exact hj j (by omega))
          clear hj
          go_wp2
          go_roundw
          case rel => exact ⟨k + 1, by omega, by go_num, HJ.out, HG3.out⟩
          case measure => simp [intOf]; omega
        · obtain rfl : k = 12 := by omega
          have HV := Lib.hid ((sk_ok s).2 ⟨HM.out, hj⟩)
          clear hj hlt hk
          go_wp2
          go_ret
          exact ⟨reti HV.out.symm, gtrans HG.out HG2.out⟩

end Go.Proofs.YtpkjbcgmhkkfiaaGreatDoor.Sun

/- Whether a window, and the times of a configuration, may be, by the reckoning. No condition. -/
namespace Go.Proofs.YtpkjbcgmhkkfiaaGreatDoor.Conf
set_option maxRecDepth 100000
open Go.ChangeShapes Go.WideShapes Go.ChangeAt Go.RowKit
open Go.Proofs.YtpkjbcgmhkkfiaaGreatDoor.Divs Go.Proofs.YtpkjbcgmhkkfiaaGreatDoor.Grow Go.Proofs.YtpkjbcgmhkkfiaaGreatDoor.Zone
open Go.Proofs.YtpkjbcgmhkkfiaaGreatDoor.By (Sk SL)
open Go.Proofs.YtpkjbcgmhkkfiaaGreatDoor.Each
open Go.Proofs.YtpkjbcgmhkkfiaaGreatDoor.Zo Go.Proofs.YtpkjbcgmhkkfiaaGreatDoor.Su Go.Proofs.YtpkjbcgmhkkfiaaGreatDoor.Cf

def tmB (x : Wn) : Bool := decide (0 ≤ x.u ∧ x.u ≤ 1439 ∧ 1 ≤ x.l ∧ x.l ≤ 10080)

theorem tmB_iff (x : Wn) : tmB x = true ↔ 0 ≤ x.u ∧ x.u ≤ 1439 ∧ 1 ≤ x.l ∧ x.l ≤ 10080 := by simp [tmB]

set_option maxHeartbeats 2000000 in
theorem wo_iff (x : Wn) : wo x = true ↔ (0 ≤ x.m ∧ x.m ≤ 5 ∧ 0 ≤ x.p ∧ x.p ≤ 99) ∧ ((x.k = 1 ∧ tmB x = true ∧ 1 ≤ x.a ∧ x.a ≤ 127 ∧ x.h = 0) ∨ (x.k = 2 ∧ tmB x = true ∧ 401 ≤ x.a ∧ x.a ≤ 3651998 ∧ x.h = 0) ∨ (x.k = 3 ∧ tmB x = true ∧ 1 ≤ x.a ∧ x.a ≤ 7 ∧ -7 ≤ x.h ∧ x.h ≤ 7) ∨ (x.k = 4 ∧ x.a = 0 ∧ x.h = 0 ∧ 0 ≤ x.u ∧ x.u ≤ 180 ∧ 0 ≤ x.l ∧ x.l ≤ 180)) := by
  unfold wo kn al ru
  rw [tmB_iff]
  simp only [Bool.and_eq_true, bt_iff]
  by_cases h1 : x.k = 1
  · simp [h1]
    exact ⟨fun ⟨⟨a, b⟩, ⟨c, d⟩, ⟨e, f⟩, ⟨g, h⟩, ⟨i, j⟩, k, l⟩ => ⟨⟨a, b, c, d⟩, ⟨i, j, k, l⟩, e, f, by omega⟩, fun ⟨⟨a, b, c, d⟩, ⟨i, j, k, l⟩, e, f, g⟩ => ⟨⟨a, b⟩, ⟨c, d⟩, ⟨e, f⟩, by omega, ⟨i, j⟩, k, l⟩⟩
  by_cases h2 : x.k = 2
  · simp [h2]
    exact ⟨fun ⟨⟨a, b⟩, ⟨c, d⟩, ⟨e, f⟩, ⟨g, h⟩, ⟨i, j⟩, k, l⟩ => ⟨⟨a, b, c, d⟩, ⟨i, j, k, l⟩, e, f, by omega⟩, fun ⟨⟨a, b, c, d⟩, ⟨i, j, k, l⟩, e, f, g⟩ => ⟨⟨a, b⟩, ⟨c, d⟩, ⟨e, f⟩, by omega, ⟨i, j⟩, k, l⟩⟩
  by_cases h3 : x.k = 3
  · simp [h3]
    exact ⟨fun ⟨⟨a, b⟩, ⟨c, d⟩, ⟨e, f⟩, ⟨g, h⟩, ⟨i, j⟩, k, l⟩ => ⟨⟨a, b, c, d⟩, ⟨i, j, k, l⟩, e, f, g, h⟩, fun ⟨⟨a, b, c, d⟩, ⟨i, j, k, l⟩, e, f, g, h⟩ => ⟨⟨a, b⟩, ⟨c, d⟩, ⟨e, f⟩, ⟨g, h⟩, ⟨i, j⟩, k, l⟩⟩
  by_cases h4 : x.k = 4
  · simp [h4]
    exact ⟨fun ⟨⟨a, b⟩, ⟨c, d⟩, ⟨e, f⟩, ⟨g, h⟩, ⟨i, j⟩, k, l⟩ => ⟨⟨a, b, c, d⟩, by omega, by omega, i, j, k, l⟩, fun ⟨⟨a, b, c, d⟩, e, g, i, j, k, l⟩ => ⟨⟨a, b⟩, ⟨c, d⟩, by omega, by omega, ⟨i, j⟩, k, l⟩⟩
  · constructor
    · rintro ⟨h, _⟩
      exfalso
      omega
    · rintro ⟨_, h⟩
      rcases h with ⟨h, _⟩ | ⟨h, _⟩ | ⟨h, _⟩ | ⟨h, _⟩
      · exact absurd h h1
      · exact absurd h h2
      · exact absurd h h3
      · exact absurd h h4

theorem timed_any (x : Wn) (w : World) : Calls Tryz.prog 48 #[.agg (wc x).toArray] w fun e w' => e = .returned (.bool (tmB x)) ∧ Later w w' := by
  have HV := Lib.hid (tmB_iff x)
  have HL := Lib.hid ((Later.refl w).alloc (wc x).toArray 58)
  unfold wc at *
  go_enter Tryz.func48, Tryz.ntmps48
  go_wp2
  all_goals
    go_ret
    refine ⟨retb ?_, HL.out⟩
    rw [Bool.eq_iff_iff, HV.out]
    simp
    omega

set_option maxHeartbeats 4000000 in
theorem rwindow_any (x : Wn) (w : World) : Calls Tryz.prog 27 #[.agg (wc x).toArray] w fun e w' => e = .returned (.bool (wo x)) ∧ Later w w' := by
  have HV := Lib.hid (wo_iff x)
  have K := Lib.hid (fun W => timed_any x W)
  have HL := Lib.hid ((Later.refl w).alloc (wc x).toArray 58)
  have HA := Lib.hid (At.new w (wc x).toArray 58)
  unfold wc at *
  by_cases hm : 0 ≤ x.m ∧ x.m ≤ 5 ∧ 0 ≤ x.p ∧ x.p ≤ 99
  · obtain ⟨m0, m1, p0, p1⟩ := hm
    have HP : Hid (0 ≤ x.m ∧ x.m ≤ 5 ∧ 0 ≤ x.p ∧ x.p ≤ 99) := Lib.hid ⟨m0, m1, p0, p1⟩
    have t1 : decide (x.m < 0) = false := by simp; omega
    have t2 : decide (x.m > 5) = false := by simp; omega
    have t3 : decide (x.p < 0) = false := by simp; omega
    have t4 : decide (x.p > 99) = false := by simp; omega
    clear m0 m1 p0 p1
    go_enter Tryz.func27, Tryz.ntmps27
    go_wp2_with fail
    refine (K.out _).mono ?_
    rintro e w1 ⟨rfl, hg1⟩
    have hA := HA.out.later hg1
    have HG := Lib.hid (gtrans HL.out hg1)
    have c0 := hA 0 _ rfl
    have c3 := hA 3 _ rfl
    have c4 := hA 4 _ rfl
    have c5 := hA 5 _ rfl
    have c6 := hA 6 _ rfl
    simp at c0 c3 c4 c5 c6
    clear hA hg1 t1 t2 t3 t4
    obtain ⟨b, hb⟩ : ∃ b, tmB x = b := ⟨_, rfl⟩
    rw [hb]
    have HB := Lib.hid hb
    clear hb
    have HW : Hid (wo x = ((x.k == 1 && (b && (decide (1 ≤ x.a) && (decide (x.a ≤ 127) && x.h == 0)))) || ((x.k == 2 && (b && (decide (401 ≤ x.a) && (decide (x.a ≤ 3651998) && x.h == 0)))) || ((x.k == 3 && (b && (decide (1 ≤ x.a) && (decide (x.a ≤ 7) && (decide (-7 ≤ x.h) && decide (x.h ≤ 7)))))) || (x.k == 4 && (x.a == 0 && (x.h == 0 && (decide (0 ≤ x.u) && (decide (x.u ≤ 180) && (decide (0 ≤ x.l) && decide (x.l ≤ 180))))))))))) := Lib.hid (by
      rw [Bool.eq_iff_iff, HV.out, HB.out]
      have := HP.out
      simp only [Bool.or_eq_true, Bool.and_eq_true, decide_eq_true_eq, beq_iff_eq]
      simp only [this.1, this.2.1, this.2.2.1, this.2.2.2, true_and, and_true])
    go_wp2
    all_goals
      go_ret
      refine ⟨retb ?_, HG.out⟩
      rw [HW.out]
      first | (simp_all; done) | (simp_all; omega)
  · have HW : Hid (wo x = false) := Lib.hid (by
      cases e : wo x with
      | false => rfl
      | true => exact absurd ((wo_iff x).1 e).1 hm)
    have HM := Lib.hid hm
    clear hm
    go_enter Tryz.func27, Tryz.ntmps27
    go_wp2_with fail
    all_goals first
      | (go_ret; exact ⟨retb HW.out.symm, HL.out⟩)
      | (exfalso; have := HM.out; omega)

end Go.Proofs.YtpkjbcgmhkkfiaaGreatDoor.Conf

/- Which windows, times, zones, sunsets and rows are the same, by the program. No condition but those that each theorem states. -/
namespace Go.Proofs.YtpkjbcgmhkkfiaaGreatDoor.Conf
set_option maxRecDepth 100000
open Go.ChangeShapes Go.WideShapes Go.ChangeAt Go.RowKit
open Go.Proofs.YtpkjbcgmhkkfiaaGreatDoor.Divs Go.Proofs.YtpkjbcgmhkkfiaaGreatDoor.Grow Go.Proofs.YtpkjbcgmhkkfiaaGreatDoor.Zone
open Go.Proofs.YtpkjbcgmhkkfiaaGreatDoor.By (Sk SL take_on take_all bool_no bool_yes)
open Go.Proofs.YtpkjbcgmhkkfiaaGreatDoor.Each
open Go.Proofs.YtpkjbcgmhkkfiaaGreatDoor.Zo Go.Proofs.YtpkjbcgmhkkfiaaGreatDoor.Su Go.Proofs.YtpkjbcgmhkkfiaaGreatDoor.Cf

attribute [local go_sem] equal_int_at

theorem equal_win (x y : Wn) (w : World) : (Op.equalIn 10000 58 (.agg #[.int .i64 x.k, .int .i64 x.m, .int .i64 x.p, .int .i64 x.a, .int .i64 x.h, .int .i64 x.u, .int .i64 x.l]) (.agg #[.int .i64 y.k, .int .i64 y.m, .int .i64 y.p, .int .i64 y.a, .int .i64 y.h, .int .i64 y.u, .int .i64 y.l])).run Tryz.prog w = .ok (ws x y) w := by
  have u3 := Tryz.underlying3
  have a3 := Tryz.isAgg3
  have z3 := Tryz.sizeOf3
  have hS : Tryz.prog.underlying 58 = some (.struct (Tryz.prog.fieldsOf 58)) := by kernel_rfl
  have hp : Tryz.prog.stoodInHeld 58 = false := by kernel_rfl
  have E : ∀ n, (Op.equalIn (n + 1 + 1) 58 (.agg #[.int .i64 x.k, .int .i64 x.m, .int .i64 x.p, .int .i64 x.a, .int .i64 x.h, .int .i64 x.u, .int .i64 x.l]) (.agg #[.int .i64 y.k, .int .i64 y.m, .int .i64 y.p, .int .i64 y.a, .int .i64 y.h, .int .i64 y.u, .int .i64 y.l])).run Tryz.prog w = .ok (ws x y) w := by
    intro n
    rw [run_equalIn_agg w (n + 1) 58 _ _ hS hp]
    simp only [Program.fieldsOf, Tryz.underlying58]
    unfold ws
    go_simp
    repeat' split
    all_goals simp_all
  exact E 9998

/-- Are the times the same? -/
def tq (x y : Cg) : Bool := x.t == y.t && (x.l == y.l && (x.o == y.o && (x.d == y.d && (x.e == y.e && (x.c == y.c && x.h == y.h)))))

theorem equal_times (x y : Cg) (w : World) : (Op.equalIn 10000 24 (.agg #[.int .i64 x.t, .int .i64 x.l, .int .i64 x.o, .int .i64 x.d, .int .i64 x.e, .int .i64 x.c, .int .i64 x.h]) (.agg #[.int .i64 y.t, .int .i64 y.l, .int .i64 y.o, .int .i64 y.d, .int .i64 y.e, .int .i64 y.c, .int .i64 y.h])).run Tryz.prog w = .ok (tq x y) w := by
  have u3 := Tryz.underlying3
  have a3 := Tryz.isAgg3
  have z3 := Tryz.sizeOf3
  have hS : Tryz.prog.underlying 24 = some (.struct (Tryz.prog.fieldsOf 24)) := by kernel_rfl
  have hp : Tryz.prog.stoodInHeld 24 = false := by kernel_rfl
  have E : ∀ n, (Op.equalIn (n + 1 + 1) 24 (.agg #[.int .i64 x.t, .int .i64 x.l, .int .i64 x.o, .int .i64 x.d, .int .i64 x.e, .int .i64 x.c, .int .i64 x.h]) (.agg #[.int .i64 y.t, .int .i64 y.l, .int .i64 y.o, .int .i64 y.d, .int .i64 y.e, .int .i64 y.c, .int .i64 y.h])).run Tryz.prog w = .ok (tq x y) w := by
    intro n
    rw [run_equalIn_agg w (n + 1) 24 _ _ hS hp]
    simp only [Program.fieldsOf, Tryz.underlying24]
    unfold tq
    go_simp
    repeat' split
    all_goals simp_all
  exact E 9998

/-- Are the sunsets the same? -/
def sq (s r : Nat → Int) : Bool := (List.range 12).all fun i => s i == r i

theorem sun_item (n : Nat) (s r : Nat → Int) (xs ys : Array Value) (w : World) : ∀ is : List Nat, (∀ i ∈ is, xs[i]? = some (.int .i64 (s i)) ∧ ys[i]? = some (.int .i64 (r i))) →
    (Op.eqItems (n + 1) 3 1 xs ys is).run Tryz.prog w = .ok (is.all fun i => s i == r i) w := by
  intro is
  induction is with
  | nil => intro _; simp [Op.eqItems]
  | cons i is ih =>
    intro h
    have u3 := Tryz.underlying3
    have a3 := Tryz.isAgg3
    have z3 := Tryz.sizeOf3
    obtain ⟨h1, h2⟩ := h i (by simp)
    have ih' := ih (fun j hj => h j (by simp [hj]))
    clear ih h
    unfold Op.eqItems
    rw [Nat.mul_one]
    go_simp
    split <;> simp_all

theorem equal_sun (s r : Nat → Int) (w : World) : (Op.equalIn 10000 30 (.agg #[.int .i64 (s 0), .int .i64 (s 1), .int .i64 (s 2), .int .i64 (s 3), .int .i64 (s 4), .int .i64 (s 5), .int .i64 (s 6), .int .i64 (s 7), .int .i64 (s 8), .int .i64 (s 9), .int .i64 (s 10), .int .i64 (s 11)])
      (.agg #[.int .i64 (r 0), .int .i64 (r 1), .int .i64 (r 2), .int .i64 (r 3), .int .i64 (r 4), .int .i64 (r 5), .int .i64 (r 6), .int .i64 (r 7), .int .i64 (r 8), .int .i64 (r 9), .int .i64 (r 10), .int .i64 (r 11)])).run Tryz.prog w = .ok (sq s r) w := by
  have hu : Tryz.prog.underlying 30 = some (.array 12 3) := by kernel_rfl
  obtain ⟨i, hi⟩ : ∃ i, Tryz.prog.info? 3 = some i := ⟨_, rfl⟩
  have hc : Tryz.prog.cellsOf 3 = 1 := by kernel_rfl
  rw [run_equalIn_array w 9999 _ _ hu hi, hc]
  refine sun_item 9998 s r _ _ w (List.range 12) (fun i hi => ?_)
  rw [List.mem_range] at hi
  match i, hi with
  | 0, _ | 1, _ | 2, _ | 3, _ | 4, _ | 5, _ | 6, _ | 7, _ | 8, _ | 9, _ | 10, _ | 11, _ => exact ⟨rfl, rfl⟩
  | i + 12, h => omega

instance : DecidableEq Wn := fun x y => decidable_of_iff _ (ws_iff x y)

/-- The first i of two rows are the same. -/
def ERel {α : Type} (xs ys : List α) (w : World) (x : Value) (wr : World) : Prop := ∃ i k : Nat, i ≤ xs.length ∧ x = .int .i64 (i : Int) ∧ xs.take i = ys.take i ∧ wr = w.drewN k

theorem same_all {α : Type} (xs ys : List α) (n : Nat) (hx : n = xs.length) (hl : xs.length = ys.length) (h : xs.take n = ys.take n) : xs = ys := by
  rw [List.take_of_length_le (by omega), List.take_of_length_le (by omega)] at h
  exact h

theorem same_on {α : Type} (xs ys : List α) (i : Nat) (a : α) (hx : xs[i]? = some a) (hy : ys[i]? = some a) (h : xs.take i = ys.take i) : xs.take (i + 1) = ys.take (i + 1) := by
  rw [List.take_add_one, List.take_add_one, h, hx, hy]

set_option maxHeartbeats 1000000 in
theorem equal_ints (u v : Value) (xs ys : List Int) (w : World) (hu : Sk .i64 w u xs) (hv : Sk .i64 w v ys) : Calls Tryz.prog 63 #[u, v] w fun e w' => e = .returned (.bool (decide (xs = ys))) ∧ Later w w' := by
  obtain ⟨R, hR⟩ : ∃ R : Bool, R = decide (xs = ys) := ⟨_, rfl⟩
  rw [← hR]
  have HT : Hid (xs = ys → R = true) := Lib.hid (fun h => by rw [hR]; simpa using h)
  have HF : Hid (¬ xs = ys → ¬ R = true) := Lib.hid (fun h => by rw [hR]; simpa using h)
  clear hR
  by_cases hl : xs.length = ys.length
  · rcases Nat.eq_zero_or_pos xs.length with h0 | h0
    · obtain rfl := List.length_eq_zero_iff.1 h0
      obtain rfl := List.length_eq_zero_iff.1 (hl.symm.trans h0)
      obtain ⟨a, c, rfl, _⟩ := hu.len
      obtain ⟨a', c', rfl, _⟩ := hv.len
      clear hu hv hl h0
      go_enter Tryz.func63, Tryz.ntmps63
      go_wp2_with fail
      refine wp_loop_rounds 1 ?_
      rw [rounds_succ]
      go_wp2
      go_ret
      exact ⟨bool_yes (HT.out (by first | rfl | trivial)), Later.refl _⟩
    · obtain ⟨b, off, cap, rfl, _, m1, _, hc⟩ := hu.has h0
      obtain ⟨b', off', cap', rfl, _, m2, _, hc'⟩ := hv.has (by omega)
      have HC := Lib.hid hc
      have HC' := Lib.hid hc'
      have hm : xs.length ≤ 9223372036854775807 := by omega
      have HL := Lib.hid hl
      obtain ⟨n, hn⟩ : ∃ n, ys.length = n := ⟨_, rfl⟩
      rw [hn] at hl ⊢
      rw [hl] at h0 hm ⊢
      have HN := Lib.hid hn
      have HX := Lib.hid hl
      clear hc hc' hu hv hl hn m1 m2
      have t : ((n : Int) != (n : Int)) = false := by simp
      go_enter Tryz.func63, Tryz.ntmps63
      go_wp2_with fail
      clear t
      go_loopw [13] (fun x wr => ERel xs ys w x wr) (fun x _ => (n - intOf x).toNat)
      case atStart => exact ⟨0, 0, by omega, rfl, by simp, rfl⟩
      case round =>
        obtain ⟨i, k, hi, rfl, ht, rfl⟩ := hrel
        rw [HX.out] at hi
        have HE := Lib.hid ht
        clear ht
        by_cases hlt : i < n
        · obtain ⟨a, ha⟩ : ∃ a, xs[i]? = some a := ⟨_, List.getElem?_eq_getElem (by rw [HX.out]; exact hlt)⟩
          obtain ⟨c, hc⟩ : ∃ c, ys[i]? = some c := ⟨_, List.getElem?_eq_getElem (by rw [HN.out]; exact hlt)⟩
          have c1 := HC.out i (by rw [HX.out]; exact hlt)
          rw [List.getD_eq_getElem?_getD, ha, Option.getD_some] at c1
          have c2 := HC'.out i (by rw [HN.out]; exact hlt)
          rw [List.getD_eq_getElem?_getD, hc, Option.getD_some] at c2
          have HA := Lib.hid ha
          have HB := Lib.hid hc
          clear ha hc
          by_cases hac : a = c
          · subst hac
            have t : (a != a) = false := by simp
            have HS := Lib.hid (same_on xs ys i a HA.out HB.out HE.out)
            go_wp2_with fail
            go_quiet (fail)
            go_wp2_with fail
            go_roundw
            case rel => exact ⟨i + 1, _, by rw [HX.out]; omega, by go_num, HS.out, rfl⟩
            case measure => simp [intOf]; omega
          · have t : (a != c) = true := by simpa using hac
            have HV : Hid (¬ xs = ys) := Lib.hid (by
              rintro rfl
              have := HA.out.symm.trans HB.out
              simp at this
              exact hac this)
            clear hac
            go_wp2_with fail
            go_quiet (fail)
            go_wp2_with fail
            go_ret
            exact ⟨bool_no (HF.out HV.out), Later.refl w⟩
        · have hn : ¬ i < n := hlt
          go_wp2_with fail
          go_ret
          exact ⟨bool_yes (HT.out (same_all xs ys i (by rw [HX.out]; omega) HL.out HE.out)), later_drewN w _⟩
  · obtain ⟨a, c, rfl, m1⟩ := hu.len
    obtain ⟨a', c', rfl, m2⟩ := hv.len
    have t : ((xs.length : Int) != (ys.length : Int)) = true := by simpa using fun h => hl (by omega)
    have HV : Hid (¬ xs = ys) := Lib.hid (by
      rintro rfl
      exact hl rfl)
    clear hu hv
    go_enter Tryz.func63, Tryz.ntmps63
    go_wp2_with fail
    go_ret
    exact ⟨bool_no (HF.out HV.out), Later.refl w⟩

attribute [local go_sem high] equal_win

set_option maxHeartbeats 1000000 in
theorem equal_wins (u v : Value) (xs ys : List Wn) (w : World) (hu : Wk w u xs) (hv : Wk w v ys) : Calls Tryz.prog 64 #[u, v] w fun e w' => e = .returned (.bool (decide (xs = ys))) ∧ Later w w' := by
  obtain ⟨R, hR⟩ : ∃ R : Bool, R = decide (xs = ys) := ⟨_, rfl⟩
  rw [← hR]
  have HT : Hid (xs = ys → R = true) := Lib.hid (fun h => by rw [hR]; simpa using h)
  have HF : Hid (¬ xs = ys → ¬ R = true) := Lib.hid (fun h => by rw [hR]; simpa using h)
  clear hR
  by_cases hl : xs.length = ys.length
  · rcases Nat.eq_zero_or_pos xs.length with h0 | h0
    · obtain rfl := List.length_eq_zero_iff.1 h0
      obtain rfl := List.length_eq_zero_iff.1 (hl.symm.trans h0)
      obtain ⟨a, c, rfl, _⟩ := hu.len
      obtain ⟨a', c', rfl, _⟩ := hv.len
      clear hu hv hl h0
      go_enter Tryz.func64, Tryz.ntmps64
      go_wp2_with fail
      refine wp_loop_rounds 1 ?_
      rw [rounds_succ]
      go_wp2
      go_ret
      exact ⟨bool_yes (HT.out (by first | rfl | trivial)), Later.refl _⟩
    · obtain ⟨b, off, cap, rfl, m1, _, hc⟩ := hu.has h0
      obtain ⟨b', off', cap', rfl, m2, _, hc'⟩ := hv.has (by omega)
      have HC := Lib.hid hc
      have HC' := Lib.hid hc'
      have hm : xs.length ≤ 9223372036854775807 := by omega
      have HL := Lib.hid hl
      obtain ⟨n, hn⟩ : ∃ n, ys.length = n := ⟨_, rfl⟩
      rw [hn] at hl ⊢
      rw [hl] at h0 hm ⊢
      have HN := Lib.hid hn
      have HX := Lib.hid hl
      clear hc hc' hu hv hl hn m1 m2
      have t : ((n : Int) != (n : Int)) = false := by simp
      go_enter Tryz.func64, Tryz.ntmps64
      go_wp2_with fail
      clear t
      go_loopw [13] (fun x wr => ERel xs ys w x wr) (fun x _ => (n - intOf x).toNat)
      case atStart => exact ⟨0, 0, by omega, rfl, by simp, rfl⟩
      case round =>
        obtain ⟨i, k, hi, rfl, ht, rfl⟩ := hrel
        rw [HX.out] at hi
        have HE := Lib.hid ht
        clear ht
        by_cases hlt : i < n
        · obtain ⟨a, ha⟩ : ∃ a, xs[i]? = some a := ⟨_, List.getElem?_eq_getElem (by rw [HX.out]; exact hlt)⟩
          obtain ⟨c, hc⟩ : ∃ c, ys[i]? = some c := ⟨_, List.getElem?_eq_getElem (by rw [HN.out]; exact hlt)⟩
          have r1 := HC.out i a ha
          have r2 := HC'.out i c hc
          have p0 := r1 0 _ rfl
          have p1 := r1 1 _ rfl
          have p2 := r1 2 _ rfl
          have p3 := r1 3 _ rfl
          have p4 := r1 4 _ rfl
          have p5 := r1 5 _ rfl
          have p6 := r1 6 _ rfl
          have q0 := r2 0 _ rfl
          have q1 := r2 1 _ rfl
          have q2 := r2 2 _ rfl
          have q3 := r2 3 _ rfl
          have q4 := r2 4 _ rfl
          have q5 := r2 5 _ rfl
          have q6 := r2 6 _ rfl
          clear r1 r2
          simp only [Nat.add_zero] at p0 q0
          have HA := Lib.hid ha
          have HB := Lib.hid hc
          clear ha hc
          by_cases hac : a = c
          · subst hac
            have t : ws a a = true := (ws_iff _ _).2 rfl
            have HS := Lib.hid (same_on xs ys i a HA.out HB.out HE.out)
            go_wp2_with fail
            go_quiet (fail)
            go_wp2_with fail
            go_roundw
            case rel => exact ⟨i + 1, _, by rw [HX.out]; omega, by go_num, HS.out, rfl⟩
            case measure => simp [intOf]; omega
          · have t : ws a c = false := by
              cases e : ws a c with
              | false => rfl
              | true => exact absurd ((ws_iff _ _).1 e) hac
            have HV : Hid (¬ xs = ys) := Lib.hid (by
              rintro rfl
              have := HA.out.symm.trans HB.out
              simp at this
              exact hac this)
            clear hac
            go_wp2_with fail
            go_quiet (fail)
            go_wp2_with fail
            go_ret
            exact ⟨bool_no (HF.out HV.out), Later.refl w⟩
        · have hn : ¬ i < n := hlt
          go_wp2_with fail
          go_ret
          exact ⟨bool_yes (HT.out (same_all xs ys i (by rw [HX.out]; omega) HL.out HE.out)), later_drewN w _⟩
  · obtain ⟨a, c, rfl, m1⟩ := hu.len
    obtain ⟨a', c', rfl, m2⟩ := hv.len
    have t : ((xs.length : Int) != (ys.length : Int)) = true := by simpa using fun h => hl (by omega)
    have HV : Hid (¬ xs = ys) := Lib.hid (by
      rintro rfl
      exact hl rfl)
    clear hu hv
    go_enter Tryz.func64, Tryz.ntmps64
    go_wp2_with fail
    go_ret
    exact ⟨bool_no (HF.out HV.out), Later.refl w⟩

end Go.Proofs.YtpkjbcgmhkkfiaaGreatDoor.Conf

/- Whether two configurations are the same, and whether cars go on, by the program. No condition but those that each theorem states. -/
namespace Go.Proofs.YtpkjbcgmhkkfiaaGreatDoor.Conf
set_option maxRecDepth 100000
open Go.ChangeShapes Go.WideShapes Go.ChangeAt Go.RowKit
open Go.Proofs.YtpkjbcgmhkkfiaaGreatDoor.Divs Go.Proofs.YtpkjbcgmhkkfiaaGreatDoor.Grow Go.Proofs.YtpkjbcgmhkkfiaaGreatDoor.Zone
open Go.Proofs.YtpkjbcgmhkkfiaaGreatDoor.By (Sk SL take_on take_all bool_no bool_yes)
open Go.Proofs.YtpkjbcgmhkkfiaaGreatDoor.Each
open Go.Proofs.YtpkjbcgmhkkfiaaGreatDoor.Zo Go.Proofs.YtpkjbcgmhkkfiaaGreatDoor.Su Go.Proofs.YtpkjbcgmhkkfiaaGreatDoor.Cf

/-- Are the zones the same? -/
def zq (z y : Zn) : Bool := z.b == y.b && (z.s == y.s && ((z.p.m == y.p.m && (z.p.k == y.p.k && (z.p.v == y.p.v && z.p.u == y.p.u))) && (z.q.m == y.q.m && (z.q.k == y.q.k && (z.q.v == y.q.v && z.q.u == y.q.u)))))

theorem equal_zn (z y : Zn) (w : World) : (Op.equalIn 10000 28 (.agg #[.int .i64 z.b, .int .i64 z.s, .int .i64 z.p.m, .int .i64 z.p.k, .int .i64 z.p.v, .int .i64 z.p.u, .int .i64 z.q.m, .int .i64 z.q.k, .int .i64 z.q.v, .int .i64 z.q.u])
      (.agg #[.int .i64 y.b, .int .i64 y.s, .int .i64 y.p.m, .int .i64 y.p.k, .int .i64 y.p.v, .int .i64 y.p.u, .int .i64 y.q.m, .int .i64 y.q.k, .int .i64 y.q.v, .int .i64 y.q.u])).run Tryz.prog w = .ok (zq z y) w :=
  equal_zone _ _ _ _ _ _ _ _ _ _ _ _ _ _ _ _ _ _ _ _ w

attribute [local go_sem high] equal_win equal_times equal_sun equal_zn

/-- Are the buildings the same? -/
def sb (a b : Cg) : Bool := a.f == b.f && (a.n == b.n && (a.p == b.p && (decide (a.st = b.st) && (tq a b && (a.r == b.r && a.q == b.q)))))

set_option maxHeartbeats 2000000 in
theorem building_any (a b : Cg) (u v u' v' : Value) (w : World) (hu : Sk .i64 w u a.st) (hu' : Sk .i64 w u' b.st) : Calls Tryz.prog 33 #[.agg (cc a u v), .agg (cc b u' v')] w fun e w' => e = .returned (.bool (sb a b)) ∧ Later w w' := by
  unfold sb
  have HG := Lib.hid (((Later.refl w).alloc (cc a u v) 33).alloc (cc b u' v') 33)
  have HA := Lib.hid ((At.new w (cc a u v) 33).put (.cells (cc b u' v') 33))
  have HB := Lib.hid (At.new (w.alloc (.cells (cc a u v) 33)) (cc b u' v') 33)
  simp only [World.size_alloc] at HB
  have K := Lib.hid (equal_ints u u' a.st b.st _ (hu.later HG.out) (hu'.later HG.out))
  generalize decide (a.st = b.st) = b4 at *
  clear hu hu'
  unfold cc at *
  cases e0 : (a.f == b.f) with
  | false =>
    go_enter Tryz.func33, Tryz.ntmps33
    go_wp2_with fail
    go_ret
    exact ⟨rfl, HG.out⟩
  | true =>
    cases e1 : (a.n == b.n) with
    | false =>
      go_enter Tryz.func33, Tryz.ntmps33
      go_wp2_with fail
      go_ret
      exact ⟨rfl, HG.out⟩
    | true =>
      cases e2 : (a.p == b.p) with
      | false =>
        go_enter Tryz.func33, Tryz.ntmps33
        go_wp2_with fail
        go_ret
        exact ⟨rfl, HG.out⟩
      | true =>
        go_enter Tryz.func33, Tryz.ntmps33
        go_wp2_with fail
        refine K.out.mono ?_
        rintro e w1 ⟨rfl, hg1⟩
        have HG1 := Lib.hid (gtrans HG.out hg1)
        cases b4 with
        | false =>
          clear hg1
          go_wp2_with fail
          go_ret
          exact ⟨rfl, HG1.out⟩
        | true =>
          have ha := HA.out.later hg1
          have hb := HB.out.later hg1
          have x4 := ha 4 _ rfl
          have y4 := hb 4 _ rfl
          have x5 := ha 5 _ rfl
          have y5 := hb 5 _ rfl
          have x6 := ha 6 _ rfl
          have y6 := hb 6 _ rfl
          have x7 := ha 7 _ rfl
          have y7 := hb 7 _ rfl
          have x8 := ha 8 _ rfl
          have y8 := hb 8 _ rfl
          have x9 := ha 9 _ rfl
          have y9 := hb 9 _ rfl
          have x10 := ha 10 _ rfl
          have y10 := hb 10 _ rfl
          have x11 := ha 11 _ rfl
          have y11 := hb 11 _ rfl
          have x12 := ha 12 _ rfl
          have y12 := hb 12 _ rfl
          clear ha hb hg1
          cases e5 : tq a b with
          | false =>
            go_wp2_with fail
            go_ret
            exact ⟨retb (by simp [e5]), HG1.out⟩
          | true =>
            cases e6 : (a.r == b.r) with
            | false =>
              go_wp2_with fail
              go_ret
              exact ⟨retb (by simp only [e5, e6]; rfl), HG1.out⟩
            | true =>
              cases e7 : (a.q == b.q) with
              | false =>
                go_wp2_with fail
                go_ret
                exact ⟨retb (by simp only [e5, e6, e7]; rfl), HG1.out⟩
              | true =>
                go_wp2_with fail
                go_ret
                exact ⟨retb (by simp only [e5, e6, e7]; rfl), HG1.out⟩

/-- Are the timetables the same? -/
def tt (a b : Cg) : Bool := zq a.z b.z && (sq a.s b.s && ((a.ab == b.ab) && decide (a.ws = b.ws)))

set_option maxHeartbeats 2000000 in
theorem timetable_any (a b : Cg) (u v u' v' : Value) (w : World) (hv : Wk w v a.ws) (hv' : Wk w v' b.ws) : Calls Tryz.prog 34 #[.agg (cc a u v), .agg (cc b u' v')] w fun e w' => e = .returned (.bool (tt a b)) ∧ Later w w' := by
  unfold tt
  have HG := Lib.hid (((Later.refl w).alloc (cc a u v) 33).alloc (cc b u' v') 33)
  have K := Lib.hid (equal_wins v v' a.ws b.ws _ (hv.later HG.out) (hv'.later HG.out))
  generalize decide (a.ws = b.ws) = b4 at *
  clear hv hv'
  unfold cc at *
  cases e0 : zq a.z b.z with
  | false =>
    go_enter Tryz.func34, Tryz.ntmps34
    go_wp2_with fail
    go_ret
    exact ⟨rfl, HG.out⟩
  | true =>
    cases e1 : sq a.s b.s with
    | false =>
      go_enter Tryz.func34, Tryz.ntmps34
      go_wp2_with fail
      go_ret
      exact ⟨rfl, HG.out⟩
    | true =>
      cases e2 : (a.ab == b.ab) with
      | false =>
        go_enter Tryz.func34, Tryz.ntmps34
        go_wp2_with fail
        go_ret
        exact ⟨rfl, HG.out⟩
      | true =>
        go_enter Tryz.func34, Tryz.ntmps34
        go_wp2_with fail
        refine K.out.mono ?_
        rintro e w1 ⟨rfl, hg1⟩
        have HG1 := Lib.hid (gtrans HG.out hg1)
        clear hg1
        cases b4 with
        | false =>
          go_wp2_with fail
          go_ret
          exact ⟨rfl, HG1.out⟩
        | true =>
          go_wp2_with fail
          go_ret
          exact ⟨rfl, HG1.out⟩

end Go.Proofs.YtpkjbcgmhkkfiaaGreatDoor.Conf

/- Whether two configurations are the same, and whether cars go on, by the program. No condition but those that each theorem states. -/
namespace Go.Proofs.YtpkjbcgmhkkfiaaGreatDoor.Conf
set_option maxRecDepth 100000
open Go.ChangeShapes Go.WideShapes Go.ChangeAt Go.RowKit
open Go.Proofs.YtpkjbcgmhkkfiaaGreatDoor.Divs Go.Proofs.YtpkjbcgmhkkfiaaGreatDoor.Grow Go.Proofs.YtpkjbcgmhkkfiaaGreatDoor.Zone
open Go.Proofs.YtpkjbcgmhkkfiaaGreatDoor.By (Sk SL)
open Go.Proofs.YtpkjbcgmhkkfiaaGreatDoor.Each
open Go.Proofs.YtpkjbcgmhkkfiaaGreatDoor.Zo Go.Proofs.YtpkjbcgmhkkfiaaGreatDoor.Su Go.Proofs.YtpkjbcgmhkkfiaaGreatDoor.Cf

/-- A configuration is loaded whole, by an operation that is wanted. -/
theorem load_in {ops : Array Oper} {rest : List Oper} {o : Oper} {a : Act} {W : World} {Q : Exit → Act → World → Prop} (C : Array Value) (hC : C.size = 37) (hw : Region.wanted o (yielded ops a.tmps) = true) (x : Operand) (ho : o.op = .load 33 x) (g : Nat) (hx : a.eval x = .pointer (some ⟨g, 0, none⟩)) (h : At W g C) (hK : wpList Tryz.prog ops Q rest (a.put o.dst (.agg C)) W) : wpList Tryz.prog ops Q (o :: rest) a W := by
  unfold wpList
  rw [if_pos hw]
  exact .inl (wp_load_cfg C hC W g h x ho hx hK)

set_option maxHeartbeats 1000000 in
theorem same_any (a b : Cg) (u v u' v' : Value) (w : World) (hu : Sk .i64 w u a.st) (hu' : Sk .i64 w u' b.st) (hv : Wk w v a.ws) (hv' : Wk w v' b.ws) : Calls Tryz.prog 16 #[.agg (cc a u v), .agg (cc b u' v')] w fun e w' => e = .returned (.bool (sb a b && tt a b)) ∧ Later w w' := by
  have KB := Lib.hid (fun W (g : Later w W) => building_any a b u v u' v' W (hu.later g) (hu'.later g))
  have KT := Lib.hid (fun W (g : Later w W) => timetable_any a b u v u' v' W (hv.later g) (hv'.later g))
  clear hu hu' hv hv'
  generalize sb a b = b1 at *
  generalize tt a b = b2 at *
  obtain ⟨C, hC⟩ : ∃ C, C = cc a u v := ⟨_, rfl⟩
  obtain ⟨D, hD⟩ : ∃ D, D = cc b u' v' := ⟨_, rfl⟩
  rw [← hC, ← hD] at KB KT ⊢
  have HC : Hid (C.size = 37) := Lib.hid (by rw [hC]; rfl)
  have HD : Hid (D.size = 37) := Lib.hid (by rw [hD]; rfl)
  clear hC hD
  have HG := Lib.hid (((Later.refl w).alloc C 33).alloc D 33)
  have HA := Lib.hid ((At.new w C 33).put (.cells D 33))
  have HB := Lib.hid (At.new (w.alloc (.cells C 33)) D 33)
  simp only [World.size_alloc] at HB
  go_enter Tryz.func16, Tryz.ntmps16
  go_wp2_with (first | refine load_at C HC.out rfl (.tmp 2) rfl w.heap.size rfl HA.out ?_ | refine load_at D HD.out rfl (.tmp 3) rfl (w.heap.size + 1) rfl HB.out ?_)
  refine (KB.out _ HG.out).mono ?_
  rintro e w1 ⟨rfl, hg1⟩
  have HG1 := Lib.hid (gtrans HG.out hg1)
  have HA1 := Lib.hid (HA.out.later hg1)
  have HB1 := Lib.hid (HB.out.later hg1)
  clear hg1
  cases b1 with
  | false =>
    go_wp2_with fail
    go_ret
    exact ⟨rfl, HG1.out⟩
  | true =>
    go_wp2_with (first | refine load_in C HC.out (by rfl) (.tmp 2) rfl w.heap.size rfl HA1.out ?_ | refine load_in D HD.out (by rfl) (.tmp 3) rfl (w.heap.size + 1) rfl HB1.out ?_)
    refine (KT.out _ HG1.out).mono ?_
    rintro e w2 ⟨rfl, hg2⟩
    have HG2 := Lib.hid (gtrans HG1.out hg2)
    clear hg2
    cases b2 with
    | false =>
      go_wp2_with fail
      go_ret
      exact ⟨rfl, HG2.out⟩
    | true =>
      go_wp2_with fail
      go_ret
      exact ⟨rfl, HG2.out⟩

/-- Do cars go on? -/
def ft (a b : Cg) : Bool := (ce a == 0) && ((ce b == 0) && ((a.f == b.f) && (a.n == b.n)))

end Go.Proofs.YtpkjbcgmhkkfiaaGreatDoor.Conf

/- Whether a configuration's times and stops may be, by the reckoning. No condition but those that each theorem states. -/
namespace Go.Proofs.YtpkjbcgmhkkfiaaGreatDoor.Conf
set_option maxRecDepth 100000
open Go.ChangeShapes Go.WideShapes Go.ChangeAt Go.RowKit
open Go.Proofs.YtpkjbcgmhkkfiaaGreatDoor.Divs Go.Proofs.YtpkjbcgmhkkfiaaGreatDoor.Grow Go.Proofs.YtpkjbcgmhkkfiaaGreatDoor.Zone
open Go.Proofs.YtpkjbcgmhkkfiaaGreatDoor.By (Sk SL)
open Go.Proofs.YtpkjbcgmhkkfiaaGreatDoor.Each
open Go.Proofs.YtpkjbcgmhkkfiaaGreatDoor.Zo Go.Proofs.YtpkjbcgmhkkfiaaGreatDoor.Su Go.Proofs.YtpkjbcgmhkkfiaaGreatDoor.Cf

theorem tick_any (n : Int) (w : World) : Calls Tryz.prog 46 #[.int .i64 n] w fun e w' => e = .returned (.bool (bt n 1 60)) ∧ w = w' := by
  go_enter Tryz.func46, Tryz.ntmps46
  go_wp2
  all_goals
    go_ret
    refine ⟨retb ?_, rfl⟩
    rw [Bool.eq_iff_iff, bt_iff]
    simp
    try omega

set_option maxHeartbeats 4000000 in
theorem rtimes_any (c : Cg) (u v : Value) (w : World) : Calls Tryz.prog 24 #[.agg (cc c u v)] w fun e w' => e = .returned (.bool (ti c)) ∧ Later w w' := by
  have K := Lib.hid (fun n W => tick_any n W)
  obtain ⟨b1, e1⟩ : ∃ b, bt c.t 1 60 = b := ⟨_, rfl⟩
  obtain ⟨b2, e2⟩ : ∃ b, bt c.l 1 60 = b := ⟨_, rfl⟩
  obtain ⟨b3, e3⟩ : ∃ b, bt c.o 1 60 = b := ⟨_, rfl⟩
  obtain ⟨b4, e4⟩ : ∃ b, bt c.d 1 60 = b := ⟨_, rfl⟩
  obtain ⟨b5, e5⟩ : ∃ b, bt c.c 1 60 = b := ⟨_, rfl⟩
  have hv : ti c = ((b1 && (b2 && (b3 && (b4 && b5)))) && (bt c.h 0 60 && ((bt c.r 1 300 && bt c.q 1 300) && bt c.e 1 (min (min c.d c.r) c.q)))) := by
    unfold ti
    rw [e1, e2, e3, e4, e5]
  have HV := Lib.hid hv
  have hw : (b1 && (b2 && (b3 && (b4 && b5)))) = true → (ti c = true ↔ (0 ≤ c.h ∧ c.h ≤ 60 ∧ 1 ≤ c.r ∧ c.r ≤ 300 ∧ 1 ≤ c.q ∧ c.q ≤ 300 ∧ 1 ≤ c.e ∧ c.e ≤ c.d ∧ c.e ≤ c.r ∧ c.e ≤ c.q)) := by
    intro h
    rw [hv, h, Bool.true_and]
    simp only [Bool.and_eq_true, bt_iff]
    omega
  have HW := Lib.hid hw
  generalize ti c = R at *
  have E1 := Lib.hid e1
  have E2 := Lib.hid e2
  have E3 := Lib.hid e3
  have E4 := Lib.hid e4
  have E5 := Lib.hid e5
  clear hv hw e1 e2 e3 e4 e5
  obtain ⟨C, hC⟩ : ∃ C, C = cc c u v := ⟨_, rfl⟩
  rw [← hC]
  have f4 : C[4]? = some (.int .i64 c.t) := by rw [hC]; rfl
  have f5 : C[5]? = some (.int .i64 c.l) := by rw [hC]; rfl
  have f6 : C[6]? = some (.int .i64 c.o) := by rw [hC]; rfl
  have f7 : C[7]? = some (.int .i64 c.d) := by rw [hC]; rfl
  have f8 : C[8]? = some (.int .i64 c.e) := by rw [hC]; rfl
  have f9 : C[9]? = some (.int .i64 c.c) := by rw [hC]; rfl
  have f10 : C[10]? = some (.int .i64 c.h) := by rw [hC]; rfl
  have f11 : C[11]? = some (.int .i64 c.r) := by rw [hC]; rfl
  have f12 : C[12]? = some (.int .i64 c.q) := by rw [hC]; rfl
  clear hC
  have HL : Hid (Later w ((w.alloc (.cells C 33)).alloc (.cells #[.int .i64 c.t, .int .i64 c.l, .int .i64 c.o, .int .i64 c.d, .int .i64 c.e, .int .i64 c.c, .int .i64 c.h] 24))) := Lib.hid (((Later.refl w).alloc _ _).alloc _ _)
  go_enter Tryz.func24, Tryz.ntmps24
  go_wp2_with fail
  refine (K.out c.t _).mono ?_
  rintro e _ ⟨rfl, rfl⟩
  rw [E1.out]
  go_wp2_with fail
  refine (K.out c.l _).mono ?_
  rintro e _ ⟨rfl, rfl⟩
  rw [E2.out]
  go_wp2_with fail
  refine (K.out c.o _).mono ?_
  rintro e _ ⟨rfl, rfl⟩
  rw [E3.out]
  go_wp2_with fail
  refine (K.out c.d _).mono ?_
  rintro e _ ⟨rfl, rfl⟩
  rw [E4.out]
  go_wp2_with fail
  refine (K.out c.c _).mono ?_
  rintro e _ ⟨rfl, rfl⟩
  rw [E5.out]
  cases b1 with
  | false =>
    go_wp2_with fail
    go_ret
    exact ⟨retb (by rw [HV.out]; rfl), HL.out⟩
  | true =>
  cases b2 with
  | false =>
    go_wp2_with fail
    go_ret
    exact ⟨retb (by rw [HV.out]; rfl), HL.out⟩
  | true =>
  cases b3 with
  | false =>
    go_wp2_with fail
    go_ret
    exact ⟨retb (by rw [HV.out]; rfl), HL.out⟩
  | true =>
  cases b4 with
  | false =>
    go_wp2_with fail
    go_ret
    exact ⟨retb (by rw [HV.out]; rfl), HL.out⟩
  | true =>
  cases b5 with
  | false =>
    go_wp2_with fail
    go_ret
    exact ⟨retb (by rw [HV.out]; rfl), HL.out⟩
  | true =>
  go_wp2
  all_goals
    go_ret
    refine ⟨retb ?_, HL.out⟩
    rw [Bool.eq_iff_iff, HW.out rfl]
    simp
    try omega

end Go.Proofs.YtpkjbcgmhkkfiaaGreatDoor.Conf

/- Whether a configuration's stops may be, by the reckoning. No condition but those that each theorem states. -/
namespace Go.Proofs.YtpkjbcgmhkkfiaaGreatDoor.Conf
set_option maxRecDepth 100000
open Go.ChangeShapes Go.WideShapes Go.ChangeAt Go.RowKit
open Go.Proofs.YtpkjbcgmhkkfiaaGreatDoor.Divs Go.Proofs.YtpkjbcgmhkkfiaaGreatDoor.Grow Go.Proofs.YtpkjbcgmhkkfiaaGreatDoor.Zone
open Go.Proofs.YtpkjbcgmhkkfiaaGreatDoor.By (Sk SL bool_no bool_yes)
open Go.Proofs.YtpkjbcgmhkkfiaaGreatDoor.Each
open Go.Proofs.YtpkjbcgmhkkfiaaGreatDoor.Zo Go.Proofs.YtpkjbcgmhkkfiaaGreatDoor.Su Go.Proofs.YtpkjbcgmhkkfiaaGreatDoor.Cf

theorem to_small (c : Cg) (h : c.st.length < 2) : to c = false := by
  cases e : to c with
  | false => rfl
  | true => have := (to_iff c).1 e; omega

theorem to_not (c : Cg) (k : Nat) (hk : k < c.st.length) (h : ¬ sg c.f c.st k) : to c = false := by
  cases e : to c with
  | false => rfl
  | true => exact absurd (((to_iff c).1 e).2 k hk) h

/-- The first k stops may be. -/
def TRel (c : Cg) (W : World) (i : Value) (wr : World) : Prop := ∃ k j : Nat, k ≤ c.st.length ∧ i = .int .i64 (k : Int) ∧ su c.f c.st k ∧ wr = W.drewN j

set_option maxHeartbeats 2000000 in
theorem rstops_any (c : Cg) (u v : Value) (w : World) (hu : Sk .i64 w u c.st) : Calls Tryz.prog 23 #[.agg (cc c u v)] w fun e w' => e = .returned (.bool (to c)) ∧ Later w w' := by
  have HS : Hid (c.st.length < 2 → to c = false) := Lib.hid (to_small c)
  have HN : Hid (∀ k, k < c.st.length → ¬ sg c.f c.st k → to c = false) := Lib.hid (to_not c)
  have HY : Hid (2 ≤ c.st.length → su c.f c.st c.st.length → to c = true) := Lib.hid (fun a b => (to_iff c).2 ⟨a, b⟩)
  generalize to c = R at *
  obtain ⟨C, hC⟩ : ∃ C, C = cc c u v := ⟨_, rfl⟩
  rw [← hC]
  have f0 : C[0]? = some (.int .i64 c.f) := by rw [hC]; rfl
  have f3 : C[3]? = some u := by rw [hC]; rfl
  clear hC
  have HL := Lib.hid ((Later.refl w).alloc C 33)
  rcases Nat.eq_zero_or_pos c.st.length with h0 | h0
  · have HV := Lib.hid (HS.out (by omega))
    obtain ⟨ad, cap, rfl, _⟩ := hu.len
    rw [h0] at f3
    clear hu h0
    go_enter Tryz.func23, Tryz.ntmps23
    go_wp2_with fail
    refine wp_loop_rounds 1 ?_
    rw [rounds_succ]
    go_wp2
    go_ret
    exact ⟨retb HV.out.symm, HL.out⟩
  · obtain ⟨B, off, cap, rfl, _, m1, hB, hc⟩ := hu.has h0
    have hm : c.st.length ≤ 9223372036854775807 := by omega
    have HC : Hid (∀ i, i < c.st.length → (w.alloc (.cells C 33)).cell? ⟨B, off + i, none⟩ = some (.int .i64 (c.st.getD i 0))) := Lib.hid (fun i hi => gsome HL.out (hc i hi))
    have HA := Lib.hid (At.new w C 33)
    obtain ⟨F, hF⟩ : ∃ F, c.f = F := ⟨_, rfl⟩
    rw [hF] at f0
    have HF := Lib.hid hF
    clear hF
    have c0 := HA.out 0 _ f0
    have c3 := HA.out 3 _ f3
    clear hu hc m1 f0 f3 hB HA
    obtain ⟨n, hn⟩ : ∃ n, c.st.length = n := ⟨_, rfl⟩
    rw [hn] at hm h0 c3
    have HX := Lib.hid hn
    clear hn
    go_enter Tryz.func23, Tryz.ntmps23
    go_wp2_with fail
    generalize w.alloc (.cells C 33) = W0 at *
    go_loopw [3] (fun i wr => TRel c W0 i wr) (fun i _ => (n - intOf i).toNat)
    case atStart => exact ⟨0, 0, by omega, rfl, su_zero _ _, rfl⟩
    case round =>
      obtain ⟨k, j, hk, rfl, hs, rfl⟩ := hrel
      rw [HX.out] at hk
      have HU := Lib.hid hs
      clear hs
      by_cases hlt : k < n
      · have hx := HC.out k (by rw [HX.out]; exact hlt)
        obtain ⟨x, ex⟩ : ∃ x, c.st.getD k 0 = x := ⟨_, rfl⟩
        rw [ex] at hx
        have EX := Lib.hid ex
        clear ex
        by_cases h1 : x < 0
        · have HV := Lib.hid (HN.out k (by rw [HX.out]; exact hlt) (fun h => by
            have a := lo_pos HU.out
            have b := h.1
            rw [EX.out] at b
            omega))
          have t1 : decide (x < 0) = true := by simpa using h1
          clear h1
          go_wp2_with fail
          go_quiet (fail)
          go_wp2_with fail
          go_ret
          exact ⟨retb HV.out.symm, HL.out⟩
        · by_cases h2 : x ≥ F
          · have HV := Lib.hid (HN.out k (by rw [HX.out]; exact hlt) (fun h => by
              have b := h.2
              rw [EX.out, HF.out] at b
              omega))
            have t1 : decide (x < 0) = false := by simpa using h1
            have t2 : decide (x ≥ F) = true := by simpa using h2
            clear h1 h2
            go_wp2_with fail
            go_quiet (fail)
            go_wp2_with fail
            go_ret
            exact ⟨retb HV.out.symm, HL.out⟩
          · rcases Nat.eq_zero_or_pos k with hz | hz
            · have HT : Hid (su c.f c.st (k + 1)) := Lib.hid (su_on HU.out (by rw [sg, EX.out, HF.out, hz]; simp only [lo, if_true]; omega))
              have t1 : decide (x < 0) = false := by simpa using h1
              have t2 : decide (x ≥ F) = false := by simpa using h2
              have t3 : decide ((k : Int) > 0) = false := by simp; omega
              have t4 : decide (0 < k) = false := by simp; omega
              clear h1 h2 hz
              go_wp2_with fail
              go_quiet (fail)
              go_wp2_with fail
              go_roundw
              case rel => exact ⟨k + 1, _, by rw [HX.out]; omega, by go_num, HT.out, rfl⟩
              case measure => simp [intOf]; omega
            · obtain ⟨i, rfl⟩ : ∃ i, k = i + 1 := ⟨k - 1, by omega⟩
              clear hz
              have hy := HC.out i (by rw [HX.out]; omega)
              obtain ⟨y, ey⟩ : ∃ y, c.st.getD i 0 = y := ⟨_, rfl⟩
              rw [ey] at hy
              have EY := Lib.hid ey
              clear ey
              have hp : decide (((i + 1 : Nat) : Int) > 0) = true := by simp
              have hs : ((i + 1 : Nat) : Int) - 1 = (i : Int) := by omega
              by_cases h3 : x ≤ y
              · have HV := Lib.hid (HN.out (i + 1) (by rw [HX.out]; exact hlt) (fun h => by
                  have b := h.1
                  rw [EX.out, lo_succ, EY.out] at b
                  omega))
                have t1 : decide (x < 0) = false := by simpa using h1
                have t2 : decide (x ≥ F) = false := by simpa using h2
                have t3 : decide (x ≤ y) = true := by simpa using h3
                clear h1 h2 h3
                go_wp2_with fail
                go_quiet (fail)
                go_wp2_with fail
                go_ret
                exact ⟨retb HV.out.symm, HL.out⟩
              · have HT := Lib.hid (su_on HU.out (show sg c.f c.st (i + 1) by rw [sg, EX.out, lo_succ, EY.out, HF.out]; omega))
                have t1 : decide (x < 0) = false := by simpa using h1
                have t2 : decide (x ≥ F) = false := by simpa using h2
                have t3 : decide (x ≤ y) = false := by simpa using h3
                clear h1 h2 h3
                go_wp2_with fail
                go_quiet (fail)
                go_wp2_with fail
                go_roundw
                case rel => exact ⟨i + 2, _, by rw [HX.out]; omega, by go_num, HT.out, rfl⟩
                case measure => simp [intOf]; omega
      · obtain rfl : k = n := by omega
        by_cases h2 : k < 2
        · have HV := Lib.hid (HS.out (by rw [HX.out]; exact h2))
          go_wp2_with fail
          go_ret
          exact ⟨retb (by rw [HV.out]; simp; omega), gtrans HL.out (later_drewN W0 _)⟩
        · have HV := Lib.hid (HY.out (by rw [HX.out]; omega) (by rw [HX.out]; exact HU.out))
          go_wp2_with fail
          go_ret
          exact ⟨retb (by rw [HV.out]; simp; omega), gtrans HL.out (later_drewN W0 _)⟩

end Go.Proofs.YtpkjbcgmhkkfiaaGreatDoor.Conf

/- Whether a configuration may be, by the reckoning. No condition but those that each theorem states. -/
namespace Go.Proofs.YtpkjbcgmhkkfiaaGreatDoor.Conf
set_option maxRecDepth 100000
open Go.ChangeShapes Go.WideShapes Go.ChangeAt Go.RowKit
open Go.Proofs.YtpkjbcgmhkkfiaaGreatDoor.Divs Go.Proofs.YtpkjbcgmhkkfiaaGreatDoor.Grow Go.Proofs.YtpkjbcgmhkkfiaaGreatDoor.Zone
open Go.Proofs.YtpkjbcgmhkkfiaaGreatDoor.By (Sk SL bool_no bool_yes)
open Go.Proofs.YtpkjbcgmhkkfiaaGreatDoor.Each
open Go.Proofs.YtpkjbcgmhkkfiaaGreatDoor.Zo Go.Proofs.YtpkjbcgmhkkfiaaGreatDoor.Su Go.Proofs.YtpkjbcgmhkkfiaaGreatDoor.Cf

theorem so_iff (c : Cg) : so c = true ↔ 2 ≤ c.f ∧ c.f ≤ 64 ∧ 1 ≤ c.n ∧ c.n ≤ 8 ∧ 0 ≤ c.p ∧ c.p < c.f := by
  unfold so
  simp only [Bool.and_eq_true, bt_iff]
  omega

theorem ce_size (c : Cg) (h : ¬ so c = true) : ce c = 100 := by
  unfold ce
  rw [if_neg h]

set_option maxHeartbeats 2000000 in
theorem rcheck_size (c : Cg) (u v : Value) (w : World) (h : ¬ so c = true) : Calls Tryz.prog 11 #[.agg (cc c u v)] w fun e w' => e = .returned (.int .i64 (ce c)) ∧ Later w w' := by
  rw [ce_size c h]
  rw [so_iff] at h
  have HL := Lib.hid ((Later.refl w).alloc (cc c u v) 33)
  obtain ⟨C, hC⟩ : ∃ C, C = cc c u v := ⟨_, rfl⟩
  rw [← hC] at HL ⊢
  have f0 : C[0]? = some (.int .i64 c.f) := by rw [hC]; rfl
  have f1 : C[1]? = some (.int .i64 c.n) := by rw [hC]; rfl
  have f2 : C[2]? = some (.int .i64 c.p) := by rw [hC]; rfl
  clear hC
  generalize c.f = f at *
  generalize c.n = n at *
  generalize c.p = p at *
  by_cases h1 : f < 2
  · clear h
    go_enter Tryz.func11, Tryz.ntmps11
    go_wp2_with fail
    go_ret
    exact ⟨rfl, HL.out⟩
  by_cases h2 : f > 64
  · clear h
    go_enter Tryz.func11, Tryz.ntmps11
    go_wp2_with fail
    go_ret
    exact ⟨rfl, HL.out⟩
  by_cases h3 : n < 1
  · clear h
    go_enter Tryz.func11, Tryz.ntmps11
    go_wp2_with fail
    go_ret
    exact ⟨rfl, HL.out⟩
  by_cases h4 : n > 8
  · clear h
    go_enter Tryz.func11, Tryz.ntmps11
    go_wp2_with fail
    go_ret
    exact ⟨rfl, HL.out⟩
  by_cases h5 : p < 0
  · clear h
    go_enter Tryz.func11, Tryz.ntmps11
    go_wp2_with fail
    go_ret
    exact ⟨rfl, HL.out⟩
  by_cases h6 : p ≥ f
  · clear h
    go_enter Tryz.func11, Tryz.ntmps11
    go_wp2_with fail
    go_ret
    exact ⟨rfl, HL.out⟩
  · omega

/-- A zone, and a table of sunsets, are loaded out of a configuration. -/
theorem load_zn {ops : Array Oper} {rest : List Oper} {o : Oper} {a : Act} {W : World} {Q : Exit → Act → World → Prop} (z : Zn) (hgd : o.guard = none) (x : Operand) (ho : o.op = .load 28 x) (B off : Nat) (hx : a.eval x = .pointer (some ⟨B, off, none⟩)) (h : W.rangeAt B off (zc z).toList) (hK : wpList Tryz.prog ops Q rest (a.put o.dst (.agg (zc z))) W) : wpList Tryz.prog ops Q (o :: rest) a W := by
  have hi : (Tryz.prog.info? 28).map (·.size) = some (zc z).toList.length := by kernel_rfl
  refine wpList_load_mid (P := Tryz.prog) hgd 28 x ho B off hx (zc z).toList _ h Tryz.underlying28 rfl hi ?_
  simpa using hK

theorem load_sn {ops : Array Oper} {rest : List Oper} {o : Oper} {a : Act} {W : World} {Q : Exit → Act → World → Prop} (s : Nat → Int) (hgd : o.guard = none) (x : Operand) (ho : o.op = .load 30 x) (B off : Nat) (hx : a.eval x = .pointer (some ⟨B, off, none⟩)) (h : W.rangeAt B off (Sun.sc s).toList) (hK : wpList Tryz.prog ops Q rest (a.put o.dst (.agg (Sun.sc s))) W) : wpList Tryz.prog ops Q (o :: rest) a W := by
  have hi : (Tryz.prog.info? 30).map (·.size) = some (Sun.sc s).toList.length := by kernel_rfl
  refine wpList_load_mid (P := Tryz.prog) hgd 30 x ho B off hx (Sun.sc s).toList _ h Tryz.underlying30 rfl hi ?_
  simpa using hK

theorem cc_zone (c : Cg) (u v : Value) {W : World} {b : Nat} (h : At W b (cc c u v)) : W.rangeAt b 13 (zc c.z).toList := by
  intro j y hy
  have hj : j < 10 := by
    have := (List.getElem?_eq_some_iff.1 hy).1
    simpa [zc] using this
  refine h (13 + j) y ?_
  rw [← hy]
  match j, hj with
  | 0, _ | 1, _ | 2, _ | 3, _ | 4, _ | 5, _ | 6, _ | 7, _ | 8, _ | 9, _ => rfl
  | j + 10, hj => omega

theorem cc_sun (c : Cg) (u v : Value) {W : World} {b : Nat} (h : At W b (cc c u v)) : W.rangeAt b 23 (Sun.sc c.s).toList := by
  intro j y hy
  have hj : j < 12 := by
    have := (List.getElem?_eq_some_iff.1 hy).1
    simpa [Sun.sc] using this
  refine h (23 + j) y ?_
  rw [← hy]
  match j, hj with
  | 0, _ | 1, _ | 2, _ | 3, _ | 4, _ | 5, _ | 6, _ | 7, _ | 8, _ | 9, _ | 10, _ | 11, _ => rfl
  | j + 12, hj => omega

end Go.Proofs.YtpkjbcgmhkkfiaaGreatDoor.Conf

/- Whether a configuration may be, by the reckoning. No condition but those that each theorem states. -/
namespace Go.Proofs.YtpkjbcgmhkkfiaaGreatDoor.Conf
set_option maxRecDepth 100000
open Go.ChangeShapes Go.WideShapes Go.ChangeAt Go.RowKit
open Go.Proofs.YtpkjbcgmhkkfiaaGreatDoor.Divs Go.Proofs.YtpkjbcgmhkkfiaaGreatDoor.Grow Go.Proofs.YtpkjbcgmhkkfiaaGreatDoor.Zone
open Go.Proofs.YtpkjbcgmhkkfiaaGreatDoor.By (Sk SL bool_no bool_yes)
open Go.Proofs.YtpkjbcgmhkkfiaaGreatDoor.Each
open Go.Proofs.YtpkjbcgmhkkfiaaGreatDoor.Zo Go.Proofs.YtpkjbcgmhkkfiaaGreatDoor.Su Go.Proofs.YtpkjbcgmhkkfiaaGreatDoor.Cf

/-- The first k windows may be; the configuration lies in the block A. -/
def RRel (xs : List Wn) (C : Array Value) (A : Nat) (w : World) (i : Value) (wr : World) : Prop :=
  ∃ k : Nat, k ≤ xs.length ∧ i = .int .i64 (k : Int) ∧ (∀ j y, j < k → xs[j]? = some y → wo y = true) ∧ At wr A C ∧ Later w wr

set_option maxHeartbeats 4000000 in
theorem rcheck_rest (c : Cg) (u v : Value) (w : World) (hu : Sk .i64 w u c.st) (hv : Wk w v c.ws) (h : so c = true) : Calls Tryz.prog 11 #[.agg (cc c u v)] w fun e w' => e = .returned (.int .i64 (ce c)) ∧ Later w w' := by
  have KS := Lib.hid (fun W (g : Later w W) => rstops_any c u v W (hu.later g))
  have KT := Lib.hid (fun W => rtimes_any c u v W)
  have KZ := Lib.hid (fun W => rcheck_any c.z W)
  have KN := Lib.hid (fun W => Sun.rcheck_tab c.s W)
  have KW := Lib.hid (fun x W => rwindow_any x W)
  obtain ⟨N, hN⟩ : ∃ N, ce c = N := ⟨_, rfl⟩
  rw [hN]
  unfold ce at hN
  rw [if_pos h] at hN
  have HL := Lib.hid ((Later.refl w).alloc (cc c u v) 33)
  have HZ := Lib.hid (fun W b h => cc_zone c u v (W := W) (b := b) h)
  have HS := Lib.hid (fun W b h => cc_sun c u v (W := W) (b := b) h)
  have HA := Lib.hid (At.new w (cc c u v) 33)
  rw [so_iff] at h
  obtain ⟨C, hC⟩ : ∃ C, C = cc c u v := ⟨_, rfl⟩
  rw [← hC] at HL HA HZ HS KS KT ⊢
  have f0 : C[0]? = some (.int .i64 c.f) := by rw [hC]; rfl
  have f1 : C[1]? = some (.int .i64 c.n) := by rw [hC]; rfl
  have f2 : C[2]? = some (.int .i64 c.p) := by rw [hC]; rfl
  have F36 : Hid (C[36]? = some v) := Lib.hid (by rw [hC]; rfl)
  have HC : Hid (C.size = 37) := Lib.hid (by rw [hC]; rfl)
  clear hC
  have HV := Lib.hid hv
  clear hu hv
  generalize to c = b1 at *
  generalize ti c = b2 at *
  generalize ck c.z = x at *
  generalize sk c.s = y at *
  have HN := Lib.hid hN
  clear hN
  generalize c.f = f at *
  generalize c.n = n at *
  generalize c.p = p at *
  generalize c.ws = xs at *
  generalize c.z = z at *
  generalize c.s = s at *
  obtain ⟨h1, h2, h3, h4, h5, h6⟩ := h
  have g1 : ¬ f < 2 := by omega
  have g2 : ¬ f > 64 := by omega
  have g3 : ¬ n < 1 := by omega
  have g4 : ¬ n > 8 := by omega
  have g5 : ¬ p < 0 := by omega
  have g6 : ¬ p ≥ f := by omega
  clear h1 h2 h3 h4 h5 h6
  go_enter Tryz.func11, Tryz.ntmps11
  go_wp2_with (refine load_at C HC.out rfl (.tmp 1) rfl w.heap.size rfl HA.out ?_)
  clear g1 g2 g3 g4 g5 g6 f0 f1 f2
  refine (KS.out _ HL.out).mono ?_
  rintro e w1 ⟨rfl, hg1⟩
  have HL1 := Lib.hid (gtrans HL.out hg1)
  have HA1 := Lib.hid (HA.out.later hg1)
  clear hg1
  cases b1 with
  | false =>
    go_wp2_with fail
    go_ret
    exact ⟨ret1 (by rw [← HN.out]; rfl), HL1.out⟩
  | true =>
  go_wp2_with (refine load_at C HC.out rfl (.tmp 1) rfl w.heap.size rfl HA1.out ?_)
  refine (KT.out _).mono ?_
  rintro e w2 ⟨rfl, hg2⟩
  have HL2 := Lib.hid (gtrans HL1.out hg2)
  have HA2 := Lib.hid (HA1.out.later hg2)
  clear hg2
  cases b2 with
  | false =>
    go_wp2_with fail
    go_ret
    exact ⟨ret1 (by rw [← HN.out]; rfl), HL2.out⟩
  | true =>
  go_wp2_with (refine load_zn z rfl (.tmp 47) rfl w.heap.size 13 rfl (HZ.out _ _ HA2.out) ?_)
  refine (KZ.out _).mono ?_
  rintro e w3 ⟨rfl, hg3⟩
  have HL3 := Lib.hid (gtrans HL2.out hg3)
  have HA3 := Lib.hid (HA2.out.later hg3)
  clear hg3
  by_cases hx : x = 0
  case neg =>
    have t : (x != 0) = true := by simpa using hx
    have HV' : Hid (N = x) := Lib.hid (by rw [← HN.out]; simp [hx])
    clear hx
    go_wp2_with fail
    go_ret
    exact ⟨ret1 HV'.out.symm, HL3.out⟩
  subst hx
  go_wp2_with (refine load_sn s rfl (.tmp 53) rfl w.heap.size 23 rfl (HS.out _ _ HA3.out) ?_)
  refine (KN.out _).mono ?_
  rintro e w4 ⟨rfl, hg4⟩
  have HL4 := Lib.hid (gtrans HL3.out hg4)
  have HA4 := Lib.hid (HA3.out.later hg4)
  clear hg4
  by_cases hy : y = 0
  case neg =>
    have t : (y != 0) = true := by simpa using hy
    have HV' : Hid (N = y) := Lib.hid (by rw [← HN.out]; simp [hy])
    clear hy
    go_wp2_with fail
    go_ret
    exact ⟨ret1 HV'.out.symm, HL4.out⟩
  subst hy
  have HN' : Hid (N = if xs.length ≤ 16 then (if wa xs = true then 0 else 104) else 103) := Lib.hid (by rw [← HN.out]; simp)
  have c36 := HA4.out 36 _ F36.out
  have wv := HV.out.later HL4.out
  rcases Nat.eq_zero_or_pos xs.length with h0 | h0
  · have HV' : Hid (N = 0) := Lib.hid (by rw [HN'.out, List.length_eq_zero_iff.1 h0]; rfl)
    obtain ⟨ad, cap, rfl, hm⟩ := wv.len
    rw [h0] at c36
    clear wv hm h0
    go_wp2_with fail
    refine wp_loop_rounds 1 ?_
    rw [rounds_succ]
    go_wp2
    go_ret
    exact ⟨ret1 HV'.out.symm, HL4.out⟩
  · obtain ⟨B, off, cap, rfl, hm, hB, hc⟩ := wv.has h0
    clear hB wv
    obtain ⟨n, hn⟩ : ∃ n, xs.length = n := ⟨_, rfl⟩
    rw [hn] at h0 hm c36 HN' F36
    have HX := Lib.hid hn
    clear hn
    by_cases h16 : n ≤ 16
    case neg =>
      have t : decide ((n : Int) > 16) = true := by simp; omega
      have HV' : Hid (N = 103) := Lib.hid (by rw [HN'.out, if_neg h16])
      clear hc h16
      go_wp2_with fail
      go_ret
      exact ⟨ret1 HV'.out.symm, HL4.out⟩
    have t : decide ((n : Int) > 16) = false := by simp; omega
    have HR := Lib.hid hc
    have HM : Hid (N = if wa xs = true then 0 else 104) := Lib.hid (by rw [HN'.out, if_pos h16])
    clear hc h16
    have ad : ∀ j, (⟨B, off, none⟩ : Addr).add j = ⟨B, off + j, none⟩ := Addr.add_mid B off
    go_wp2_with fail
    clear t c36
    go_loopw [7] (fun i wr => RRel xs C w.heap.size w4 i wr) (fun i _ => n - (intOf i).toNat)
    case atStart => exact ⟨0, by omega, rfl, by omega, HA4.out, Later.refl _⟩
    case round =>
      obtain ⟨k, hk, rfl, hj, ha, hg⟩ := hrel
      rw [HX.out] at hk
      have HG := Lib.hid hg
      have HA5 := Lib.hid ha
      have HJ := Lib.hid hj
      clear hg ha hj
      have c36 := HA5.out 36 _ F36.out
      by_cases hlt : k < n
      · obtain ⟨x, hx⟩ : ∃ x, xs[k]? = some x := ⟨_, List.getElem?_eq_getElem (by rw [HX.out]; exact hlt)⟩
        have hr := HR.out k x hx
        have HR' : Hid (wr.rangeAt B (off + k * 7) (wc x)) := Lib.hid (fun j y hy => gsome HG.out (hr j y hy))
        have HE := Lib.hid hx
        clear hr hx
        have K' := Lib.hid (fun W => KW.out x W)
        unfold wc at K'
        go_wp2_with (refine load_win x rfl (.tmp 73) rfl B (off + k * 7) rfl HR'.out ?_)
        refine (K'.out _).mono ?_
        rintro e w5 ⟨rfl, hg5⟩
        have HG5 := Lib.hid (gtrans HG.out hg5)
        have HA6 := Lib.hid (HA5.out.later hg5)
        clear hg5 c36
        cases hb : wo x with
        | false =>
          have HV' : Hid (N = 104) := Lib.hid (by rw [HM.out, wa_no HE.out hb]; rfl)
          clear hb
          go_wp2_with fail
          go_ret
          exact ⟨ret1 HV'.out.symm, gtrans HL4.out HG5.out⟩
        | true =>
          have HJ' : Hid (∀ j y, j < k + 1 → xs[j]? = some y → wo y = true) := Lib.hid (fun j y hj hy => by
            by_cases e : j = k
            · subst e
              rw [HE.out] at hy
              obtain rfl := Option.some.inj hy
              exact hb
            · exact HJ.out j y (by omega) hy)
          clear hb
          go_wp2_with fail
          go_roundw
          case rel => exact ⟨k + 1, by rw [HX.out]; omega, by go_num, HJ'.out, HA6.out, HG5.out⟩
          case measure => simp [intOf]; omega
      · obtain rfl : k = n := by omega
        have HV' : Hid (N = 0) := Lib.hid (by rw [HM.out, wa_yes (fun j x hl hx => HJ.out j x (by rw [← HX.out]; exact hl) hx)]; rfl)
        go_wp2_with fail
        go_ret
        exact ⟨ret1 HV'.out.symm, gtrans HL4.out HG.out⟩

theorem rcfg_any (c : Cg) (u v : Value) (w : World) (hu : Sk .i64 w u c.st) (hv : Wk w v c.ws) : Calls Tryz.prog 11 #[.agg (cc c u v)] w fun e w' => e = .returned (.int .i64 (ce c)) ∧ Later w w' := by
  by_cases h : so c = true
  · exact rcheck_rest c u v w hu hv h
  · exact rcheck_size c u v w h

end Go.Proofs.YtpkjbcgmhkkfiaaGreatDoor.Conf
