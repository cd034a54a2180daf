/-
  The months of a Hebrew year that have days, as the program goes through them: what its iterator hands to a loop, whatever the loop's body does, so long as the body keeps the year's own block. Conditions: as each theorem says.
-/
import Derived.RangeFuncNested
import Derived.RangeFuncBound
import Derived.RangeFuncCalls
import Derived.RangeFuncLeaves
import Derived.Shelf.Abstract
import Derived.Shelf.RegionOpen
import Derived.WalkKit
import Derived.OwnWalkIn
import Derived.TacticsInMore
import Derived.LoopNIn
import Derived.LoopIn
import Derived.Test.YtdoahnkjkbpdaaaHd
namespace Go.Proofs.Ytdoahnkjkbpdaaa.Hebrew
open Go.ChangeShapes Go.WideShapes Go.ChangeAt Go.RowKit Go.Shelf
open Go.Proofs.Ytdoahnkjkbpdaaa.Divs Go.Proofs.Ytdoahnkjkbpdaaa.Grow Go.Proofs.Ytdoahnkjkbpdaaa.Mol
open Go.Proofs.Ytdoahnkjkbpdaaa.Year (lh mh pt md mp p1 p2 po dl ny yl)
open Go.Proofs.Ytdoahnkjkbpdaaa.Heb (hd ha ups)

attribute [local go_sem] Oper.semAt_some

/-- Block B holds what it held. -/
def Kept (B : Nat) (W W' : World) : Prop := ∀ i v, W.cell? ⟨B, i, none⟩ = some v → W'.cell? ⟨B, i, none⟩ = some v

theorem Kept.refl (B : Nat) (W : World) : Kept B W W := fun _ _ h => h
theorem Kept.trans {B : Nat} {W W' W'' : World} (h : Kept B W W') (k : Kept B W' W'') : Kept B W W'' := fun i v e => k i v (h i v e)
theorem Kept.alloc {B : Nat} {W W' : World} (h : Kept B W W') (o : Obj) : Kept B W (W'.alloc o) := fun i v e => gsome ((Later.refl W').put o) (h i v e)
theorem Kept.book {B : Nat} (W : World) (l : Nat) (o o' : Obj) (h : W.heap[l]? = some o) (hc : o.isCells = false) : Kept B W (W.putObj l o') :=
  fun i v e => cell_kept e (grownBy_putObj' W l o') (fun r x => by cases x; exact ⟨o, h, hc⟩)
theorem Kept.setCell {B : Nat} {W W' : World} (h : Kept B W W') {p : Addr} (hp : p.block ≠ B) (v : Value) : Kept B W (W'.setCell p v) :=
  fun i u e => (World.cell?_of_block (w := W') (Below.heap_setCell _ _ _ _ (fun x => hp x.symm))).trans (h i u e)

/-- Block B holds a year. -/
def IsYear (B : Nat) (h f l : Int) (b : Bool) (W : World) : Prop :=
  W.cell? ⟨B, 0, none⟩ = some (.int .i64 h) ∧ W.cell? ⟨B, 1, none⟩ = some (.int .i64 f) ∧ W.cell? ⟨B, 2, none⟩ = some (.int .i64 l) ∧ W.cell? ⟨B, 3, none⟩ = some (.bool b)

theorem IsYear.kept {B : Nat} {h f l : Int} {b : Bool} {W W' : World} (y : IsYear B h f l b W) (k : Kept B W W') : IsYear B h f l b W' :=
  ⟨k _ _ y.1, k _ _ y.2.1, k _ _ y.2.2.1, k _ _ y.2.2.2⟩

/-- What has come ahead of month m. -/
def upz (l : Int) (b : Bool) (m : Int) : List (Int × Int) := ups l b (m - 1).toNat

theorem upz_none (l : Int) (b : Bool) (m : Int) (h1 : 1 ≤ m) (h : hd l b m = 0) : upz l b (m + 1) = upz l b m := by
  unfold upz
  rw [show (m + 1 - 1).toNat = (m - 1).toNat + 1 by omega]
  exact Heb.ups_none l b _ (by rw [show (((m - 1).toNat : Nat) : Int) + 1 = m by omega]; exact h)

theorem upz_one (l : Int) (b : Bool) (m : Int) (h1 : 1 ≤ m) (h : ¬ hd l b m = 0) : upz l b (m + 1) = upz l b m ++ [(m, hd l b m)] := by
  unfold upz
  have e : (((m - 1).toNat : Nat) : Int) + 1 = m := by omega
  have k := Heb.ups_one l b (m - 1).toNat (by rw [e]; exact h)
  rw [e] at k
  rw [show (m + 1 - 1).toNat = (m - 1).toNat + 1 by omega]
  exact k

theorem upz_len (l : Int) (b : Bool) (m : Int) (h1 : 1 ≤ m) (h2 : m ≤ 13) : (upz l b m).length < 13 := by
  have := Heb.ups_length l b (m - 1).toNat
  unfold upz
  omega

theorem months_any (h f l : Int) (b : Bool) (w : World) :
    Calls Try.prog 65 #[.agg #[.int .i64 h, .int .i64 f, .int .i64 l, .bool b]] w fun e w' => e = .returned (.func (.func 77) #[] #[.pointer (some ⟨w.heap.size, 0, none⟩)]) ∧ w' = w.alloc (.cells #[.int .i64 h, .int .i64 f, .int .i64 l, .bool b] 62) := by
  go_enter Try.func65, Try.ntmps65
  go_wp2
  go_ret
  exact ⟨rfl, rfl⟩

set_option maxRecDepth 100000 in
set_option maxHeartbeats 2000000 in
theorem months1_in (n : Nat) (hn : 1 ≤ n) (h f l : Int) (b : Bool) (l0 : 0 ≤ l) (lo B : Nat) (J Jx : List (Int × Int) → World → Prop) (W : World) (hJ : AbidesFrom W.heap.size J)
    (hY : ∀ pre x W, J pre W → pre.length < 13 → YieldAt Fence.wide (n - 1) Try.prog lo #[.int .i64 x.1, .int .i64 x.2] W fun e W' =>
      (e = .returned (.bool true) ∧ J (pre ++ [x]) W' ∧ Kept B W W') ∨ (e = .returned (.bool false) ∧ Jx (pre ++ [x]) W'))
    (hc : IsYear B h f l b W) (h0 : J [] W) :
    CallsIn Fence.wide n Try.prog 77 #[.func (.yield lo) #[] #[], .pointer (some ⟨B, 0, none⟩)] W fun e W' => (∃ v, e = .returned v) ∧
      ((∃ xs, xs = ups l b 13 ∧ J xs W') ∨ (∃ pre, (∃ k, k ≤ 13 ∧ pre = ups l b k) ∧ Jx pre W')) := by
  have D := Lib.hid (fun m W => ydays_any h f l b m W l0)
  refine callsIn_of_wp Try.func77 rfl trivial ?_ rfl
  simp only [Try.ntmps77, List.size_toArray, List.length_cons, List.length_nil, Nat.reduceAdd, Nat.reduceSub, Array.replicate_succ, Array.replicate_zero, List.push_toArray, List.append_toArray, List.nil_append, List.cons_append]
  gi_wp2
  gi_loopw [3] (fun i wr => ∃ m : Int, 1 ≤ m ∧ m ≤ 14 ∧ i = .int .i64 m ∧ J (upz l b m) wr ∧ Kept B W wr)
    (fun i _ => 20 - (intOf i).toNat)
  case atStart => exact ⟨1, by omega, by omega, rfl, h0, Kept.refl _ _⟩
  case round =>
    obtain ⟨m, m1, m2, rfl, hJs, hk⟩ := hrel
    by_cases hlt : m ≤ 13
    · have hJa : J (upz l b m) (wr.alloc (.cells (yv h f l b) 62)) := hJ _ _ _ none hJs (World.grownBy_alloc wr _ none) (fun r e => by cases e)
      have hka : Kept B W (wr.alloc (.cells (yv h f l b) 62)) := hk.alloc _
      obtain ⟨y0, y1, y2, y3⟩ := hc.kept hk
      have hb := Heb.hd_bd l b m
      by_cases hz : hd l b m = 0
      · have t : (hd l b m != 0) = false := by simp [hz]
        have U := Lib.hid (upz_none l b m m1 hz)
        clear hz
        gi_wp2_with (refine ⟨trivial, ?_⟩; gi_at_call 51; refine (callsIn_wide.2 (D.out _ _)).mono ?_; rintro e w1 ⟨rfl, rfl⟩)
        refine ⟨fun _ h => (by cases h), ?_⟩
        gi_wp2
        go_roundw
        case rel => exact ⟨m + 1, by omega, by omega, rfl, by rw [U.out]; exact hJa, hka⟩
        case measure => simp [intOf]; omega
      · have t : (hd l b m != 0) = true := by simpa using hz
        have U := Lib.hid (upz_one l b m m1 hz)
        clear hz
        obtain ⟨fn, tmps, assign, body, hy, hR⟩ := hY _ (m, hd l b m) _ hJa (upz_len l b m m1 hlt)
        dsimp only at hy
        gi_wp2_with (refine ⟨trivial, ?_⟩; gi_at_call 51; refine (callsIn_wide.2 (D.out _ _)).mono ?_; rintro e w1 ⟨rfl, rfl⟩)
        refine hR.mono ?_
        rintro e W3 (⟨rfl, hJ3, hk3⟩ | ⟨rfl, hJx3⟩)
        · gi_wp2
          go_roundw
          case rel => exact ⟨m + 1, by omega, by omega, rfl, by rw [U.out]; exact hJ3, hka.trans hk3⟩
          case measure => simp [intOf]; omega
        · gi_wp2
          refine bodyPost_ret (results_none rfl _ _ _) rfl ?_
          exact ⟨⟨_, rfl⟩, .inr ⟨_, ⟨m.toNat, by omega, by rw [← U.out]; unfold upz; rw [show (m + 1 - 1).toNat = m.toNat by omega]⟩, hJx3⟩⟩
    · obtain rfl : m = 14 := by omega
      gi_wp2
      go_end0
      exact ⟨⟨_, rfl⟩, .inl hJs⟩

/-- The iterator's contract: the months that have days, in order; or the first of them, where the body leaves. -/
theorem months_stops (n : Nat) (hn : 1 ≤ n) (h f l : Int) (b : Bool) (l0 : 0 ≤ l) (B : Nat) (w : World) (hB : B < w.heap.size) (hc : IsYear B h f l b w) :
    SeqStopsK Fence.wide n Try.prog 77 #[.pointer (some ⟨B, 0, none⟩)] (fun x : Int × Int => #[Value.int .i64 x.1, Value.int .i64 x.2]) (Kept B) (fun xs => xs = ups l b 13)
      (fun pre => ∃ k, k ≤ 13 ∧ pre = ups l b k) 13 w := fun lo J Jx W hW hJ _ hY h0 =>
  months1_in n hn h f l b l0 lo B J Jx W hJ hY (hc.kept fun i _ e => (hW.cell (p := ⟨B, i, none⟩) hB).trans e) h0

end Go.Proofs.Ytdoahnkjkbpdaaa.Hebrew
