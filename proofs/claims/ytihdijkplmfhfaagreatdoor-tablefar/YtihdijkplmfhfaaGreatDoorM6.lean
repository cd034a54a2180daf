/-
  Texts of mine, merged: each part says what it holds. Conditions: as each theorem states.
-/
import Derived.RangeFuncNested
import Derived.RangeFuncBound
import Derived.RangeFuncCalls
import Derived.RangeFuncLeaves
import Derived.Shelf.Abstract
import Derived.Shelf.RegionOpen
import Derived.WalkKit
import Derived.OwnWalkIn
import Derived.TacticsInMore
import Derived.LoopNIn
import Derived.LoopIn
import Derived.Scope
import Derived.Test.YtihdijkplmfhfaaGreatDoorM5

/- How many days a Hebrew month has, by the program: a year reckoned, a month's days. Conditions: the numbers are ints; the years are from 3762 to 9999 or not, as each theorem says. -/
namespace Go.Proofs.YtihdijkplmfhfaaGreatDoor.Hebrew
set_option maxRecDepth 100000
open Go.ChangeShapes Go.WideShapes Go.ChangeAt Go.RowKit
open Go.Proofs.YtihdijkplmfhfaaGreatDoor.Divs Go.Proofs.YtihdijkplmfhfaaGreatDoor.Grow Go.Proofs.YtihdijkplmfhfaaGreatDoor.Mol
open Go.Proofs.YtihdijkplmfhfaaGreatDoor.Year (lh mh pt md mp p1 p2 po dl ny yl)
open Go.Proofs.YtihdijkplmfhfaaGreatDoor.Heb (hd ha ups)

theorem longif_yes (w : World) : Calls Tryz.prog 224 #[.bool true] w fun e w' => e = .returned (.int .i64 30) ∧ w = w' := by
  go_enter Tryz.func224, Tryz.ntmps224
  go_wp2
  go_ret
  exact ⟨rfl, rfl⟩

theorem longif_no (w : World) : Calls Tryz.prog 224 #[.bool false] w fun e w' => e = .returned (.int .i64 29) ∧ w = w' := by
  go_enter Tryz.func224, Tryz.ntmps224
  go_wp2
  go_ret
  exact ⟨rfl, rfl⟩

/-- The block that a year's value makes where it is a parameter. -/
def yv (h f l : Int) (b : Bool) : Array Value := #[.int .i64 h, .int .i64 f, .int .i64 l, .bool b]

theorem ydays_out (h f l : Int) (b : Bool) (m : Int) (w : World) (ho : m < 1 ∨ 13 < m) :
    Calls Tryz.prog 221 #[.agg #[.int .i64 h, .int .i64 f, .int .i64 l, .bool b], .int .i64 m] w fun e w' => e = .returned (.int .i64 0) ∧ w' = w.alloc (.cells (yv h f l b) 219) := by
  have t1 : (m == 1) = false := by simp; omega
  have t2 : (m == 2) = false := by simp; omega
  have t3 : (m == 3) = false := by simp; omega
  have t4 : (m == 4) = false := by simp; omega
  have t5 : (m == 5) = false := by simp; omega
  have t6 : (m == 6) = false := by simp; omega
  have t7 : (m == 7) = false := by simp; omega
  have t8 : (m == 8) = false := by simp; omega
  have t9 : (m == 9) = false := by simp; omega
  have t10 : (m == 10) = false := by simp; omega
  have t11 : (m == 11) = false := by simp; omega
  have t12 : (m == 12) = false := by simp; omega
  have t13 : (m == 13) = false := by simp; omega
  clear ho
  go_enter Tryz.func221, Tryz.ntmps221
  go_wp2
  go_ret
  exact ⟨rfl, rfl⟩

set_option maxHeartbeats 1000000 in
theorem ydays_any (h f l : Int) (b : Bool) (m : Int) (w : World) (l0 : 0 ≤ l) :
    Calls Tryz.prog 221 #[.agg #[.int .i64 h, .int .i64 f, .int .i64 l, .bool b], .int .i64 m] w fun e w' => e = .returned (.int .i64 (hd l b m)) ∧ w' = w.alloc (.cells (yv h f l b) 219) := by
  by_cases ho : m < 1 ∨ 13 < m
  · rw [Heb.hd_out l b m ho]
    exact ydays_out h f l b m w ho
  have hm : l.tmod 10 = l % 10 := Int.tmod_eq_emod_of_nonneg l0
  have Y := Lib.hid longif_yes
  have N := Lib.hid longif_no
  rcases Heb.months_all m (by omega) (by omega) with rfl | rfl | rfl | rfl | rfl | rfl | rfl | rfl | rfl | rfl | rfl | rfl | rfl
  · go_enter Tryz.func221, Tryz.ntmps221
    go_wp2
    go_ret
    exact ⟨ret1 (by simp [hd]), rfl⟩
  · by_cases h5 : l % 10 = 5
    · have t : (l % 10 == 5) = true := beq_iff_eq.2 h5
      have HS := Lib.hid h5
      clear h5
      go_enter Tryz.func221, Tryz.ntmps221
      go_wp2_with fail
      refine (Y.out _).mono ?_
      rintro e w1 ⟨rfl, rfl⟩
      go_wp2_with fail
      go_ret
      exact ⟨ret1 (by simp [hd, HS.out]), rfl⟩
    · have t : (l % 10 == 5) = false := by simpa using h5
      have HS := Lib.hid h5
      clear h5
      go_enter Tryz.func221, Tryz.ntmps221
      go_wp2_with fail
      refine (N.out _).mono ?_
      rintro e w1 ⟨rfl, rfl⟩
      go_wp2_with fail
      go_ret
      exact ⟨ret1 (by simp [hd, HS.out]), rfl⟩
  · by_cases h3 : l % 10 = 3
    · have t : (l % 10 != 3) = false := by simp [h3]
      have HS := Lib.hid h3
      clear h3
      go_enter Tryz.func221, Tryz.ntmps221
      go_wp2_with fail
      refine (N.out _).mono ?_
      rintro e w1 ⟨rfl, rfl⟩
      go_wp2_with fail
      go_ret
      exact ⟨ret1 (by simp [hd, HS.out]), rfl⟩
    · have t : (l % 10 != 3) = true := by simpa using h3
      have HS := Lib.hid h3
      clear h3
      go_enter Tryz.func221, Tryz.ntmps221
      go_wp2_with fail
      refine (Y.out _).mono ?_
      rintro e w1 ⟨rfl, rfl⟩
      go_wp2_with fail
      go_ret
      exact ⟨ret1 (by simp [hd, HS.out]), rfl⟩
  · go_enter Tryz.func221, Tryz.ntmps221
    go_wp2
    go_ret
    exact ⟨ret1 (by simp [hd]), rfl⟩
  · go_enter Tryz.func221, Tryz.ntmps221
    go_wp2
    go_ret
    exact ⟨ret1 (by simp [hd]), rfl⟩
  · cases b with
    | true =>
      go_enter Tryz.func221, Tryz.ntmps221
      go_wp2
      go_ret
      exact ⟨ret1 (by simp [hd]), rfl⟩
    | false =>
      go_enter Tryz.func221, Tryz.ntmps221
      go_wp2
      go_ret
      exact ⟨ret1 (by simp [hd]), rfl⟩
  all_goals
    go_enter Tryz.func221, Tryz.ntmps221
    go_wp2
    go_ret
    exact ⟨ret1 (by simp [hd]), rfl⟩

theorem cell4 {w w1 : World} {c : Array Value} {t : TypeId} (hg : Later (w.alloc (.cells c t)) w1) (i : Nat) {v : Value} (hc : c[i]? = some v) : w1.cell? ⟨w.heap.size, i, none⟩ = some v :=
  gsome hg (by rw [World.cell?_alloc_new]; exact hc)

theorem froz4 {w w1 : World} {c : Array Value} {t : TypeId} (hg : Later (w.alloc (.cells c t)) w1) (i : Nat) : w1.frozen? ⟨w.heap.size, i, none⟩ = false := by
  rw [gfrozen hg _ _ (by simp), frozen?_alloc_cells]
  simp [World.frozen?]

theorem cellN {X W : World} {c : Array Value} {t : TypeId} (hg : Later (X.alloc (.cells c t)) W) {n : Nat} (hn : X.heap.size = n) (i : Nat) {v : Value} (hc : c[i]? = some v) : W.cell? ⟨n, i, none⟩ = some v := hn ▸ cell4 hg i hc
theorem frozN {X W : World} {c : Array Value} {t : TypeId} (hg : Later (X.alloc (.cells c t)) W) {n : Nat} (hn : X.heap.size = n) (i : Nat) : W.frozen? ⟨n, i, none⟩ = false := hn ▸ froz4 hg i

/-- A store into a row that is known. -/
theorem row_set {X : World} {b : Nat} {c : Array Value} {t : TypeId} {fr : Nat × Nat} {k : Nat} {v : Value} (h : X.heap[b]? = some (.cells c t fr)) :
    (X.setCell ⟨b, k, none⟩ v).heap[b]? = some (.cells (c.setIfInBounds k v) t fr) := by
  simp [World.setCell, Array.getElem?_modify, h]

theorem row4 {X : World} {b : Nat} {t : TypeId} {fr : Nat × Nat} {u0 u1 u2 u3 v0 v1 v2 v3 : Value} (h : X.heap[b]? = some (.cells #[u0, u1, u2, u3] t fr)) :
    ((((X.setCell ⟨b, 0, none⟩ v0).setCell ⟨b, 1, none⟩ v1).setCell ⟨b, 2, none⟩ v2).setCell ⟨b, 3, none⟩ v3).heap[b]? = some (.cells #[v0, v1, v2, v3] t fr) := by
  have g := (row_set (k := 3) (v := v3) (row_set (k := 2) (v := v2) (row_set (k := 1) (v := v1) (row_set (k := 0) (v := v0) h))))
  simpa using g

theorem row3 {X : World} {b : Nat} {t : TypeId} {fr : Nat × Nat} {u0 u1 u2 v0 v1 v2 : Value} (h : X.heap[b]? = some (.cells #[u0, u1, u2] t fr)) :
    (((X.setCell ⟨b, 0, none⟩ v0).setCell ⟨b, 1, none⟩ v1).setCell ⟨b, 2, none⟩ v2).heap[b]? = some (.cells #[v0, v1, v2] t fr) := by
  have g := (row_set (k := 2) (v := v2) (row_set (k := 1) (v := v1) (row_set (k := 0) (v := v0) h)))
  simpa using g

theorem heap_late {w w1 : World} {o : Obj} (hg : Later (w.alloc o) w1) : w1.heap[w.heap.size]? = some o := by
  rw [hg.2.2.2 _ (by simp)]
  exact heap_alloc_new w o

/-- Two results: a struct in a block, and a slot. -/
theorem results_row_tmp {P : Program} {fn : Func} {p q : Tmp} {ty : TypeId} (h : fn.results = #[.cell p ty, .tmp q]) (tmps : Array Value) (w : World) (g : Nat) (t : TypeId) (cs : Array Value) (fr : Nat × Nat) (d : TypeDesc) (v : Value)
    (hp : tmps.getD p undef = .pointer (some ⟨g, 0, none⟩)) (hq : tmps.getD q undef = v) (hg : w.heap[g]? = some (.cells cs t fr))
    (hu : P.underlying ty = some d) (hd : (match d with | .struct _ | .array _ _ => true | _ => false) = true) (hi : (P.info? ty).map (·.size) = some cs.size) :
    (results fn tmps).run P w = .ok (.tuple #[.agg cs, v]) w := by
  have hp' : tmps[p]?.getD undef = .pointer (some ⟨g, 0, none⟩) := by simpa using hp
  have hq' : tmps[q]?.getD undef = v := by simpa using hq
  simp [results, h, hp', hq', asAddr, run_loadVar_row w g t ty cs fr d hg hu hd hi]

theorem yreckon_no (h : Int) (w : World) (hb : h < 3762 ∨ 9999 < h) :
    Calls Tryz.prog 206 #[.int .i64 h] w fun e w' => e = .returned (.tuple #[.agg #[.int .i64 0, .int .i64 0, .int .i64 0, .bool false], .bool false]) ∧ Later w w' := by
  have N := Lib.hid (fun W => newyear_no h W hb)
  clear hb
  go_enter Tryz.func206, Tryz.ntmps206
  go_wp2_with fail
  refine (N.out _).mono ?_
  rintro e w1 ⟨rfl, rfl⟩
  go_wp2_with fail
  refine bodyPost_ret (v := .tuple #[.agg #[.int .i64 0, .int .i64 0, .int .i64 0, .bool false], .bool false]) ?_ rfl ⟨rfl, ?_⟩
  · exact results_row_tmp (P := Tryz.prog) (fn := Tryz.f206) Tryz.results206 _ _ w.heap.size 219 _ (0, 0) _ _ rfl rfl (heap_alloc_new w _) Tryz.underlying219 rfl (by kernel_rfl)
  exact (Later.refl w).alloc _ _

theorem yreckon_yes (h : Int) (w : World) (h1 : 3762 ≤ h) (h2 : h ≤ 9999) :
    Calls Tryz.prog 206 #[.int .i64 h] w fun e w' => e = .returned (.tuple #[.agg #[.int .i64 h, .int .i64 (ny h), .int .i64 (yl h), .bool (lh h)], .bool true]) ∧ Later w w' := by
  have N := Lib.hid (fun W => newyear_yes h W h1 h2)
  have L := Lib.hid (fun W => len_yes h W h1 h2)
  have B := Lib.hid (fun W => drew_g (leap_any h W (by omega) (by omega)))
  go_enter Tryz.func206, Tryz.ntmps206
  go_wp2_with fail
  refine (N.out _).mono ?_
  rintro e w1 ⟨rfl, hg1⟩
  go_wp2_with fail
  refine (L.out _).mono ?_
  rintro e w2 ⟨rfl, hg2⟩
  go_wp2_with fail
  refine (B.out _).mono ?_
  rintro e w3 ⟨rfl, hg3⟩
  have hg := gtrans hg1 (gtrans hg2 hg3)
  have c0 := cell4 hg 0 rfl
  have c1 := cell4 hg 1 rfl
  have c2 := cell4 hg 2 rfl
  have c3 := cell4 hg 3 rfl
  have f0 := froz4 hg 0
  have f1 := froz4 hg 1
  have f2 := froz4 hg 2
  have f3 := froz4 hg 3
  go_wp2_with fail
  refine bodyPost_ret (v := .tuple #[.agg #[.int .i64 h, .int .i64 (ny h), .int .i64 (yl h), .bool (lh h)], .bool true]) ?_ rfl ⟨rfl, ?_⟩
  · exact results_row_tmp (P := Tryz.prog) (fn := Tryz.f206) Tryz.results206 _ _ w.heap.size 219 _ (0, 0) _ _ rfl rfl (row4 (heap_late hg)) Tryz.underlying219 rfl (by kernel_rfl)
  exact ((((gtrans ((Later.refl w).alloc _ _) hg).setCell (Nat.le_refl _) _).setCell (Nat.le_refl _) _).setCell (Nat.le_refl _) _).setCell (Nat.le_refl _) _

end Go.Proofs.YtihdijkplmfhfaaGreatDoor.Hebrew

/- The months of a Hebrew year that have days, as the program goes through them: what its iterator hands to a loop, whatever the loop's body does, so long as the body keeps the year's own block. Conditions: as each theorem says. -/
namespace Go.Proofs.YtihdijkplmfhfaaGreatDoor.Hebrew
set_option maxRecDepth 100000
open Go.ChangeShapes Go.WideShapes Go.ChangeAt Go.RowKit Go.Shelf
open Go.Proofs.YtihdijkplmfhfaaGreatDoor.Divs Go.Proofs.YtihdijkplmfhfaaGreatDoor.Grow Go.Proofs.YtihdijkplmfhfaaGreatDoor.Mol
open Go.Proofs.YtihdijkplmfhfaaGreatDoor.Year (lh mh pt md mp p1 p2 po dl ny yl)
open Go.Proofs.YtihdijkplmfhfaaGreatDoor.Heb (hd ha ups)

attribute [local go_sem] Oper.semAt_some

/-- Block B holds what it held. -/
def Kept (B : Nat) (W W' : World) : Prop := ∀ i v, W.cell? ⟨B, i, none⟩ = some v → W'.cell? ⟨B, i, none⟩ = some v

theorem Kept.refl (B : Nat) (W : World) : Kept B W W := fun _ _ h => h
theorem Kept.trans {B : Nat} {W W' W'' : World} (h : Kept B W W') (k : Kept B W' W'') : Kept B W W'' := fun i v e => k i v (h i v e)
theorem Kept.alloc {B : Nat} {W W' : World} (h : Kept B W W') (o : Obj) : Kept B W (W'.alloc o) := fun i v e => gsome ((Later.refl W').put o) (h i v e)
theorem Kept.book {B : Nat} (W : World) (l : Nat) (o o' : Obj) (h : W.heap[l]? = some o) (hc : o.isCells = false) : Kept B W (W.putObj l o') :=
  fun i v e => cell_kept e (grownBy_putObj' W l o') (fun r x => by cases x; exact ⟨o, h, hc⟩)
theorem Kept.setCell {B : Nat} {W W' : World} (h : Kept B W W') {p : Addr} (hp : p.block ≠ B) (v : Value) : Kept B W (W'.setCell p v) :=
  fun i u e => (World.cell?_of_block (w := W') (Below.heap_setCell _ _ _ _ (fun x => hp x.symm))).trans (h i u e)

/-- Block B holds a year. -/
def IsYear (B : Nat) (h f l : Int) (b : Bool) (W : World) : Prop :=
  W.cell? ⟨B, 0, none⟩ = some (.int .i64 h) ∧ W.cell? ⟨B, 1, none⟩ = some (.int .i64 f) ∧ W.cell? ⟨B, 2, none⟩ = some (.int .i64 l) ∧ W.cell? ⟨B, 3, none⟩ = some (.bool b)

theorem IsYear.kept {B : Nat} {h f l : Int} {b : Bool} {W W' : World} (y : IsYear B h f l b W) (k : Kept B W W') : IsYear B h f l b W' :=
  ⟨k _ _ y.1, k _ _ y.2.1, k _ _ y.2.2.1, k _ _ y.2.2.2⟩

/-- What has come ahead of month m. -/
def upz (l : Int) (b : Bool) (m : Int) : List (Int × Int) := ups l b (m - 1).toNat

theorem upz_none (l : Int) (b : Bool) (m : Int) (h1 : 1 ≤ m) (h : hd l b m = 0) : upz l b (m + 1) = upz l b m := by
  unfold upz
  rw [show (m + 1 - 1).toNat = (m - 1).toNat + 1 by omega]
  exact Heb.ups_none l b _ (by rw [show (((m - 1).toNat : Nat) : Int) + 1 = m by omega]; exact h)

theorem upz_one (l : Int) (b : Bool) (m : Int) (h1 : 1 ≤ m) (h : ¬ hd l b m = 0) : upz l b (m + 1) = upz l b m ++ [(m, hd l b m)] := by
  unfold upz
  have e : (((m - 1).toNat : Nat) : Int) + 1 = m := by omega
  have k := Heb.ups_one l b (m - 1).toNat (by rw [e]; exact h)
  rw [e] at k
  rw [show (m + 1 - 1).toNat = (m - 1).toNat + 1 by omega]
  exact k

theorem upz_len (l : Int) (b : Bool) (m : Int) (h1 : 1 ≤ m) (h2 : m ≤ 13) : (upz l b m).length < 13 := by
  have := Heb.ups_length l b (m - 1).toNat
  unfold upz
  omega

theorem months_any (h f l : Int) (b : Bool) (w : World) :
    Calls Tryz.prog 216 #[.agg #[.int .i64 h, .int .i64 f, .int .i64 l, .bool b]] w fun e w' => e = .returned (.func (.func 220) #[] #[.pointer (some ⟨w.heap.size, 0, none⟩)]) ∧ w' = w.alloc (.cells #[.int .i64 h, .int .i64 f, .int .i64 l, .bool b] 219) := by
  go_enter Tryz.func216, Tryz.ntmps216
  go_wp2
  go_ret
  exact ⟨rfl, rfl⟩

set_option maxRecDepth 100000 in
set_option maxHeartbeats 2000000 in
theorem months1_in (n : Nat) (hn : 1 ≤ n) (h f l : Int) (b : Bool) (l0 : 0 ≤ l) (lo B : Nat) (J Jx : List (Int × Int) → World → Prop) (W : World) (hJ : AbidesFrom W.heap.size J)
    (hY : ∀ pre x W, J pre W → pre.length < 13 → YieldAt Fence.wide (n - 1) Tryz.prog lo #[.int .i64 x.1, .int .i64 x.2] W fun e W' =>
      (e = .returned (.bool true) ∧ J (pre ++ [x]) W' ∧ Kept B W W') ∨ (e = .returned (.bool false) ∧ Jx (pre ++ [x]) W'))
    (hc : IsYear B h f l b W) (h0 : J [] W) :
    CallsIn Fence.wide n Tryz.prog 220 #[.func (.yield lo) #[] #[], .pointer (some ⟨B, 0, none⟩)] W fun e W' => (∃ v, e = .returned v) ∧
      ((∃ xs, xs = ups l b 13 ∧ J xs W') ∨ (∃ pre, (∃ k, k ≤ 13 ∧ pre = ups l b k) ∧ Jx pre W')) := by
  have D := Lib.hid (fun m W => ydays_any h f l b m W l0)
  refine callsIn_of_wp Tryz.func220 rfl trivial ?_ rfl
  simp only [Tryz.ntmps220, List.size_toArray, List.length_cons, List.length_nil, Nat.reduceAdd, Nat.reduceSub, Array.replicate_succ, Array.replicate_zero, List.push_toArray, List.append_toArray, List.nil_append, List.cons_append]
  gi_wp2
  gi_loopw [3] (fun i wr => ∃ m : Int, 1 ≤ m ∧ m ≤ 14 ∧ i = .int .i64 m ∧ J (upz l b m) wr ∧ Kept B W wr)
    (fun i _ => 20 - (intOf i).toNat)
  case atStart => exact ⟨1, by omega, by omega, rfl, h0, Kept.refl _ _⟩
  case round =>
    obtain ⟨m, m1, m2, rfl, hJs, hk⟩ := hrel
    by_cases hlt : m ≤ 13
    · have hJa : J (upz l b m) (wr.alloc (.cells (yv h f l b) 219)) := hJ _ _ _ none hJs (World.grownBy_alloc wr _ none) (fun r e => by cases e)
      have hka : Kept B W (wr.alloc (.cells (yv h f l b) 219)) := hk.alloc _
      obtain ⟨y0, y1, y2, y3⟩ := hc.kept hk
      have hb := Heb.hd_bd l b m
      by_cases hz : hd l b m = 0
      · have t : (hd l b m != 0) = false := by simp [hz]
        have U := Lib.hid (upz_none l b m m1 hz)
        clear hz
        gi_wp2_with (refine ⟨trivial, ?_⟩; gi_at_call 221; refine (callsIn_wide.2 (D.out _ _)).mono ?_; rintro e w1 ⟨rfl, rfl⟩)
        refine ⟨fun _ h => (by cases h), ?_⟩
        gi_wp2
        go_roundw
        case rel => exact ⟨m + 1, by omega, by omega, rfl, by rw [U.out]; exact hJa, hka⟩
        case measure => simp [intOf]; omega
      · have t : (hd l b m != 0) = true := by simpa using hz
        have U := Lib.hid (upz_one l b m m1 hz)
        clear hz
        obtain ⟨fn, tmps, assign, body, hy, hR⟩ := hY _ (m, hd l b m) _ hJa (upz_len l b m m1 hlt)
        dsimp only at hy
        gi_wp2_with (refine ⟨trivial, ?_⟩; gi_at_call 221; refine (callsIn_wide.2 (D.out _ _)).mono ?_; rintro e w1 ⟨rfl, rfl⟩)
        refine hR.mono ?_
        rintro e W3 (⟨rfl, hJ3, hk3⟩ | ⟨rfl, hJx3⟩)
        · gi_wp2
          go_roundw
          case rel => exact ⟨m + 1, by omega, by omega, rfl, by rw [U.out]; exact hJ3, hka.trans hk3⟩
          case measure => simp [intOf]; omega
        · gi_wp2
          refine bodyPost_ret (results_none rfl _ _ _) rfl ?_
          exact ⟨⟨_, rfl⟩, .inr ⟨_, ⟨m.toNat, by omega, by rw [← U.out]; unfold upz; rw [show (m + 1 - 1).toNat = m.toNat by omega]⟩, hJx3⟩⟩
    · obtain rfl : m = 14 := by omega
      gi_wp2
      go_end0
      exact ⟨⟨_, rfl⟩, .inl hJs⟩

/-- The iterator's contract: the months that have days, in order; or the first of them, where the body leaves. -/
theorem months_stops (n : Nat) (hn : 1 ≤ n) (h f l : Int) (b : Bool) (l0 : 0 ≤ l) (B : Nat) (w : World) (hB : B < w.heap.size) (hc : IsYear B h f l b w) :
    SeqStopsK Fence.wide n Tryz.prog 220 #[.pointer (some ⟨B, 0, none⟩)] (fun x : Int × Int => #[Value.int .i64 x.1, Value.int .i64 x.2]) (Kept B) (fun xs => xs = ups l b 13)
      (fun pre => ∃ k, k ≤ 13 ∧ pre = ups l b k) 13 w := fun lo J Jx W hW hJ _ hY h0 =>
  months1_in n hn h f l b l0 lo B J Jx W hJ hY (hc.kept fun i _ e => (hW.cell (p := ⟨B, i, none⟩) hB).trans e) h0

end Go.Proofs.YtihdijkplmfhfaaGreatDoor.Hebrew

/- How many days of a Hebrew year are ahead of a month, by the program: its loop over the months that have days. Conditions: the month has days. -/
namespace Go.Proofs.YtihdijkplmfhfaaGreatDoor.Hebrew
set_option maxRecDepth 100000
open Go.ChangeShapes Go.WideShapes Go.ChangeAt Go.RowKit Go.Shelf
open Go.Proofs.YtihdijkplmfhfaaGreatDoor.Divs Go.Proofs.YtihdijkplmfhfaaGreatDoor.Grow Go.Proofs.YtihdijkplmfhfaaGreatDoor.Mol
open Go.Proofs.YtihdijkplmfhfaaGreatDoor.Year (lh mh pt md mp p1 p2 po dl ny yl)
open Go.Proofs.YtihdijkplmfhfaaGreatDoor.Heb (hd ha ups)

attribute [local go_sem] Oper.semAt_some

theorem wpIn_scope {n : Nat} {P : Program} {c : Code} {Q : Exit → Act → World → Prop} {a : Act} {w : World} (h : c.wpIn Fence.wide n P (Exit.noGoto Q) a w) : (Code.scope c).wpIn Fence.wide n P Q a w :=
  wpIn_wide.2 (wp_scope_straight (wpIn_wide.1 h))

/-- What the sum holds between two rounds. -/
def Sums (l : Int) (b : Bool) (m : Int) (pre : List (Int × Int)) (s : Int) : Prop := ∀ k : Nat, k ≤ 13 → pre = ups l b k → s = ha l b ((k : Int) + 1) ∧ ∀ i : Int, 1 ≤ i → i ≤ k → hd l b i ≠ 0 → i < m

theorem sums_start (l : Int) (b : Bool) (m : Int) : Sums l b m [] 0 := by
  intro k hk e
  have hz : ∀ i : Int, 1 ≤ i → i ≤ k → hd l b i = 0 := by
    intro i i1 i2
    by_cases h0 : k = 0
    · subst h0; omega
    · exfalso
      have h1 : ups l b 1 = [((1 : Int), hd l b 1)] := by simp [ups, hd]
      have hl : ∀ j : Nat, 1 ≤ j → ups l b j ≠ [] := by
        intro j hj
        induction j with
        | zero => omega
        | succ j ih =>
          by_cases hj0 : j = 0
          · subst hj0; rw [h1]; simp
          · unfold ups
            split
            · exact ih (by omega)
            · simp
      exact hl k (by omega) e.symm
  refine ⟨?_, fun i i1 i2 i3 => absurd (hz i i1 i2) i3⟩
  by_cases h0 : k = 0
  · subst h0; exact (Heb.ha_one l b).symm
  · have := hz 1 (by omega) (by omega)
    simp [hd] at this

theorem sums_on (l : Int) (b : Bool) (m : Int) (pre : List (Int × Int)) (x : Int × Int) (s : Int) (h : Sums l b m pre s) (hx : x.1 < m) : Sums l b m (pre ++ [x]) (wrap64 (s + x.2)) := by
  intro k hk e
  obtain ⟨j, j1, j2, rfl, j4, j5, j6⟩ := Heb.ups_snoc l b k hk pre x e
  obtain ⟨e1, e2⟩ := h j (by omega) j2
  have b1 := Heb.ha_bd l b ((j : Int) + 1)
  have b2 := Heb.hd_bd l b ((j : Int) + 1)
  refine ⟨?_, fun i i1 i2 i3 => ?_⟩
  · rw [IntWalk.wrap64_in _ (by dsimp only; omega), j5, e1]
  · by_cases c1 : i ≤ j
    · exact e2 i i1 c1 i3
    · by_cases c2 : i = (j : Int) + 1
      · subst c2; exact hx
      · exact absurd (j6 i (by omega) i2) i3

theorem sums_off (l : Int) (b : Bool) (m : Int) (pre : List (Int × Int)) (x : Int × Int) (s : Int) (h : Sums l b m pre s) (hx : ¬ x.1 < m) (m1 : 1 ≤ m) (hm : 0 < hd l b m) (k : Nat) (hk : k ≤ 13) (e : pre ++ [x] = ups l b k) : s = ha l b m := by
  obtain ⟨j, j1, j2, rfl, j4, j5, j6⟩ := Heb.ups_snoc l b k hk pre x e
  obtain ⟨e1, e2⟩ := h j (by omega) j2
  have hx' : m ≤ (j : Int) + 1 := by dsimp only at hx; omega
  by_cases c : m ≤ j
  · have := e2 m m1 c (by omega); omega
  · rw [e1, show (j : Int) + 1 = m by omega]

theorem sums_end (l : Int) (b : Bool) (m : Int) (s : Int) (h : Sums l b m (ups l b 13) s) (m1 : 1 ≤ m) (m2 : m ≤ 13) (hm : 0 < hd l b m) : False := by
  have := (h 13 (by omega) rfl).2 m m1 (by omega) (by omega)
  omega

end Go.Proofs.YtihdijkplmfhfaaGreatDoor.Hebrew

/- The date of a day of a Hebrew year, by the program: its loop over the months that have days. Conditions: the day lies in the month that the theorem names. -/
namespace Go.Proofs.YtihdijkplmfhfaaGreatDoor.Hebrew
set_option maxRecDepth 100000
open Go.ChangeShapes Go.WideShapes Go.ChangeAt Go.RowKit Go.Shelf
open Go.Proofs.YtihdijkplmfhfaaGreatDoor.Divs Go.Proofs.YtihdijkplmfhfaaGreatDoor.Grow Go.Proofs.YtihdijkplmfhfaaGreatDoor.Mol
open Go.Proofs.YtihdijkplmfhfaaGreatDoor.Year (lh mh pt md mp p1 p2 po dl ny yl)
open Go.Proofs.YtihdijkplmfhfaaGreatDoor.Heb (hd ha ups)

attribute [local go_sem] Oper.semAt_some

theorem ups_nil (l : Int) (b : Bool) (k : Nat) (e : ups l b k = []) : k = 0 := by
  have h1 : ups l b 1 = [((1 : Int), hd l b 1)] := by simp [ups, hd]
  induction k with
  | zero => rfl
  | succ k ih =>
    exfalso
    by_cases hj0 : k = 0
    · subst hj0; rw [h1] at e; simp at e
    · unfold ups at e
      split at e
      · exact hj0 (ih e)
      · simp at e

/-- What is left between two rounds. -/
def Left (l : Int) (b : Bool) (g : Int) (pre : List (Int × Int)) (s : Int) : Prop := ∀ k : Nat, k ≤ 13 → pre = ups l b k → s = g - ha l b ((k : Int) + 1) ∧ 0 ≤ s

theorem left_start (l : Int) (b : Bool) (g : Int) (h0 : 0 ≤ g) : Left l b g [] g := by
  intro k _ e
  obtain rfl := ups_nil l b k e.symm
  have := Heb.ha_one l b
  exact ⟨by simp; omega, h0⟩

theorem left_on (l : Int) (b : Bool) (g : Int) (pre : List (Int × Int)) (x : Int × Int) (s : Int) (h0 : g ≤ 1000) (h : Left l b g pre s) (hx : x.2 ≤ s) : Left l b g (pre ++ [x]) (wrap64 (s - x.2)) := by
  intro k hk e
  obtain ⟨j, j1, j2, rfl, j4, j5, j6⟩ := Heb.ups_snoc l b k hk pre x e
  obtain ⟨e1, e2⟩ := h j (by omega) j2
  have b1 := Heb.ha_bd l b ((j : Int) + 1)
  have b2 := Heb.hd_bd l b ((j : Int) + 1)
  dsimp only at hx
  rw [IntWalk.wrap64_in _ (by dsimp only; omega), j5]
  dsimp only
  omega

theorem left_off (l : Int) (b : Bool) (g m : Int) (pre : List (Int × Int)) (x : Int × Int) (s : Int) (h : Left l b g pre s) (hx : ¬ x.2 ≤ s) (m1 : 1 ≤ m) (m2 : m ≤ 13) (g1 : ha l b m ≤ g) (g2 : g < ha l b (m + 1))
    (k : Nat) (hk : k ≤ 13) (e : pre ++ [x] = ups l b k) : x.1 = m ∧ IntKind.i64.wrap (s + 1) = g - ha l b m + 1 := by
  obtain ⟨j, j1, j2, rfl, j4, j5, j6⟩ := Heb.ups_snoc l b k hk pre x e
  obtain ⟨e1, e2⟩ := h j (by omega) j2
  dsimp only at hx
  have b1 := Heb.ha_bd l b ((j : Int) + 1)
  have b2 := Heb.hd_bd l b ((j : Int) + 1)
  have st := Heb.ha_step l b ((j : Int) + 1) (by omega) (by omega)
  have k1 := Heb.ha_one_of l b g m ((j : Int) + 1) m1 m2 g1 g2 (by omega) (by omega) (by omega) (by omega)
  subst k1
  refine ⟨rfl, ?_⟩
  rw [IntWalk.i64_left, IntWalk.wrap64_in _ (by omega)]
  omega

theorem left_end (l : Int) (b : Bool) (g m s : Int) (h : Left l b g (ups l b 13) s) (m1 : 1 ≤ m) (m2 : m ≤ 13) (g2 : g < ha l b (m + 1)) : False := by
  have k := h 13 (by omega) rfl
  have := Heb.ha_mono l b (m + 1) 14 (by omega) (by omega) (by omega)
  have e : ((13 : Nat) : Int) + 1 = 14 := by omega
  rw [e] at k
  omega

/-- A block that holds these cells. -/
def Row (B : Nat) (t : TypeId) (cs : Array Value) (W : World) : Prop := W.heap[B]? = some (.cells cs t (0, 0))

theorem Row.cell {B : Nat} {t : TypeId} {cs : Array Value} {W : World} (h : Row B t cs W) (i : Nat) {v : Value} (hc : cs[i]? = some v) : W.cell? ⟨B, i, none⟩ = some v := by
  unfold Row at h
  simp [World.cell?, h, hc]
theorem Row.frozen {B : Nat} {t : TypeId} {cs : Array Value} {W : World} (h : Row B t cs W) (i : Nat) : W.frozen? ⟨B, i, none⟩ = false := by
  unfold Row at h
  simp [World.frozen?, h]
theorem Row.kept {B : Nat} {t : TypeId} {cs : Array Value} {W W' : World} {row : Option Nat} (h : Row B t cs W) (hg : W.grownBy W' row) (hr : ∀ r, row = some r → ∃ o : Obj, W.heap[r]? = some o ∧ o.isCells = false) : Row B t cs W' :=
  (grownBy_keeps_cells hg hr h rfl).trans h
theorem Row.other {B : Nat} {t : TypeId} {cs : Array Value} {W : World} (h : Row B t cs W) {p : Addr} (hp : p.block ≠ B) (v : Value) : Row B t cs (W.setCell p v) :=
  (Below.heap_setCell _ _ _ _ (fun x => hp x.symm)).trans h
theorem Row.set {B : Nat} {t : TypeId} {cs : Array Value} {W : World} (h : Row B t cs W) (k : Nat) (v : Value) : Row B t (cs.setIfInBounds k v) (W.setCell ⟨B, k, none⟩ v) := row_set h
theorem Row.late {X W : World} {c : Array Value} {t : TypeId} (hg : Later (X.alloc (.cells c t)) W) {n : Nat} (hn : X.heap.size = n) : Row n t c W := by
  subst hn
  exact heap_late hg

set_option maxRecDepth 100000 in
set_option maxHeartbeats 2000000 in
theorem date_any (h f l : Int) (b : Bool) (g m : Int) (w : World) (l0 : 0 ≤ l) (m1 : 1 ≤ m) (m2 : m ≤ 13) (g1 : ha l b m ≤ g) (g2 : g < ha l b (m + 1)) :
    Calls Tryz.prog 208 #[.agg #[.int .i64 h, .int .i64 f, .int .i64 l, .bool b], .int .i64 g] w fun e w' => e = .returned (.agg #[.int .i64 h, .int .i64 m, .int .i64 (g - ha l b m + 1)]) ∧ Later w w' := by
  have hb1 := Heb.ha_bd l b m
  have hb2 := Heb.ha_bd l b (m + 1)
  have M := Lib.hid (fun W => months_any h f l b W)
  refine (callsIn_wide (n := 5)).1 ?_
  refine callsIn_of_wp_marks Tryz.func208 rfl trivial ?_ rfl
  simp only [Tryz.ntmps208, List.size_toArray, List.length_cons, List.length_nil, Nat.reduceAdd, Nat.reduceSub, Array.replicate_succ, Array.replicate_zero, List.push_toArray, List.append_toArray, List.nil_append, List.cons_append]
  gi_wp2
  refine wpIn_scope ?_
  gi_wp2
  refine wpIn_label ?_
  gi_wp2_with (refine ⟨trivial, ?_⟩; gi_at_call 216; refine (callsIn_wide.2 (M.out _)).mono ?_; rintro e w1 ⟨rfl, rfl⟩)
  obtain ⟨W0, hW0⟩ : ∃ W0, (((((w.alloc (.cells #[.int .i64 h, .int .i64 f, .int .i64 l, .bool b] 219)).alloc (.cells #[.int .i64 g] 3)).alloc (.cells #[.int .i64 0, .int .i64 0, .int .i64 0] 148)).alloc (.cells #[.int .i64 h, .int .i64 0, .int .i64 0] 148)).alloc (.cells #[.int .i64 h, .int .i64 f, .int .i64 l, .bool b] 219)) = W0 := ⟨_, rfl⟩
  have hs0 : W0.heap.size = w.heap.size + 5 := by rw [← hW0]; simp
  have hB0 : Below w.heap.size w W0 := by
    rw [← hW0]
    exact (((((Below.refl _ w).alloc (Nat.le_refl _) _).alloc (by simp) _).alloc (by simp; omega) _).alloc (by simp; omega) _).alloc (by simp; omega) _
  have hL4 : Later (((((w.alloc (.cells #[.int .i64 h, .int .i64 f, .int .i64 l, .bool b] 219)).alloc (.cells #[.int .i64 g] 3)).alloc (.cells #[.int .i64 0, .int .i64 0, .int .i64 0] 148)).alloc (.cells #[.int .i64 h, .int .i64 0, .int .i64 0] 148)).alloc (.cells #[.int .i64 h, .int .i64 f, .int .i64 l, .bool b] 219)) W0 := by rw [hW0]; exact Later.refl _
  have hL3 : Later ((((w.alloc (.cells #[.int .i64 h, .int .i64 f, .int .i64 l, .bool b] 219)).alloc (.cells #[.int .i64 g] 3)).alloc (.cells #[.int .i64 0, .int .i64 0, .int .i64 0] 148)).alloc (.cells #[.int .i64 h, .int .i64 0, .int .i64 0] 148)) W0 := gtrans ((Later.refl _).alloc _ _) hL4
  have hL2 : Later (((w.alloc (.cells #[.int .i64 h, .int .i64 f, .int .i64 l, .bool b] 219)).alloc (.cells #[.int .i64 g] 3)).alloc (.cells #[.int .i64 0, .int .i64 0, .int .i64 0] 148)) W0 := gtrans ((Later.refl _).alloc _ _) hL3
  have hL1 : Later ((w.alloc (.cells #[.int .i64 h, .int .i64 f, .int .i64 l, .bool b] 219)).alloc (.cells #[.int .i64 g] 3)) W0 := gtrans ((Later.refl _).alloc _ _) hL2
  have hg0 : Row (w.heap.size + 1) 3 #[.int .i64 g] W0 := Row.late hL1 (by simp)
  have hr0 : Row (w.heap.size + 1 + 1) 148 #[.int .i64 0, .int .i64 0, .int .i64 0] W0 := Row.late hL2 (by simp)
  have hd0 : Row (w.heap.size + 1 + 1 + 1) 148 #[.int .i64 h, .int .i64 0, .int .i64 0] W0 := Row.late hL3 (by simp)
  have hy0 : IsYear (w.heap.size + 1 + 1 + 1 + 1) h f l b W0 := ⟨cellN hL4 (by simp) 0 rfl, cellN hL4 (by simp) 1 rfl, cellN hL4 (by simp) 2 rfl, cellN hL4 (by simp) 3 rfl⟩
  rw [hW0]
  refine wpIn_rangeFunc_ownF rfl (by omega) (gf := 220) (lb := #[.pointer (some ⟨w.heap.size + 1 + 1 + 1 + 1, 0, none⟩)]) rfl trivial (enters_of Tryz.func220 (by kernel_rfl) rfl)
    (months_stops _ (by omega) h f l b l0 (w.heap.size + 1 + 1 + 1 + 1) W0 (by omega) hy0) (fun x y => Kept.trans x y) (fun W l o o' _ hl ho _ => Kept.book W l o o' hl ho) (Below.refl _ _) (fun _ => rfl)
    (fun pre W => ((∃ s : Int, Row (w.heap.size + 1) 3 #[.int .i64 s] W ∧ Left l b g pre s) ∧ Row (w.heap.size + 1 + 1) 148 #[.int .i64 0, .int .i64 0, .int .i64 0] W ∧ Row (w.heap.size + 1 + 1 + 1) 148 #[.int .i64 h, .int .i64 0, .int .i64 0] W) ∧ Below w.heap.size w W)
    (fun c pre W => (c = .exit 0 ∧ (∃ x y : Int, Row (w.heap.size + 1 + 1 + 1) 148 #[.int .i64 h, .int .i64 x, .int .i64 y] W ∧ ∀ k : Nat, k ≤ 13 → pre = ups l b k → x = m ∧ y = g - ha l b m + 1) ∧ Row (w.heap.size + 1 + 1) 148 #[.int .i64 0, .int .i64 0, .int .i64 0] W) ∧ Below w.heap.size w W)
    (OwnFrom.and (Own.from (fun s A B row hs hg hr => by obtain ⟨⟨v, x1, x2⟩, x3, x4⟩ := hs; exact ⟨⟨v, x1.kept hg hr, x2⟩, x3.kept hg hr, x4.kept hg hr⟩) _) (ownFrom_below (Nat.le_refl _) (by omega)))
    (fun c => OwnFrom.and (Own.from (fun s A B row hs hg hr => by obtain ⟨x0, ⟨v, u, x1, x2⟩, x3⟩ := hs; exact ⟨x0, ⟨v, u, x1.kept hg hr, x2⟩, x3.kept hg hr⟩) _) (ownFrom_below (Nat.le_refl _) (by omega)))
    ⟨⟨⟨g, hg0, left_start l b g (by omega)⟩, hr0, hd0⟩, hB0⟩
    (fun x => { tmps := #[.agg #[.int .i64 h, .int .i64 f, .int .i64 l, .bool b], .int .i64 g, .pointer (some ⟨w.heap.size, 0, none⟩), .pointer (some ⟨w.heap.size + 1, 0, none⟩), .pointer (some ⟨w.heap.size + 1 + 1, 0, none⟩), .pointer (some ⟨w.heap.size + 1 + 1 + 1, 0, none⟩), .int .i64 x.1, .int .i64 x.2, .pointer (some ⟨w.heap.size, 0, none⟩), .int .i64 h, .agg #[.int .i64 h, .int .i64 0, .int .i64 0], .agg #[.int .i64 h, .int .i64 f, .int .i64 l, .bool b], .func (.func 220) #[] #[.pointer (some ⟨w.heap.size + 1 + 1 + 1 + 1, 0, none⟩)], .int .i64 x.1, .int .i64 x.2, undef, undef, undef, undef, undef, undef, undef, undef, undef, undef, undef, undef, undef], defers := [] }) ?assign ?body ?done ?stop
  case assign =>
    intro lo x W K hK
    gi_wp2
    exact hK
  case body =>
    rintro lo pre ⟨xa, xb⟩ W ⟨⟨⟨s, hc, hS⟩, hr, hd⟩, hB⟩ _
    have c0 := hc.cell 0 rfl
    have f0 := hc.frozen 0
    by_cases hx : xb ≤ s
    · have HS := Lib.hid (left_on l b g pre (xa, xb) s (by omega) hS hx)
      clear hS
      gi_wp2
      exact ⟨KeepsOthers.setCell _ _ _, (Kept.refl _ W).setCell (by simp) _, ⟨⟨_, hc.set 0 _, HS.out⟩, hr.other (by simp) _, hd.other (by simp) _⟩, hB.setCell (p := ⟨w.heap.size + 1, 0, none⟩) (by simp) _⟩
    · have HS := Lib.hid (left_off l b g m pre (xa, xb) s hS hx m1 m2 g1 g2)
      clear hS
      have d1 := hd.cell 1 rfl
      have d2 := hd.cell 2 rfl
      have e1 := hd.frozen 1
      have e2 := hd.frozen 2
      have hmx : Tryz.prog.follows .mixedOrders = true := by kernel_rfl
      gi_wp2
      gi_region_o
      all_goals gi_wp2
      all_goals exact ⟨((KeepsOthers.setCell _ _ _).trans (KeepsOthers.setCell _ _ _)).trans (KeepsOthers.drew _), ⟨rfl, ⟨_, _, (hd.set 1 _).set 2 _, HS.out⟩, (hr.other (by simp) _).other (by simp) _⟩, ((hB.setCell (p := ⟨w.heap.size + 1 + 1 + 1, 1, none⟩) (by simp; omega) _).setCell (p := ⟨w.heap.size + 1 + 1 + 1, 2, none⟩) (by simp; omega) _).drew⟩
  case done =>
    rintro D ys W hD rfl ⟨⟨⟨s, hc, hS⟩, hr, hd⟩, hB⟩ hK
    exact (left_end l b g m s hS m1 m2 g2).elim
  case stop =>
    rintro D c pre W hD ⟨k, hk, hpre⟩ ⟨⟨rfl, ⟨x, y, hd, hS⟩, hr⟩, hB⟩ hK
    obtain ⟨rfl, rfl⟩ := hS k hk hpre
    have d0 := hd.cell 0 rfl
    have d1 := hd.cell 1 rfl
    have d2 := hd.cell 2 rfl
    have c0 := hr.cell 0 rfl
    have c1 := hr.cell 1 rfl
    have c2 := hr.cell 2 rfl
    have f0 := hr.frozen 0
    have f1 := hr.frozen 1
    have f2 := hr.frozen 2
    gi_wp2
    have hK' := (((KeepsOthers.setCell W ⟨w.heap.size + 1 + 1, 0, none⟩ (.int .i64 h)).trans (KeepsOthers.setCell _ ⟨w.heap.size + 1 + 1, 1, none⟩ (.int .i64 x))).trans (KeepsOthers.setCell _ ⟨w.heap.size + 1 + 1, 2, none⟩ (.int .i64 (g - ha l b x + 1)))).same D _ hK rfl
    refine ⟨by simp, .inl ⟨_, _, rfl, run_takeDeferred hK', ?_⟩⟩
    refine ⟨_, results_cell_row (P := Tryz.prog) (fn := Tryz.f208) Tryz.results208 _ _ (w.heap.size + 1 + 1) 148 _ (0, 0) _ rfl (Row.kept (((hr.set 0 _).set 1 _).set 2 _) (grownBy_putObj' _ D (.deferred none)) (fun r e => by cases e; exact ⟨_, hK', rfl⟩)) Tryz.underlying148 rfl (by kernel_rfl), rfl, ?_⟩
    exact Later.of_below ((((hB.setCell (p := ⟨w.heap.size + 1 + 1, 0, none⟩) (by simp; omega) _).setCell (p := ⟨w.heap.size + 1 + 1, 1, none⟩) (by simp; omega) _).setCell (p := ⟨w.heap.size + 1 + 1, 2, none⟩) (by simp; omega) _).trans (belowK_b (w := w) (Nat.le_refl _) _ D _ _ (by omega) hK' rfl rfl))

end Go.Proofs.YtihdijkplmfhfaaGreatDoor.Hebrew

/- Which Hebrew year a day lies in, by the program: the library's search by halves, over a function value. Conditions: the day lies in the year that the theorem names. -/
namespace Go.Proofs.YtihdijkplmfhfaaGreatDoor.Hebrew
set_option maxRecDepth 100000
open Go.ChangeShapes Go.WideShapes Go.ChangeAt Go.RowKit
open Go.Proofs.YtihdijkplmfhfaaGreatDoor.Divs Go.Proofs.YtihdijkplmfhfaaGreatDoor.Grow Go.Proofs.YtihdijkplmfhfaaGreatDoor.Mol
open Go.Proofs.YtihdijkplmfhfaaGreatDoor.Year (lh mh pt md mp p1 p2 po dl ny yl)
open Go.Proofs.YtihdijkplmfhfaaGreatDoor.Heb (hd ha ups)

def SRel (n p : Int) (w : World) (x y : Value) (wr : World) : Prop := ∃ i j : Int, 0 ≤ i ∧ i ≤ p ∧ p ≤ j ∧ j ≤ n ∧ x = .int .i64 i ∧ y = .int .i64 j ∧ Later w wr

set_option maxHeartbeats 1000000 in
theorem search_any (n p : Int) (k : FuncId) (c : Value) (w : World) (p0 : 0 ≤ p) (p1 : p ≤ n) (hn : n ≤ 1000000)
    (ek : ∀ args W, (callFunc k args).run Tryz.prog W = .ok (.enter k args) W)
    (hk : ∀ (i : Int) W, 0 ≤ i → i < n → Later w W → Calls Tryz.prog k #[.int .i64 i, c] W fun e w' => e = .returned (.bool (decide (p ≤ i))) ∧ Later W w') :
    Calls Tryz.prog 214 #[.int .i64 n, .func (.func k) #[] #[c]] w fun e w' => e = .returned (.int .i64 p) ∧ Later w w' := by
  have HK := Lib.hid hk
  clear hk
  go_enter Tryz.func214, Tryz.ntmps214
  go_wp2_with fail
  go_loopw [5, 6] (fun x y wr => SRel n p w x y wr) (fun x y _ => (intOf y - intOf x).toNat)
  case atStart => exact ⟨0, n, by omega, by omega, by omega, by omega, rfl, rfl, Later.refl w⟩
  case round =>
    obtain ⟨i, j, i0, i1, j0, j1, rfl, rfl, hg⟩ := hrel
    by_cases hlt : i < j
    · go_wp2_with fail
      refine (HK.out _ _ (by omega) (by omega) hg).mono ?_
      rintro e w1 ⟨rfl, hg1⟩
      have hh : i ≤ (i + j) / 2 ∧ (i + j) / 2 < j := by omega
      by_cases hq : p ≤ (i + j) / 2
      · rw [decide_eq_true hq]
        go_wp2_with fail
        go_roundw
        case rel => exact ⟨i, (i + j) / 2, by omega, by omega, by omega, by omega, rfl, rfl, gtrans hg hg1⟩
        case measure => simp [intOf]; omega
      · rw [decide_eq_false hq]
        go_wp2_with fail
        go_roundw
        case rel => exact ⟨(i + j) / 2 + 1, j, by omega, by omega, by omega, by omega, rfl, rfl, gtrans hg hg1⟩
        case measure => simp [intOf]; omega
    · obtain rfl : i = p := by omega
      go_wp2_with fail
      go_ret
      exact ⟨rfl, hg⟩

theorem behind_any (n i h : Int) (B : Nat) (w : World) (i0 : 0 ≤ i) (i1 : i < 6237) (a1 : ny h ≤ n) (a2 : n < ny (h + 1)) (hc : w.cell? ⟨B, 0, none⟩ = some (.int .i64 n)) :
    Calls Tryz.prog 215 #[.int .i64 i, .pointer (some ⟨B, 0, none⟩)] w fun e w' => e = .returned (.bool (decide (h - 3762 ≤ i))) ∧ Later w w' := by
  have Y := Lib.hid (fun W => newyear_yes (3762 + i + 1) W (by omega) (by omega))
  have hb := Year.ny_bd (3762 + i + 1) (by omega) (by omega)
  have hx := Heb.ny_one_of n h (3762 + i + 1) a1 a2
  have HX := Lib.hid (show decide (n < ny (3762 + i + 1)) = decide (h - 3762 ≤ i) by
    by_cases c : h - 3762 ≤ i
    · rw [decide_eq_true c]; exact decide_eq_true (by have := mt hx.1 (by omega); omega)
    · rw [decide_eq_false c]; exact decide_eq_false (by have := hx.2 (by omega); omega))
  clear hx a1 a2
  go_enter Tryz.func215, Tryz.ntmps215
  go_wp2_with fail
  refine (Y.out _).mono ?_
  rintro e w1 ⟨rfl, hg1⟩
  have hc1 := gsome hg1 hc
  go_wp2_with fail
  go_ret
  exact ⟨retb HX.out, hg1⟩

theorem yearof_any (n h : Int) (w : World) (h1 : 3762 ≤ h) (h2 : h ≤ 9999) (a1 : ny h ≤ n) (a2 : n < ny (h + 1)) :
    Calls Tryz.prog 207 #[.int .i64 n] w fun e w' => e = .returned (.int .i64 h) ∧ Later w w' := by
  have b1 := Year.ny_bd h (by omega) (by omega)
  have b2 := Year.ny_bd (h + 1) (by omega) (by omega)
  have S := Lib.hid (search_any 6237 (h - 3762) 215 (.pointer (some ⟨w.heap.size, 0, none⟩)) (w.alloc (.cells #[.int .i64 n] 3)) (by omega) (by omega) (by omega) (enters_of Tryz.func215 (by kernel_rfl) rfl)
    (fun i W i0 i1 hg => behind_any n i h w.heap.size W i0 i1 a1 a2 (cell4 hg 0 rfl)))
  clear a1 a2 b1 b2
  go_enter Tryz.func207, Tryz.ntmps207
  go_wp2_with fail
  refine S.out.mono ?_
  rintro e w1 ⟨rfl, hg1⟩
  go_wp2_with fail
  go_ret
  exact ⟨ret1 (by omega), gtrans ((Later.refl w).alloc _ _) hg1⟩

theorem firstday_any (w : World) : Calls Tryz.prog 204 #[] w fun e w' => e = .returned (.int .i64 (ny 3762)) ∧ Later w w' := by
  have Y := Lib.hid (fun W => newyear_yes 3762 W (by omega) (by omega))
  go_enter Tryz.func204, Tryz.ntmps204
  go_wp2_with fail
  refine (Y.out _).mono ?_
  rintro e w1 ⟨rfl, hg1⟩
  go_wp2_with fail
  go_ret
  exact ⟨rfl, hg1⟩

theorem lastday_any (w : World) : Calls Tryz.prog 205 #[] w fun e w' => e = .returned (.int .i64 (ny 10000 - 1)) ∧ Later w w' := by
  have Y := Lib.hid (fun W => newyear_yes 9999 W (by omega) (by omega))
  have L := Lib.hid (fun W => len_yes 9999 W (by omega) (by omega))
  have E := Lib.hid (Heb.ny_next 9999)
  have b1 := Year.ny_bd 9999 (by omega) (by omega)
  have b2 := Heb.yl_bd 9999
  go_enter Tryz.func205, Tryz.ntmps205
  go_wp2_with fail
  refine (Y.out _).mono ?_
  rintro e w1 ⟨rfl, hg1⟩
  go_wp2_with fail
  refine (L.out _).mono ?_
  rintro e w2 ⟨rfl, hg2⟩
  go_wp2_with fail
  go_ret
  exact ⟨ret1 (by have := E.out; simp at this; omega), gtrans hg1 hg2⟩

end Go.Proofs.YtihdijkplmfhfaaGreatDoor.Hebrew

/- A Hebrew date's number, and a number's Hebrew date, by the program. Conditions: as each theorem says. -/
namespace Go.Proofs.YtihdijkplmfhfaaGreatDoor.Hebrew
set_option maxRecDepth 100000
open Go.ChangeShapes Go.WideShapes Go.ChangeAt Go.RowKit
open Go.Proofs.YtihdijkplmfhfaaGreatDoor.Divs Go.Proofs.YtihdijkplmfhfaaGreatDoor.Grow Go.Proofs.YtihdijkplmfhfaaGreatDoor.Mol
open Go.Proofs.YtihdijkplmfhfaaGreatDoor.Year (lh mh pt md mp p1 p2 po dl ny yl)
open Go.Proofs.YtihdijkplmfhfaaGreatDoor.Heb (hd ha ups)

theorem of_early (n : Int) (w : World) (hn : n < ny 3762) :
    Calls Tryz.prog 202 #[.int .i64 n] w fun e w' => e = .returned (.tuple #[.agg #[.int .i64 0, .int .i64 0, .int .i64 0], .int .i64 41]) ∧ Later w w' := by
  have F := Lib.hid firstday_any
  go_enter Tryz.func202, Tryz.ntmps202
  go_wp2_with fail
  refine (F.out _).mono ?_
  rintro e w1 ⟨rfl, hg1⟩
  have c0 := cell4 hg1 0 rfl
  have c1 := cell4 hg1 1 rfl
  have c2 := cell4 hg1 2 rfl
  have f0 := froz4 hg1 0
  have f1 := froz4 hg1 1
  have f2 := froz4 hg1 2
  go_wp2_with fail
  refine bodyPost_ret (v := .tuple #[.agg #[.int .i64 0, .int .i64 0, .int .i64 0], .int .i64 41]) ?_ rfl ⟨rfl, ?_⟩
  · exact results_row_tmp (P := Tryz.prog) (fn := Tryz.f202) Tryz.results202 _ _ w.heap.size 148 _ (0, 0) _ _ rfl rfl (row3 (heap_late hg1)) Tryz.underlying148 rfl (by kernel_rfl)
  exact (((gtrans ((Later.refl w).alloc _ _) hg1).setCell (Nat.le_refl _) _).setCell (Nat.le_refl _) _).setCell (Nat.le_refl _) _

theorem of_late (n : Int) (w : World) (hn1 : ny 3762 ≤ n) (hn : ny 10000 - 1 < n) :
    Calls Tryz.prog 202 #[.int .i64 n] w fun e w' => e = .returned (.tuple #[.agg #[.int .i64 0, .int .i64 0, .int .i64 0], .int .i64 41]) ∧ Later w w' := by
  have F := Lib.hid firstday_any
  have L := Lib.hid lastday_any
  have t1 : ¬ n < ny 3762 := by omega
  clear hn1
  go_enter Tryz.func202, Tryz.ntmps202
  go_wp2_with fail
  refine (F.out _).mono ?_
  rintro e w1 ⟨rfl, hg1⟩
  go_wp2_with fail
  refine (L.out _).mono ?_
  rintro e w2 ⟨rfl, hg2⟩
  have hg := gtrans hg1 hg2
  have c0 := cell4 hg 0 rfl
  have c1 := cell4 hg 1 rfl
  have c2 := cell4 hg 2 rfl
  have f0 := froz4 hg 0
  have f1 := froz4 hg 1
  have f2 := froz4 hg 2
  go_wp2_with fail
  refine bodyPost_ret (v := .tuple #[.agg #[.int .i64 0, .int .i64 0, .int .i64 0], .int .i64 41]) ?_ rfl ⟨rfl, ?_⟩
  · exact results_row_tmp (P := Tryz.prog) (fn := Tryz.f202) Tryz.results202 _ _ w.heap.size 148 _ (0, 0) _ _ rfl rfl (row3 (heap_late hg)) Tryz.underlying148 rfl (by kernel_rfl)
  exact (((gtrans ((Later.refl w).alloc _ _) hg).setCell (Nat.le_refl _) _).setCell (Nat.le_refl _) _).setCell (Nat.le_refl _) _

set_option maxHeartbeats 1000000 in
theorem of_yes (n h m : Int) (w : World) (h1 : 3762 ≤ h) (h2 : h ≤ 9999) (a1 : ny h ≤ n) (a2 : n < ny (h + 1)) (m1 : 1 ≤ m) (m2 : m ≤ 13) (g1 : ha (yl h) (lh h) m ≤ n - ny h) (g2 : n - ny h < ha (yl h) (lh h) (m + 1)) :
    Calls Tryz.prog 202 #[.int .i64 n] w fun e w' => e = .returned (.tuple #[.agg #[.int .i64 h, .int .i64 m, .int .i64 (n - ny h - ha (yl h) (lh h) m + 1)], .int .i64 0]) ∧ Later w w' := by
  have F := Lib.hid firstday_any
  have L := Lib.hid lastday_any
  have Y := Lib.hid (fun W => yearof_any n h W h1 h2 a1 a2)
  have R := Lib.hid (fun W => yreckon_yes h W h1 h2)
  have hl := Heb.yl_bd h
  have D := Lib.hid (fun W => date_any h (ny h) (yl h) (lh h) (n - ny h) m W (by omega) m1 m2 g1 g2)
  have b1 := Heb.ny_mono 3762 h h1
  have b2 := Heb.ny_mono (h + 1) 10000 (by omega)
  have t1 : ¬ n < ny 3762 := by omega
  have t2 : ¬ ny 10000 - 1 < n := by omega
  have b3 := Year.ny_bd h (by omega) (by omega)
  have b4 := Year.ny_bd (h + 1) (by omega) (by omega)
  have b5 : -10000000 ≤ n ∧ n ≤ 10000000 := by omega
  have HL := Lib.hid hl
  clear a1 a2 g1 g2 b1 b2 b4 hl
  go_enter Tryz.func202, Tryz.ntmps202
  go_wp2_with fail
  refine (F.out _).mono ?_
  rintro e w1 ⟨rfl, hg1⟩
  go_wp2_with fail
  refine (L.out _).mono ?_
  rintro e w2 ⟨rfl, hg2⟩
  go_wp2_with fail
  refine (Y.out _).mono ?_
  rintro e w3 ⟨rfl, hg3⟩
  go_wp2_with fail
  refine (R.out _).mono ?_
  rintro e w4 ⟨rfl, hg4⟩
  go_wp2_with fail
  refine (D.out _).mono ?_
  rintro e w5 ⟨rfl, hg5⟩
  have hg := gtrans (gtrans hg1 (gtrans hg2 (gtrans hg3 hg4))) (gtrans ((Later.refl w4).alloc _ _) hg5)
  have c0 := cell4 hg 0 rfl
  have c1 := cell4 hg 1 rfl
  have c2 := cell4 hg 2 rfl
  have f0 := froz4 hg 0
  have f1 := froz4 hg 1
  have f2 := froz4 hg 2
  go_wp2_with fail
  refine bodyPost_ret (v := .tuple #[.agg #[.int .i64 h, .int .i64 m, .int .i64 (n - ny h - ha (yl h) (lh h) m + 1)], .int .i64 0]) ?_ rfl ⟨rfl, ?_⟩
  · exact results_row_tmp (P := Tryz.prog) (fn := Tryz.f202) Tryz.results202 _ _ w.heap.size 148 _ (0, 0) _ _ rfl rfl (row3 (heap_late hg)) Tryz.underlying148 rfl (by kernel_rfl)
  exact (((gtrans ((Later.refl w).alloc _ _) hg).setCell (Nat.le_refl _) _).setCell (Nat.le_refl _) _).setCell (Nat.le_refl _) _

end Go.Proofs.YtihdijkplmfhfaaGreatDoor.Hebrew

/- A Hebrew date's number, by the program. Conditions: as each theorem says. -/
namespace Go.Proofs.YtihdijkplmfhfaaGreatDoor.Hebrew
set_option maxRecDepth 100000
open Go.ChangeShapes Go.WideShapes Go.ChangeAt Go.RowKit
open Go.Proofs.YtihdijkplmfhfaaGreatDoor.Divs Go.Proofs.YtihdijkplmfhfaaGreatDoor.Grow Go.Proofs.YtihdijkplmfhfaaGreatDoor.Mol
open Go.Proofs.YtihdijkplmfhfaaGreatDoor.Year (lh mh pt md mp p1 p2 po dl ny yl)
open Go.Proofs.YtihdijkplmfhfaaGreatDoor.Heb (hd ha ups)

theorem alloc_g {w : World} {P : Program} {f : FuncId} {args : Array Value} {v : Value} {o : Obj} (h : Calls P f args w fun e w' => e = .returned v ∧ w' = w.alloc o) : Calls P f args w fun e w' => e = .returned v ∧ Later w w' :=
  h.mono fun _ _ ⟨he, hw⟩ => ⟨he, hw ▸ (Later.refl w).put o⟩

end Go.Proofs.YtihdijkplmfhfaaGreatDoor.Hebrew
