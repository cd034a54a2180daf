/-
  What daysAhead answers: how many days of a year are ahead of each of its months. Conditions: the year is from 1 to 9999, the table of months lies where the program lays it.
-/
import Derived.Test.YtepaiolhflpmeaaDoorDays
import Derived.IntWalk
import Derived.Deep.RegionWith
namespace Go.Proofs.YtepaiolhflpmeaaDoor.Greg
open Go.ChangeShapes Go.WideShapes Go.ChangeAt Go.RowKit
open Go.Proofs.YtepaiolhflpmeaaDoor.Divs Go.Proofs.YtepaiolhflpmeaaDoor.Grow
open Go.Proofs.YtepaiolhflpmeaaDoor.Cal (lp ln tab dm ya ma dn yr mo om od)

/-- The array when k months have been summed. -/
def arr (y : Int) (k : Nat) : Array Value := ((List.range 12).map fun j : Nat => Value.int .i64 (if j < k then ma y ((j : Int) + 1) else 0)).toArray

theorem arr_get (y : Int) (k j : Nat) (h : j < 12) : (arr y k)[j]? = some (.int .i64 (if j < k then ma y ((j : Int) + 1) else 0)) := by
  simp [arr, h]

theorem arr_size (y : Int) (k : Nat) : (arr y k).size = 12 := by simp [arr]

theorem arr_one (y : Int) : arr y 1 = #[.int .i64 0, .int .i64 0, .int .i64 0, .int .i64 0, .int .i64 0, .int .i64 0, .int .i64 0, .int .i64 0, .int .i64 0, .int .i64 0, .int .i64 0, .int .i64 0] := by
  simp [arr, List.range, List.range.loop, Cal.ma_one]

theorem arr_set (y : Int) (k : Nat) (h : k < 12) : (arr y k).setIfInBounds k (.int .i64 (ma y ((k : Int) + 1))) = arr y (k + 1) := by
  apply Array.ext_getElem?
  intro j
  rw [Array.getElem?_setIfInBounds]
  by_cases hj : j < 12
  · by_cases e : k = j
    · subst e
      rw [if_pos rfl, if_pos (by rw [arr_size]; exact h), arr_get y (k + 1) k hj, if_pos (by omega)]
    · rw [if_neg e, arr_get y k j hj, arr_get y (k + 1) j hj]
      by_cases hjk : j < k
      · rw [if_pos hjk, if_pos (by omega)]
      · rw [if_neg hjk, if_neg (by omega)]
  · rw [Array.getElem?_eq_none (by rw [arr_size]; omega), Array.getElem?_eq_none (by rw [arr_size]; omega), if_neg (by omega)]

/-- What daysAhead hands back. -/
def aheadV (y : Int) : Value := .agg #[.int .i64 (ma y 1), .int .i64 (ma y 2), .int .i64 (ma y 3), .int .i64 (ma y 4), .int .i64 (ma y 5), .int .i64 (ma y 6), .int .i64 (ma y 7), .int .i64 (ma y 8), .int .i64 (ma y 9), .int .i64 (ma y 10), .int .i64 (ma y 11), .int .i64 (ma y 12)]

theorem arr_all (y : Int) : arr y 12 = #[.int .i64 (ma y 1), .int .i64 (ma y 2), .int .i64 (ma y 3), .int .i64 (ma y 4), .int .i64 (ma y 5), .int .i64 (ma y 6), .int .i64 (ma y 7), .int .i64 (ma y 8), .int .i64 (ma y 9), .int .i64 (ma y 10), .int .i64 (ma y 11), .int .i64 (ma y 12)] := by
  simp [arr, List.range, List.range.loop]

def zero12 : Obj := .cells #[.int .i64 0, .int .i64 0, .int .i64 0, .int .i64 0, .int .i64 0, .int .i64 0, .int .i64 0, .int .i64 0, .int .i64 0, .int .i64 0, .int .i64 0, .int .i64 0] 22

theorem set_new (W : World) (c : Array Value) (t : TypeId) (n b k : Nat) (v : Value) (hb : b = W.heap.size) :
    ((W.alloc (.cells c t)).drewN n).setCell ⟨b, k, none⟩ v = (W.alloc (.cells (c.setIfInBounds k v) t)).drewN n := by
  subst hb
  show ((W.alloc (.cells c t)).setCell ⟨W.heap.size, k, none⟩ v).drewN n = _
  rw [World.setCell_alloc_at _ _ _ _ _ rfl]

/-- A store into a row that is known. -/
theorem row_set {X : World} {b : Nat} {c : Array Value} {t : TypeId} {fr : Nat × Nat} {k : Nat} {v : Value} (h : X.heap[b]? = some (.cells c t fr)) :
    (X.setCell ⟨b, k, none⟩ v).heap[b]? = some (.cells (c.setIfInBounds k v) t fr) := by
  simp [World.setCell, Array.getElem?_modify, h]

theorem heap_new (w : World) (o : Obj) : (w.alloc o).heap[w.heap.size]? = some o := by
  show (w.heap.push o)[w.heap.size]? = some o
  simp

theorem row12 {X : World} {b : Nat} {t : TypeId} {fr : Nat × Nat} {u0 u1 u2 u3 u4 u5 u6 u7 u8 u9 u10 u11 v0 v1 v2 v3 v4 v5 v6 v7 v8 v9 v10 v11 : Value} (h : X.heap[b]? = some (.cells #[u0, u1, u2, u3, u4, u5, u6, u7, u8, u9, u10, u11] t fr)) :
    ((((((((((((X.setCell ⟨b, 0, none⟩ v0).setCell ⟨b, 1, none⟩ v1).setCell ⟨b, 2, none⟩ v2).setCell ⟨b, 3, none⟩ v3).setCell ⟨b, 4, none⟩ v4).setCell ⟨b, 5, none⟩ v5).setCell ⟨b, 6, none⟩ v6).setCell ⟨b, 7, none⟩ v7).setCell ⟨b, 8, none⟩ v8).setCell ⟨b, 9, none⟩ v9).setCell ⟨b, 10, none⟩ v10).setCell ⟨b, 11, none⟩ v11).heap[b]? = some (.cells #[v0, v1, v2, v3, v4, v5, v6, v7, v8, v9, v10, v11] t fr) := by
  have g := (row_set (k := 11) (v := v11) (row_set (k := 10) (v := v10) (row_set (k := 9) (v := v9) (row_set (k := 8) (v := v8) (row_set (k := 7) (v := v7) (row_set (k := 6) (v := v6) (row_set (k := 5) (v := v5) (row_set (k := 4) (v := v4) (row_set (k := 3) (v := v3) (row_set (k := 2) (v := v2) (row_set (k := 1) (v := v1) (row_set (k := 0) (v := v0) h))))))))))))
  simpa using g

def ARel (y : Int) (w : World) (i : Value) (wr : World) : Prop := ∃ k n : Nat, 1 ≤ k ∧ k ≤ 12 ∧ i = .int .i64 (k : Int) ∧ wr = ((w.alloc (.cells #[.int .i64 0, .int .i64 0, .int .i64 0, .int .i64 0, .int .i64 0, .int .i64 0, .int .i64 0, .int .i64 0, .int .i64 0, .int .i64 0, .int .i64 0, .int .i64 0] 22)).alloc (.cells (arr y k) 22)).drewN n

set_option maxHeartbeats 1000000 in
theorem ahead_any (y : Int) (w : World) (hL : Laid w) (h1 : 1 ≤ y) (h2 : y ≤ 9999) : Calls Tryd.prog 46 #[.int .i64 y] w fun e w' => e = .returned (aheadV y) ∧ Later w w' := by
  go_enter Tryd.func46, Tryd.ntmps46
  go_wp2
  go_loopw [4] (fun i wr => ARel y w i wr) (fun i _ => 12 - (intOf i).toNat)
  case atStart => exact ⟨1, 0, by omega, by omega, rfl, by rw [arr_one]; rfl⟩
  case round =>
    obtain ⟨k, n, hk1, hk2, rfl, rfl⟩ := hrel
    by_cases hlt : k < 12
    · have hd := Cal.dm_bd y k h1 h2 (by omega) (by omega)
      have hm := Cal.ma_bd y k (by omega)
      have hln : ln y ≤ 366 := by rcases Cal.ln_cases y with ⟨_, e⟩ | ⟨_, e⟩ <;> omega
      have hget : (arr y k)[k - 1]? = some (.int .i64 (ma y (k : Int))) := by
        rw [arr_get y k (k - 1) (by omega), if_pos (by omega)]
        rw [show (((k - 1 : Nat) : Int) + 1) = (k : Int) from by omega]
      have hold : (arr y k)[k]? = some (.int .i64 0) := by rw [arr_get y k k hlt, if_neg (by omega)]
      have HD := Lib.hid (fun (W : World) (hW : Laid W) => days_yes y k W hW h1 h2 (by omega) (by omega))
      have HG := Lib.hid hget
      have HO := Lib.hid hold
      have HS := Lib.hid (arr_set y k hlt)
      have HM := Lib.hid (Cal.ma_succ y k h1 h2 (by omega) (by omega))
      clear hget hold
      go_wp2
      have e1 : IntKind.i64.wrap ((k : Int) - 1) = (k : Int) - 1 := IntWalk.i64_in _ (by omega)
      have e2 : IntKind.i64.wrap (ma y k + dm y k) = ma y k + dm y k := IntWalk.i64_in _ (by omega)
      have g := HG.out
      have o := HO.out
      go_region_with ((go_at_call 21; refine (HD.out _ ?_).mono ?_; (exact hL.grown (((Later.refl w).alloc _ _).alloc _ _)); rintro e w' ⟨rfl, rfl⟩))
      all_goals
        clear e1 e2 g o
        go_wp2
        go_roundw
        case rel => exact ⟨k + 1, _, by omega, by omega, by go_num, by rw [← HS.out, HM.out]; exact set_new _ _ _ _ _ _ _ (by simp)⟩
        case measure => simp [intOf]; omega
    · obtain rfl : k = 12 := by omega
      rw [arr_all]
      go_wp2
      refine bodyPost_ret (v := aheadV y) ?_ rfl ⟨rfl, ?_⟩
      · refine results_cell_row (P := Tryd.prog) (fn := Tryd.f46) Tryd.results46 _ _ w.heap.size 22 #[.int .i64 (ma y 1), .int .i64 (ma y 2), .int .i64 (ma y 3), .int .i64 (ma y 4), .int .i64 (ma y 5), .int .i64 (ma y 6), .int .i64 (ma y 7), .int .i64 (ma y 8), .int .i64 (ma y 9), .int .i64 (ma y 10), .int .i64 (ma y 11), .int .i64 (ma y 12)] (0, 0) (.array 12 3) rfl ?_ Tryd.underlying22 rfl ?_
        · refine row12 (u0 := .int .i64 0) (u1 := .int .i64 0) (u2 := .int .i64 0) (u3 := .int .i64 0) (u4 := .int .i64 0) (u5 := .int .i64 0) (u6 := .int .i64 0) (u7 := .int .i64 0) (u8 := .int .i64 0) (u9 := .int .i64 0) (u10 := .int .i64 0) (u11 := .int .i64 0) ?_
          refine (Below.heap_alloc _ _ _ (by simp)).trans ?_
          exact heap_new _ _
        · kernel_rfl
      · iterate 12 refine Later.setCell ?_ (Nat.le_refl _) _
        exact ((Later.refl w).alloc _ _).alloc _ _

end Go.Proofs.YtepaiolhflpmeaaDoor.Greg
