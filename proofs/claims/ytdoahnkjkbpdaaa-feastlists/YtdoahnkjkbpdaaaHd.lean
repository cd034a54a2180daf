/-
  How many days a Hebrew month has, by the program: a year reckoned, a month's days. Conditions: the numbers are ints; the years are from 3762 to 9999 or not, as each theorem says.
-/
import Derived.Test.YtdoahnkjkbpdaaaLen
import Derived.Test.YtdoahnkjkbpdaaaHeb
namespace Go.Proofs.Ytdoahnkjkbpdaaa.Hebrew
open Go.ChangeShapes Go.WideShapes Go.ChangeAt Go.RowKit
open Go.Proofs.Ytdoahnkjkbpdaaa.Divs Go.Proofs.Ytdoahnkjkbpdaaa.Grow Go.Proofs.Ytdoahnkjkbpdaaa.Mol
open Go.Proofs.Ytdoahnkjkbpdaaa.Year (lh mh pt md mp p1 p2 po dl ny yl)
open Go.Proofs.Ytdoahnkjkbpdaaa.Heb (hd ha ups)

theorem longif_yes (w : World) : Calls Try.prog 68 #[.bool true] w fun e w' => e = .returned (.int .i64 30) ∧ w = w' := by
  go_enter Try.func68, Try.ntmps68
  go_wp2
  go_ret
  exact ⟨rfl, rfl⟩

theorem longif_no (w : World) : Calls Try.prog 68 #[.bool false] w fun e w' => e = .returned (.int .i64 29) ∧ w = w' := by
  go_enter Try.func68, Try.ntmps68
  go_wp2
  go_ret
  exact ⟨rfl, rfl⟩

/-- The block that a year's value makes where it is a parameter. -/
def yv (h f l : Int) (b : Bool) : Array Value := #[.int .i64 h, .int .i64 f, .int .i64 l, .bool b]

theorem ydays_out (h f l : Int) (b : Bool) (m : Int) (w : World) (ho : m < 1 ∨ 13 < m) :
    Calls Try.prog 51 #[.agg #[.int .i64 h, .int .i64 f, .int .i64 l, .bool b], .int .i64 m] w fun e w' => e = .returned (.int .i64 0) ∧ w' = w.alloc (.cells (yv h f l b) 62) := by
  have t1 : (m == 1) = false := by simp; omega
  have t2 : (m == 2) = false := by simp; omega
  have t3 : (m == 3) = false := by simp; omega
  have t4 : (m == 4) = false := by simp; omega
  have t5 : (m == 5) = false := by simp; omega
  have t6 : (m == 6) = false := by simp; omega
  have t7 : (m == 7) = false := by simp; omega
  have t8 : (m == 8) = false := by simp; omega
  have t9 : (m == 9) = false := by simp; omega
  have t10 : (m == 10) = false := by simp; omega
  have t11 : (m == 11) = false := by simp; omega
  have t12 : (m == 12) = false := by simp; omega
  have t13 : (m == 13) = false := by simp; omega
  clear ho
  go_enter Try.func51, Try.ntmps51
  go_wp2
  go_ret
  exact ⟨rfl, rfl⟩

set_option maxHeartbeats 1000000 in
theorem ydays_any (h f l : Int) (b : Bool) (m : Int) (w : World) (l0 : 0 ≤ l) :
    Calls Try.prog 51 #[.agg #[.int .i64 h, .int .i64 f, .int .i64 l, .bool b], .int .i64 m] w fun e w' => e = .returned (.int .i64 (hd l b m)) ∧ w' = w.alloc (.cells (yv h f l b) 62) := by
  by_cases ho : m < 1 ∨ 13 < m
  · rw [Heb.hd_out l b m ho]
    exact ydays_out h f l b m w ho
  have hm : l.tmod 10 = l % 10 := Int.tmod_eq_emod_of_nonneg l0
  have Y := Lib.hid longif_yes
  have N := Lib.hid longif_no
  rcases Heb.months_all m (by omega) (by omega) with rfl | rfl | rfl | rfl | rfl | rfl | rfl | rfl | rfl | rfl | rfl | rfl | rfl
  · go_enter Try.func51, Try.ntmps51
    go_wp2
    go_ret
    exact ⟨ret1 (by simp [hd]), rfl⟩
  · by_cases h5 : l % 10 = 5
    · have t : (l % 10 == 5) = true := beq_iff_eq.2 h5
      have HS := Lib.hid h5
      clear h5
      go_enter Try.func51, Try.ntmps51
      go_wp2_with fail
      refine (Y.out _).mono ?_
      rintro e w1 ⟨rfl, rfl⟩
      go_wp2_with fail
      go_ret
      exact ⟨ret1 (by simp [hd, HS.out]), rfl⟩
    · have t : (l % 10 == 5) = false := by simpa using h5
      have HS := Lib.hid h5
      clear h5
      go_enter Try.func51, Try.ntmps51
      go_wp2_with fail
      refine (N.out _).mono ?_
      rintro e w1 ⟨rfl, rfl⟩
      go_wp2_with fail
      go_ret
      exact ⟨ret1 (by simp [hd, HS.out]), rfl⟩
  · by_cases h3 : l % 10 = 3
    · have t : (l % 10 != 3) = false := by simp [h3]
      have HS := Lib.hid h3
      clear h3
      go_enter Try.func51, Try.ntmps51
      go_wp2_with fail
      refine (N.out _).mono ?_
      rintro e w1 ⟨rfl, rfl⟩
      go_wp2_with fail
      go_ret
      exact ⟨ret1 (by simp [hd, HS.out]), rfl⟩
    · have t : (l % 10 != 3) = true := by simpa using h3
      have HS := Lib.hid h3
      clear h3
      go_enter Try.func51, Try.ntmps51
      go_wp2_with fail
      refine (Y.out _).mono ?_
      rintro e w1 ⟨rfl, rfl⟩
      go_wp2_with fail
      go_ret
      exact ⟨ret1 (by simp [hd, HS.out]), rfl⟩
  · go_enter Try.func51, Try.ntmps51
    go_wp2
    go_ret
    exact ⟨ret1 (by simp [hd]), rfl⟩
  · go_enter Try.func51, Try.ntmps51
    go_wp2
    go_ret
    exact ⟨ret1 (by simp [hd]), rfl⟩
  · cases b with
    | true =>
      go_enter Try.func51, Try.ntmps51
      go_wp2
      go_ret
      exact ⟨ret1 (by simp [hd]), rfl⟩
    | false =>
      go_enter Try.func51, Try.ntmps51
      go_wp2
      go_ret
      exact ⟨ret1 (by simp [hd]), rfl⟩
  all_goals
    go_enter Try.func51, Try.ntmps51
    go_wp2
    go_ret
    exact ⟨ret1 (by simp [hd]), rfl⟩

theorem cell4 {w w1 : World} {c : Array Value} {t : TypeId} (hg : Later (w.alloc (.cells c t)) w1) (i : Nat) {v : Value} (hc : c[i]? = some v) : w1.cell? ⟨w.heap.size, i, none⟩ = some v :=
  gsome hg (by rw [World.cell?_alloc_new]; exact hc)

theorem froz4 {w w1 : World} {c : Array Value} {t : TypeId} (hg : Later (w.alloc (.cells c t)) w1) (i : Nat) : w1.frozen? ⟨w.heap.size, i, none⟩ = false := by
  rw [gfrozen hg _ _ (by simp), frozen?_alloc_cells]
  simp [World.frozen?]

theorem cellN {X W : World} {c : Array Value} {t : TypeId} (hg : Later (X.alloc (.cells c t)) W) {n : Nat} (hn : X.heap.size = n) (i : Nat) {v : Value} (hc : c[i]? = some v) : W.cell? ⟨n, i, none⟩ = some v := hn ▸ cell4 hg i hc
theorem frozN {X W : World} {c : Array Value} {t : TypeId} (hg : Later (X.alloc (.cells c t)) W) {n : Nat} (hn : X.heap.size = n) (i : Nat) : W.frozen? ⟨n, i, none⟩ = false := hn ▸ froz4 hg i

/-- A store into a row that is known. -/
theorem row_set {X : World} {b : Nat} {c : Array Value} {t : TypeId} {fr : Nat × Nat} {k : Nat} {v : Value} (h : X.heap[b]? = some (.cells c t fr)) :
    (X.setCell ⟨b, k, none⟩ v).heap[b]? = some (.cells (c.setIfInBounds k v) t fr) := by
  simp [World.setCell, Array.getElem?_modify, h]

theorem row4 {X : World} {b : Nat} {t : TypeId} {fr : Nat × Nat} {u0 u1 u2 u3 v0 v1 v2 v3 : Value} (h : X.heap[b]? = some (.cells #[u0, u1, u2, u3] t fr)) :
    ((((X.setCell ⟨b, 0, none⟩ v0).setCell ⟨b, 1, none⟩ v1).setCell ⟨b, 2, none⟩ v2).setCell ⟨b, 3, none⟩ v3).heap[b]? = some (.cells #[v0, v1, v2, v3] t fr) := by
  have g := (row_set (k := 3) (v := v3) (row_set (k := 2) (v := v2) (row_set (k := 1) (v := v1) (row_set (k := 0) (v := v0) h))))
  simpa using g

theorem row3 {X : World} {b : Nat} {t : TypeId} {fr : Nat × Nat} {u0 u1 u2 v0 v1 v2 : Value} (h : X.heap[b]? = some (.cells #[u0, u1, u2] t fr)) :
    (((X.setCell ⟨b, 0, none⟩ v0).setCell ⟨b, 1, none⟩ v1).setCell ⟨b, 2, none⟩ v2).heap[b]? = some (.cells #[v0, v1, v2] t fr) := by
  have g := (row_set (k := 2) (v := v2) (row_set (k := 1) (v := v1) (row_set (k := 0) (v := v0) h)))
  simpa using g

theorem heap_late {w w1 : World} {o : Obj} (hg : Later (w.alloc o) w1) : w1.heap[w.heap.size]? = some o := by
  rw [hg.2.2.2 _ (by simp)]
  exact heap_alloc_new w o

/-- Two results: a struct in a block, and a slot. -/
theorem results_row_tmp {P : Program} {fn : Func} {p q : Tmp} {ty : TypeId} (h : fn.results = #[.cell p ty, .tmp q]) (tmps : Array Value) (w : World) (g : Nat) (t : TypeId) (cs : Array Value) (fr : Nat × Nat) (d : TypeDesc) (v : Value)
    (hp : tmps.getD p undef = .pointer (some ⟨g, 0, none⟩)) (hq : tmps.getD q undef = v) (hg : w.heap[g]? = some (.cells cs t fr))
    (hu : P.underlying ty = some d) (hd : (match d with | .struct _ | .array _ _ => true | _ => false) = true) (hi : (P.info? ty).map (·.size) = some cs.size) :
    (results fn tmps).run P w = .ok (.tuple #[.agg cs, v]) w := by
  have hp' : tmps[p]?.getD undef = .pointer (some ⟨g, 0, none⟩) := by simpa using hp
  have hq' : tmps[q]?.getD undef = v := by simpa using hq
  simp [results, h, hp', hq', asAddr, run_loadVar_row w g t ty cs fr d hg hu hd hi]

theorem yreckon_no (h : Int) (w : World) (hb : h < 3762 ∨ 9999 < h) :
    Calls Try.prog 39 #[.int .i64 h] w fun e w' => e = .returned (.tuple #[.agg #[.int .i64 0, .int .i64 0, .int .i64 0, .bool false], .bool false]) ∧ Later w w' := by
  have N := Lib.hid (fun W => newyear_no h W hb)
  clear hb
  go_enter Try.func39, Try.ntmps39
  go_wp2_with fail
  refine (N.out _).mono ?_
  rintro e w1 ⟨rfl, rfl⟩
  go_wp2_with fail
  refine bodyPost_ret (v := .tuple #[.agg #[.int .i64 0, .int .i64 0, .int .i64 0, .bool false], .bool false]) ?_ rfl ⟨rfl, ?_⟩
  · exact results_row_tmp (P := Try.prog) (fn := Try.f39) Try.results39 _ _ w.heap.size 62 _ (0, 0) _ _ rfl rfl (heap_alloc_new w _) Try.underlying62 rfl (by kernel_rfl)
  exact (Later.refl w).alloc _ _

theorem yreckon_yes (h : Int) (w : World) (h1 : 3762 ≤ h) (h2 : h ≤ 9999) :
    Calls Try.prog 39 #[.int .i64 h] w fun e w' => e = .returned (.tuple #[.agg #[.int .i64 h, .int .i64 (ny h), .int .i64 (yl h), .bool (lh h)], .bool true]) ∧ Later w w' := by
  have N := Lib.hid (fun W => newyear_yes h W h1 h2)
  have L := Lib.hid (fun W => len_yes h W h1 h2)
  have B := Lib.hid (fun W => drew_g (leap_any h W (by omega) (by omega)))
  go_enter Try.func39, Try.ntmps39
  go_wp2_with fail
  refine (N.out _).mono ?_
  rintro e w1 ⟨rfl, hg1⟩
  go_wp2_with fail
  refine (L.out _).mono ?_
  rintro e w2 ⟨rfl, hg2⟩
  go_wp2_with fail
  refine (B.out _).mono ?_
  rintro e w3 ⟨rfl, hg3⟩
  have hg := gtrans hg1 (gtrans hg2 hg3)
  have c0 := cell4 hg 0 rfl
  have c1 := cell4 hg 1 rfl
  have c2 := cell4 hg 2 rfl
  have c3 := cell4 hg 3 rfl
  have f0 := froz4 hg 0
  have f1 := froz4 hg 1
  have f2 := froz4 hg 2
  have f3 := froz4 hg 3
  go_wp2_with fail
  refine bodyPost_ret (v := .tuple #[.agg #[.int .i64 h, .int .i64 (ny h), .int .i64 (yl h), .bool (lh h)], .bool true]) ?_ rfl ⟨rfl, ?_⟩
  · exact results_row_tmp (P := Try.prog) (fn := Try.f39) Try.results39 _ _ w.heap.size 62 _ (0, 0) _ _ rfl rfl (row4 (heap_late hg)) Try.underlying62 rfl (by kernel_rfl)
  exact ((((gtrans ((Later.refl w).alloc _ _) hg).setCell (Nat.le_refl _) _).setCell (Nat.le_refl _) _).setCell (Nat.le_refl _) _).setCell (Nat.le_refl _) _

theorem days_no (h m : Int) (w : World) (hb : h < 3762 ∨ 9999 < h) :
    Calls Try.prog 54 #[.int .i64 h, .int .i64 m] w fun e w' => e = .returned (.int .i64 0) ∧ Later w w' := by
  have N := Lib.hid (fun W => yreckon_no h W hb)
  clear hb
  go_enter Try.func54, Try.ntmps54
  go_wp2_with fail
  refine (N.out _).mono ?_
  rintro e w1 ⟨rfl, hg1⟩
  go_wp2_with fail
  go_ret
  exact ⟨rfl, hg1.alloc _ _⟩

theorem days_yes (h m : Int) (w : World) (h1 : 3762 ≤ h) (h2 : h ≤ 9999) :
    Calls Try.prog 54 #[.int .i64 h, .int .i64 m] w fun e w' => e = .returned (.int .i64 (hd (yl h) (lh h) m)) ∧ Later w w' := by
  have hl := Heb.yl_bd h
  have N := Lib.hid (fun W => yreckon_yes h W h1 h2)
  have D := Lib.hid (fun W => ydays_any h (ny h) (yl h) (lh h) m W (by omega))
  go_enter Try.func54, Try.ntmps54
  go_wp2_with fail
  refine (N.out _).mono ?_
  rintro e w1 ⟨rfl, hg1⟩
  go_wp2_with fail
  refine (D.out _).mono ?_
  rintro e w2 ⟨rfl, rfl⟩
  go_wp2_with fail
  go_ret
  exact ⟨rfl, (hg1.alloc _ _).alloc _ _⟩

end Go.Proofs.Ytdoahnkjkbpdaaa.Hebrew
