/-
  Texts of mine, merged: each part says what it holds. Conditions: as each theorem states.
-/
import Derived.RegionTactic
import Derived.Laws.StructEq
import Derived.Test.YtmlnlkfdbbnkbaaGreatDoorM10

/- The date of a day of a Hebrew year, by the program: its loop over the months that have days. Conditions: the day lies in the month that the theorem names. -/
namespace Go.Proofs.YtmlnlkfdbbnkbaaGreatDoor.Hebrew
set_option maxRecDepth 100000
open Go.ChangeShapes Go.WideShapes Go.ChangeAt Go.RowKit Go.Shelf
open Go.Proofs.YtmlnlkfdbbnkbaaGreatDoor.Divs Go.Proofs.YtmlnlkfdbbnkbaaGreatDoor.Grow Go.Proofs.YtmlnlkfdbbnkbaaGreatDoor.Mol
open Go.Proofs.YtmlnlkfdbbnkbaaGreatDoor.Year (lh mh pt md mp p1 p2 po dl ny yl)
open Go.Proofs.YtmlnlkfdbbnkbaaGreatDoor.Heb (hd ha ups)

attribute [local go_sem] Oper.semAt_some

theorem ups_nil (l : Int) (b : Bool) (k : Nat) (e : ups l b k = []) : k = 0 := by
  have h1 : ups l b 1 = [((1 : Int), hd l b 1)] := by simp [ups, hd]
  induction k with
  | zero => rfl
  | succ k ih =>
    exfalso
    by_cases hj0 : k = 0
    · subst hj0; rw [h1] at e; simp at e
    · unfold ups at e
      split at e
      · exact hj0 (ih e)
      · simp at e

/-- What is left between two rounds. -/
def Left (l : Int) (b : Bool) (g : Int) (pre : List (Int × Int)) (s : Int) : Prop := ∀ k : Nat, k ≤ 13 → pre = ups l b k → s = g - ha l b ((k : Int) + 1) ∧ 0 ≤ s

theorem left_start (l : Int) (b : Bool) (g : Int) (h0 : 0 ≤ g) : Left l b g [] g := by
  intro k _ e
  obtain rfl := ups_nil l b k e.symm
  have := Heb.ha_one l b
  exact ⟨by simp; omega, h0⟩

theorem left_on (l : Int) (b : Bool) (g : Int) (pre : List (Int × Int)) (x : Int × Int) (s : Int) (h0 : g ≤ 1000) (h : Left l b g pre s) (hx : x.2 ≤ s) : Left l b g (pre ++ [x]) (wrap64 (s - x.2)) := by
  intro k hk e
  obtain ⟨j, j1, j2, rfl, j4, j5, j6⟩ := Heb.ups_snoc l b k hk pre x e
  obtain ⟨e1, e2⟩ := h j (by omega) j2
  have b1 := Heb.ha_bd l b ((j : Int) + 1)
  have b2 := Heb.hd_bd l b ((j : Int) + 1)
  dsimp only at hx
  rw [IntWalk.wrap64_in _ (by dsimp only; omega), j5]
  dsimp only
  omega

theorem left_off (l : Int) (b : Bool) (g m : Int) (pre : List (Int × Int)) (x : Int × Int) (s : Int) (h : Left l b g pre s) (hx : ¬ x.2 ≤ s) (m1 : 1 ≤ m) (m2 : m ≤ 13) (g1 : ha l b m ≤ g) (g2 : g < ha l b (m + 1))
    (k : Nat) (hk : k ≤ 13) (e : pre ++ [x] = ups l b k) : x.1 = m ∧ IntKind.i64.wrap (s + 1) = g - ha l b m + 1 := by
  obtain ⟨j, j1, j2, rfl, j4, j5, j6⟩ := Heb.ups_snoc l b k hk pre x e
  obtain ⟨e1, e2⟩ := h j (by omega) j2
  dsimp only at hx
  have b1 := Heb.ha_bd l b ((j : Int) + 1)
  have b2 := Heb.hd_bd l b ((j : Int) + 1)
  have st := Heb.ha_step l b ((j : Int) + 1) (by omega) (by omega)
  have k1 := Heb.ha_one_of l b g m ((j : Int) + 1) m1 m2 g1 g2 (by omega) (by omega) (by omega) (by omega)
  subst k1
  refine ⟨rfl, ?_⟩
  rw [IntWalk.i64_left, IntWalk.wrap64_in _ (by omega)]
  omega

theorem left_end (l : Int) (b : Bool) (g m s : Int) (h : Left l b g (ups l b 13) s) (m1 : 1 ≤ m) (m2 : m ≤ 13) (g2 : g < ha l b (m + 1)) : False := by
  have k := h 13 (by omega) rfl
  have := Heb.ha_mono l b (m + 1) 14 (by omega) (by omega) (by omega)
  have e : ((13 : Nat) : Int) + 1 = 14 := by omega
  rw [e] at k
  omega

/-- A block that holds these cells. -/
def Row (B : Nat) (t : TypeId) (cs : Array Value) (W : World) : Prop := W.heap[B]? = some (.cells cs t (0, 0))

theorem Row.cell {B : Nat} {t : TypeId} {cs : Array Value} {W : World} (h : Row B t cs W) (i : Nat) {v : Value} (hc : cs[i]? = some v) : W.cell? ⟨B, i, none⟩ = some v := by
  unfold Row at h
  simp [World.cell?, h, hc]
theorem Row.frozen {B : Nat} {t : TypeId} {cs : Array Value} {W : World} (h : Row B t cs W) (i : Nat) : W.frozen? ⟨B, i, none⟩ = false := by
  unfold Row at h
  simp [World.frozen?, h]
theorem Row.kept {B : Nat} {t : TypeId} {cs : Array Value} {W W' : World} {row : Option Nat} (h : Row B t cs W) (hg : W.grownBy W' row) (hr : ∀ r, row = some r → ∃ o : Obj, W.heap[r]? = some o ∧ o.isCells = false) : Row B t cs W' :=
  (grownBy_keeps_cells hg hr h rfl).trans h
theorem Row.other {B : Nat} {t : TypeId} {cs : Array Value} {W : World} (h : Row B t cs W) {p : Addr} (hp : p.block ≠ B) (v : Value) : Row B t cs (W.setCell p v) :=
  (Below.heap_setCell _ _ _ _ (fun x => hp x.symm)).trans h
theorem Row.set {B : Nat} {t : TypeId} {cs : Array Value} {W : World} (h : Row B t cs W) (k : Nat) (v : Value) : Row B t (cs.setIfInBounds k v) (W.setCell ⟨B, k, none⟩ v) := row_set h
theorem Row.late {X W : World} {c : Array Value} {t : TypeId} (hg : Later (X.alloc (.cells c t)) W) {n : Nat} (hn : X.heap.size = n) : Row n t c W := by
  subst hn
  exact heap_late hg

set_option maxRecDepth 100000 in
set_option maxHeartbeats 2000000 in
theorem date_any (h f l : Int) (b : Bool) (g m : Int) (w : World) (l0 : 0 ≤ l) (m1 : 1 ≤ m) (m2 : m ≤ 13) (g1 : ha l b m ≤ g) (g2 : g < ha l b (m + 1)) :
    Calls Tryz.prog 95 #[.agg #[.int .i64 h, .int .i64 f, .int .i64 l, .bool b], .int .i64 g] w fun e w' => e = .returned (.agg #[.int .i64 h, .int .i64 m, .int .i64 (g - ha l b m + 1)]) ∧ Later w w' := by
  have hb1 := Heb.ha_bd l b m
  have hb2 := Heb.ha_bd l b (m + 1)
  have M := Lib.hid (fun W => months_any h f l b W)
  refine (callsIn_wide (n := 5)).1 ?_
  refine callsIn_of_wp_marks Tryz.func95 rfl trivial ?_ rfl
  simp only [Tryz.ntmps95, List.size_toArray, List.length_cons, List.length_nil, Nat.reduceAdd, Nat.reduceSub, Array.replicate_succ, Array.replicate_zero, List.push_toArray, List.append_toArray, List.nil_append, List.cons_append]
  gi_wp2
  refine wpIn_scope ?_
  gi_wp2
  refine wpIn_label ?_
  gi_wp2_with (refine ⟨trivial, ?_⟩; gi_at_call 118; refine (callsIn_wide.2 (M.out _)).mono ?_; rintro e w1 ⟨rfl, rfl⟩)
  obtain ⟨W0, hW0⟩ : ∃ W0, (((((w.alloc (.cells #[.int .i64 h, .int .i64 f, .int .i64 l, .bool b] 140)).alloc (.cells #[.int .i64 g] 3)).alloc (.cells #[.int .i64 0, .int .i64 0, .int .i64 0] 119)).alloc (.cells #[.int .i64 h, .int .i64 0, .int .i64 0] 119)).alloc (.cells #[.int .i64 h, .int .i64 f, .int .i64 l, .bool b] 140)) = W0 := ⟨_, rfl⟩
  have hs0 : W0.heap.size = w.heap.size + 5 := by rw [← hW0]; simp
  have hB0 : Below w.heap.size w W0 := by
    rw [← hW0]
    exact (((((Below.refl _ w).alloc (Nat.le_refl _) _).alloc (by simp) _).alloc (by simp; omega) _).alloc (by simp; omega) _).alloc (by simp; omega) _
  have hL4 : Later (((((w.alloc (.cells #[.int .i64 h, .int .i64 f, .int .i64 l, .bool b] 140)).alloc (.cells #[.int .i64 g] 3)).alloc (.cells #[.int .i64 0, .int .i64 0, .int .i64 0] 119)).alloc (.cells #[.int .i64 h, .int .i64 0, .int .i64 0] 119)).alloc (.cells #[.int .i64 h, .int .i64 f, .int .i64 l, .bool b] 140)) W0 := by rw [hW0]; exact Later.refl _
  have hL3 : Later ((((w.alloc (.cells #[.int .i64 h, .int .i64 f, .int .i64 l, .bool b] 140)).alloc (.cells #[.int .i64 g] 3)).alloc (.cells #[.int .i64 0, .int .i64 0, .int .i64 0] 119)).alloc (.cells #[.int .i64 h, .int .i64 0, .int .i64 0] 119)) W0 := gtrans ((Later.refl _).alloc _ _) hL4
  have hL2 : Later (((w.alloc (.cells #[.int .i64 h, .int .i64 f, .int .i64 l, .bool b] 140)).alloc (.cells #[.int .i64 g] 3)).alloc (.cells #[.int .i64 0, .int .i64 0, .int .i64 0] 119)) W0 := gtrans ((Later.refl _).alloc _ _) hL3
  have hL1 : Later ((w.alloc (.cells #[.int .i64 h, .int .i64 f, .int .i64 l, .bool b] 140)).alloc (.cells #[.int .i64 g] 3)) W0 := gtrans ((Later.refl _).alloc _ _) hL2
  have hg0 : Row (w.heap.size + 1) 3 #[.int .i64 g] W0 := Row.late hL1 (by simp)
  have hr0 : Row (w.heap.size + 1 + 1) 119 #[.int .i64 0, .int .i64 0, .int .i64 0] W0 := Row.late hL2 (by simp)
  have hd0 : Row (w.heap.size + 1 + 1 + 1) 119 #[.int .i64 h, .int .i64 0, .int .i64 0] W0 := Row.late hL3 (by simp)
  have hy0 : IsYear (w.heap.size + 1 + 1 + 1 + 1) h f l b W0 := ⟨cellN hL4 (by simp) 0 rfl, cellN hL4 (by simp) 1 rfl, cellN hL4 (by simp) 2 rfl, cellN hL4 (by simp) 3 rfl⟩
  rw [hW0]
  refine wpIn_rangeFunc_ownF rfl (by omega) (gf := 133) (lb := #[.pointer (some ⟨w.heap.size + 1 + 1 + 1 + 1, 0, none⟩)]) rfl trivial (enters_of Tryz.func133 (by kernel_rfl) rfl)
    (months_stops _ (by omega) h f l b l0 (w.heap.size + 1 + 1 + 1 + 1) W0 (by omega) hy0) (fun x y => Kept.trans x y) (fun W l o o' _ hl ho _ => Kept.book W l o o' hl ho) (Below.refl _ _) (fun _ => rfl)
    (fun pre W => ((∃ s : Int, Row (w.heap.size + 1) 3 #[.int .i64 s] W ∧ Left l b g pre s) ∧ Row (w.heap.size + 1 + 1) 119 #[.int .i64 0, .int .i64 0, .int .i64 0] W ∧ Row (w.heap.size + 1 + 1 + 1) 119 #[.int .i64 h, .int .i64 0, .int .i64 0] W) ∧ Below w.heap.size w W)
    (fun c pre W => (c = .exit 0 ∧ (∃ x y : Int, Row (w.heap.size + 1 + 1 + 1) 119 #[.int .i64 h, .int .i64 x, .int .i64 y] W ∧ ∀ k : Nat, k ≤ 13 → pre = ups l b k → x = m ∧ y = g - ha l b m + 1) ∧ Row (w.heap.size + 1 + 1) 119 #[.int .i64 0, .int .i64 0, .int .i64 0] W) ∧ Below w.heap.size w W)
    (OwnFrom.and (Own.from (fun s A B row hs hg hr => by obtain ⟨⟨v, x1, x2⟩, x3, x4⟩ := hs; exact ⟨⟨v, x1.kept hg hr, x2⟩, x3.kept hg hr, x4.kept hg hr⟩) _) (ownFrom_below (Nat.le_refl _) (by omega)))
    (fun c => OwnFrom.and (Own.from (fun s A B row hs hg hr => by obtain ⟨x0, ⟨v, u, x1, x2⟩, x3⟩ := hs; exact ⟨x0, ⟨v, u, x1.kept hg hr, x2⟩, x3.kept hg hr⟩) _) (ownFrom_below (Nat.le_refl _) (by omega)))
    ⟨⟨⟨g, hg0, left_start l b g (by omega)⟩, hr0, hd0⟩, hB0⟩
    (fun x => { tmps := #[.agg #[.int .i64 h, .int .i64 f, .int .i64 l, .bool b], .int .i64 g, .pointer (some ⟨w.heap.size, 0, none⟩), .pointer (some ⟨w.heap.size + 1, 0, none⟩), .pointer (some ⟨w.heap.size + 1 + 1, 0, none⟩), .pointer (some ⟨w.heap.size + 1 + 1 + 1, 0, none⟩), .int .i64 x.1, .int .i64 x.2, .pointer (some ⟨w.heap.size, 0, none⟩), .int .i64 h, .agg #[.int .i64 h, .int .i64 0, .int .i64 0], .agg #[.int .i64 h, .int .i64 f, .int .i64 l, .bool b], .func (.func 133) #[] #[.pointer (some ⟨w.heap.size + 1 + 1 + 1 + 1, 0, none⟩)], .int .i64 x.1, .int .i64 x.2, undef, undef, undef, undef, undef, undef, undef, undef, undef, undef, undef, undef, undef], defers := [] }) ?assign ?body ?done ?stop
  case assign =>
    intro lo x W K hK
    gi_wp2
    exact hK
  case body =>
    rintro lo pre ⟨xa, xb⟩ W ⟨⟨⟨s, hc, hS⟩, hr, hd⟩, hB⟩ _
    have c0 := hc.cell 0 rfl
    have f0 := hc.frozen 0
    by_cases hx : xb ≤ s
    · have HS := Lib.hid (left_on l b g pre (xa, xb) s (by omega) hS hx)
      clear hS
      gi_wp2
      exact ⟨KeepsOthers.setCell _ _ _, (Kept.refl _ W).setCell (by simp) _, ⟨⟨_, hc.set 0 _, HS.out⟩, hr.other (by simp) _, hd.other (by simp) _⟩, hB.setCell (p := ⟨w.heap.size + 1, 0, none⟩) (by simp) _⟩
    · have HS := Lib.hid (left_off l b g m pre (xa, xb) s hS hx m1 m2 g1 g2)
      clear hS
      have d1 := hd.cell 1 rfl
      have d2 := hd.cell 2 rfl
      have e1 := hd.frozen 1
      have e2 := hd.frozen 2
      have hmx : Tryz.prog.follows .mixedOrders = true := by kernel_rfl
      gi_wp2
      gi_region_o
      all_goals gi_wp2
      all_goals exact ⟨((KeepsOthers.setCell _ _ _).trans (KeepsOthers.setCell _ _ _)).trans (KeepsOthers.drew _), ⟨rfl, ⟨_, _, (hd.set 1 _).set 2 _, HS.out⟩, (hr.other (by simp) _).other (by simp) _⟩, ((hB.setCell (p := ⟨w.heap.size + 1 + 1 + 1, 1, none⟩) (by simp; omega) _).setCell (p := ⟨w.heap.size + 1 + 1 + 1, 2, none⟩) (by simp; omega) _).drew⟩
  case done =>
    rintro D ys W hD rfl ⟨⟨⟨s, hc, hS⟩, hr, hd⟩, hB⟩ hK
    exact (left_end l b g m s hS m1 m2 g2).elim
  case stop =>
    rintro D c pre W hD ⟨k, hk, hpre⟩ ⟨⟨rfl, ⟨x, y, hd, hS⟩, hr⟩, hB⟩ hK
    obtain ⟨rfl, rfl⟩ := hS k hk hpre
    have d0 := hd.cell 0 rfl
    have d1 := hd.cell 1 rfl
    have d2 := hd.cell 2 rfl
    have c0 := hr.cell 0 rfl
    have c1 := hr.cell 1 rfl
    have c2 := hr.cell 2 rfl
    have f0 := hr.frozen 0
    have f1 := hr.frozen 1
    have f2 := hr.frozen 2
    gi_wp2
    have hK' := (((KeepsOthers.setCell W ⟨w.heap.size + 1 + 1, 0, none⟩ (.int .i64 h)).trans (KeepsOthers.setCell _ ⟨w.heap.size + 1 + 1, 1, none⟩ (.int .i64 x))).trans (KeepsOthers.setCell _ ⟨w.heap.size + 1 + 1, 2, none⟩ (.int .i64 (g - ha l b x + 1)))).same D _ hK rfl
    refine ⟨by simp, .inl ⟨_, _, rfl, run_takeDeferred hK', ?_⟩⟩
    refine ⟨_, results_cell_row (P := Tryz.prog) (fn := Tryz.f95) Tryz.results95 _ _ (w.heap.size + 1 + 1) 119 _ (0, 0) _ rfl (Row.kept (((hr.set 0 _).set 1 _).set 2 _) (grownBy_putObj' _ D (.deferred none)) (fun r e => by cases e; exact ⟨_, hK', rfl⟩)) Tryz.underlying119 rfl (by kernel_rfl), rfl, ?_⟩
    exact Later.of_below ((((hB.setCell (p := ⟨w.heap.size + 1 + 1, 0, none⟩) (by simp; omega) _).setCell (p := ⟨w.heap.size + 1 + 1, 1, none⟩) (by simp; omega) _).setCell (p := ⟨w.heap.size + 1 + 1, 2, none⟩) (by simp; omega) _).trans (belowK_b (w := w) (Nat.le_refl _) _ D _ _ (by omega) hK' rfl rfl))

end Go.Proofs.YtmlnlkfdbbnkbaaGreatDoor.Hebrew

/- Which Hebrew year a day lies in, by the program: the library's search by halves, over a function value. Conditions: the day lies in the year that the theorem names. -/
namespace Go.Proofs.YtmlnlkfdbbnkbaaGreatDoor.Hebrew
set_option maxRecDepth 100000
open Go.ChangeShapes Go.WideShapes Go.ChangeAt Go.RowKit
open Go.Proofs.YtmlnlkfdbbnkbaaGreatDoor.Divs Go.Proofs.YtmlnlkfdbbnkbaaGreatDoor.Grow Go.Proofs.YtmlnlkfdbbnkbaaGreatDoor.Mol
open Go.Proofs.YtmlnlkfdbbnkbaaGreatDoor.Year (lh mh pt md mp p1 p2 po dl ny yl)
open Go.Proofs.YtmlnlkfdbbnkbaaGreatDoor.Heb (hd ha ups)

def SRel (n p : Int) (w : World) (x y : Value) (wr : World) : Prop := ∃ i j : Int, 0 ≤ i ∧ i ≤ p ∧ p ≤ j ∧ j ≤ n ∧ x = .int .i64 i ∧ y = .int .i64 j ∧ Later w wr

set_option maxHeartbeats 1000000 in
theorem search_any (n p : Int) (k : FuncId) (c : Value) (w : World) (p0 : 0 ≤ p) (p1 : p ≤ n) (hn : n ≤ 1000000)
    (ek : ∀ args W, (callFunc k args).run Tryz.prog W = .ok (.enter k args) W)
    (hk : ∀ (i : Int) W, 0 ≤ i → i < n → Later w W → Calls Tryz.prog k #[.int .i64 i, c] W fun e w' => e = .returned (.bool (decide (p ≤ i))) ∧ Later W w') :
    Calls Tryz.prog 116 #[.int .i64 n, .func (.func k) #[] #[c]] w fun e w' => e = .returned (.int .i64 p) ∧ Later w w' := by
  have HK := Lib.hid hk
  clear hk
  go_enter Tryz.func116, Tryz.ntmps116
  go_wp2_with fail
  go_loopw [5, 6] (fun x y wr => SRel n p w x y wr) (fun x y _ => (intOf y - intOf x).toNat)
  case atStart => exact ⟨0, n, by omega, by omega, by omega, by omega, rfl, rfl, Later.refl w⟩
  case round =>
    obtain ⟨i, j, i0, i1, j0, j1, rfl, rfl, hg⟩ := hrel
    by_cases hlt : i < j
    · go_wp2_with fail
      refine (HK.out _ _ (by omega) (by omega) hg).mono ?_
      rintro e w1 ⟨rfl, hg1⟩
      have hh : i ≤ (i + j) / 2 ∧ (i + j) / 2 < j := by omega
      by_cases hq : p ≤ (i + j) / 2
      · rw [decide_eq_true hq]
        go_wp2_with fail
        go_roundw
        case rel => exact ⟨i, (i + j) / 2, by omega, by omega, by omega, by omega, rfl, rfl, gtrans hg hg1⟩
        case measure => simp [intOf]; omega
      · rw [decide_eq_false hq]
        go_wp2_with fail
        go_roundw
        case rel => exact ⟨(i + j) / 2 + 1, j, by omega, by omega, by omega, by omega, rfl, rfl, gtrans hg hg1⟩
        case measure => simp [intOf]; omega
    · obtain rfl : i = p := by omega
      go_wp2_with fail
      go_ret
      exact ⟨rfl, hg⟩

theorem behind_any (n i h : Int) (B : Nat) (w : World) (i0 : 0 ≤ i) (i1 : i < 6237) (a1 : ny h ≤ n) (a2 : n < ny (h + 1)) (hc : w.cell? ⟨B, 0, none⟩ = some (.int .i64 n)) :
    Calls Tryz.prog 117 #[.int .i64 i, .pointer (some ⟨B, 0, none⟩)] w fun e w' => e = .returned (.bool (decide (h - 3762 ≤ i))) ∧ Later w w' := by
  have Y := Lib.hid (fun W => newyear_yes (3762 + i + 1) W (by omega) (by omega))
  have hb := Year.ny_bd (3762 + i + 1) (by omega) (by omega)
  have hx := Heb.ny_one_of n h (3762 + i + 1) a1 a2
  have HX := Lib.hid (show decide (n < ny (3762 + i + 1)) = decide (h - 3762 ≤ i) by
    by_cases c : h - 3762 ≤ i
    · rw [decide_eq_true c]; exact decide_eq_true (by have := mt hx.1 (by omega); omega)
    · rw [decide_eq_false c]; exact decide_eq_false (by have := hx.2 (by omega); omega))
  clear hx a1 a2
  go_enter Tryz.func117, Tryz.ntmps117
  go_wp2_with fail
  refine (Y.out _).mono ?_
  rintro e w1 ⟨rfl, hg1⟩
  have hc1 := gsome hg1 hc
  go_wp2_with fail
  go_ret
  exact ⟨retb HX.out, hg1⟩

theorem yearof_any (n h : Int) (w : World) (h1 : 3762 ≤ h) (h2 : h ≤ 9999) (a1 : ny h ≤ n) (a2 : n < ny (h + 1)) :
    Calls Tryz.prog 94 #[.int .i64 n] w fun e w' => e = .returned (.int .i64 h) ∧ Later w w' := by
  have b1 := Year.ny_bd h (by omega) (by omega)
  have b2 := Year.ny_bd (h + 1) (by omega) (by omega)
  have S := Lib.hid (search_any 6237 (h - 3762) 117 (.pointer (some ⟨w.heap.size, 0, none⟩)) (w.alloc (.cells #[.int .i64 n] 3)) (by omega) (by omega) (by omega) (enters_of Tryz.func117 (by kernel_rfl) rfl)
    (fun i W i0 i1 hg => behind_any n i h w.heap.size W i0 i1 a1 a2 (cell4 hg 0 rfl)))
  clear a1 a2 b1 b2
  go_enter Tryz.func94, Tryz.ntmps94
  go_wp2_with fail
  refine S.out.mono ?_
  rintro e w1 ⟨rfl, hg1⟩
  go_wp2_with fail
  go_ret
  exact ⟨ret1 (by omega), gtrans ((Later.refl w).alloc _ _) hg1⟩

theorem firstday_any (w : World) : Calls Tryz.prog 91 #[] w fun e w' => e = .returned (.int .i64 (ny 3762)) ∧ Later w w' := by
  have Y := Lib.hid (fun W => newyear_yes 3762 W (by omega) (by omega))
  go_enter Tryz.func91, Tryz.ntmps91
  go_wp2_with fail
  refine (Y.out _).mono ?_
  rintro e w1 ⟨rfl, hg1⟩
  go_wp2_with fail
  go_ret
  exact ⟨rfl, hg1⟩

theorem lastday_any (w : World) : Calls Tryz.prog 92 #[] w fun e w' => e = .returned (.int .i64 (ny 10000 - 1)) ∧ Later w w' := by
  have Y := Lib.hid (fun W => newyear_yes 9999 W (by omega) (by omega))
  have L := Lib.hid (fun W => len_yes 9999 W (by omega) (by omega))
  have E := Lib.hid (Heb.ny_next 9999)
  have b1 := Year.ny_bd 9999 (by omega) (by omega)
  have b2 := Heb.yl_bd 9999
  go_enter Tryz.func92, Tryz.ntmps92
  go_wp2_with fail
  refine (Y.out _).mono ?_
  rintro e w1 ⟨rfl, hg1⟩
  go_wp2_with fail
  refine (L.out _).mono ?_
  rintro e w2 ⟨rfl, hg2⟩
  go_wp2_with fail
  go_ret
  exact ⟨ret1 (by have := E.out; simp at this; omega), gtrans hg1 hg2⟩

end Go.Proofs.YtmlnlkfdbbnkbaaGreatDoor.Hebrew

/- A Hebrew date's number, and a number's Hebrew date, by the program. Conditions: as each theorem says. -/
namespace Go.Proofs.YtmlnlkfdbbnkbaaGreatDoor.Hebrew
set_option maxRecDepth 100000
open Go.ChangeShapes Go.WideShapes Go.ChangeAt Go.RowKit
open Go.Proofs.YtmlnlkfdbbnkbaaGreatDoor.Divs Go.Proofs.YtmlnlkfdbbnkbaaGreatDoor.Grow Go.Proofs.YtmlnlkfdbbnkbaaGreatDoor.Mol
open Go.Proofs.YtmlnlkfdbbnkbaaGreatDoor.Year (lh mh pt md mp p1 p2 po dl ny yl)
open Go.Proofs.YtmlnlkfdbbnkbaaGreatDoor.Heb (hd ha ups)

theorem of_early (n : Int) (w : World) (hn : n < ny 3762) :
    Calls Tryz.prog 65 #[.int .i64 n] w fun e w' => e = .returned (.tuple #[.agg #[.int .i64 0, .int .i64 0, .int .i64 0], .int .i64 41]) ∧ Later w w' := by
  have F := Lib.hid firstday_any
  go_enter Tryz.func65, Tryz.ntmps65
  go_wp2_with fail
  refine (F.out _).mono ?_
  rintro e w1 ⟨rfl, hg1⟩
  have c0 := cell4 hg1 0 rfl
  have c1 := cell4 hg1 1 rfl
  have c2 := cell4 hg1 2 rfl
  have f0 := froz4 hg1 0
  have f1 := froz4 hg1 1
  have f2 := froz4 hg1 2
  go_wp2_with fail
  refine bodyPost_ret (v := .tuple #[.agg #[.int .i64 0, .int .i64 0, .int .i64 0], .int .i64 41]) ?_ rfl ⟨rfl, ?_⟩
  · exact results_row_tmp (P := Tryz.prog) (fn := Tryz.f65) Tryz.results65 _ _ w.heap.size 119 _ (0, 0) _ _ rfl rfl (row3 (heap_late hg1)) Tryz.underlying119 rfl (by kernel_rfl)
  exact (((gtrans ((Later.refl w).alloc _ _) hg1).setCell (Nat.le_refl _) _).setCell (Nat.le_refl _) _).setCell (Nat.le_refl _) _

theorem of_late (n : Int) (w : World) (hn1 : ny 3762 ≤ n) (hn : ny 10000 - 1 < n) :
    Calls Tryz.prog 65 #[.int .i64 n] w fun e w' => e = .returned (.tuple #[.agg #[.int .i64 0, .int .i64 0, .int .i64 0], .int .i64 41]) ∧ Later w w' := by
  have F := Lib.hid firstday_any
  have L := Lib.hid lastday_any
  have t1 : ¬ n < ny 3762 := by omega
  clear hn1
  go_enter Tryz.func65, Tryz.ntmps65
  go_wp2_with fail
  refine (F.out _).mono ?_
  rintro e w1 ⟨rfl, hg1⟩
  go_wp2_with fail
  refine (L.out _).mono ?_
  rintro e w2 ⟨rfl, hg2⟩
  have hg := gtrans hg1 hg2
  have c0 := cell4 hg 0 rfl
  have c1 := cell4 hg 1 rfl
  have c2 := cell4 hg 2 rfl
  have f0 := froz4 hg 0
  have f1 := froz4 hg 1
  have f2 := froz4 hg 2
  go_wp2_with fail
  refine bodyPost_ret (v := .tuple #[.agg #[.int .i64 0, .int .i64 0, .int .i64 0], .int .i64 41]) ?_ rfl ⟨rfl, ?_⟩
  · exact results_row_tmp (P := Tryz.prog) (fn := Tryz.f65) Tryz.results65 _ _ w.heap.size 119 _ (0, 0) _ _ rfl rfl (row3 (heap_late hg)) Tryz.underlying119 rfl (by kernel_rfl)
  exact (((gtrans ((Later.refl w).alloc _ _) hg).setCell (Nat.le_refl _) _).setCell (Nat.le_refl _) _).setCell (Nat.le_refl _) _

set_option maxHeartbeats 1000000 in
theorem of_yes (n h m : Int) (w : World) (h1 : 3762 ≤ h) (h2 : h ≤ 9999) (a1 : ny h ≤ n) (a2 : n < ny (h + 1)) (m1 : 1 ≤ m) (m2 : m ≤ 13) (g1 : ha (yl h) (lh h) m ≤ n - ny h) (g2 : n - ny h < ha (yl h) (lh h) (m + 1)) :
    Calls Tryz.prog 65 #[.int .i64 n] w fun e w' => e = .returned (.tuple #[.agg #[.int .i64 h, .int .i64 m, .int .i64 (n - ny h - ha (yl h) (lh h) m + 1)], .int .i64 0]) ∧ Later w w' := by
  have F := Lib.hid firstday_any
  have L := Lib.hid lastday_any
  have Y := Lib.hid (fun W => yearof_any n h W h1 h2 a1 a2)
  have R := Lib.hid (fun W => yreckon_yes h W h1 h2)
  have hl := Heb.yl_bd h
  have D := Lib.hid (fun W => date_any h (ny h) (yl h) (lh h) (n - ny h) m W (by omega) m1 m2 g1 g2)
  have b1 := Heb.ny_mono 3762 h h1
  have b2 := Heb.ny_mono (h + 1) 10000 (by omega)
  have t1 : ¬ n < ny 3762 := by omega
  have t2 : ¬ ny 10000 - 1 < n := by omega
  have b3 := Year.ny_bd h (by omega) (by omega)
  have b4 := Year.ny_bd (h + 1) (by omega) (by omega)
  have b5 : -10000000 ≤ n ∧ n ≤ 10000000 := by omega
  have HL := Lib.hid hl
  clear a1 a2 g1 g2 b1 b2 b4 hl
  go_enter Tryz.func65, Tryz.ntmps65
  go_wp2_with fail
  refine (F.out _).mono ?_
  rintro e w1 ⟨rfl, hg1⟩
  go_wp2_with fail
  refine (L.out _).mono ?_
  rintro e w2 ⟨rfl, hg2⟩
  go_wp2_with fail
  refine (Y.out _).mono ?_
  rintro e w3 ⟨rfl, hg3⟩
  go_wp2_with fail
  refine (R.out _).mono ?_
  rintro e w4 ⟨rfl, hg4⟩
  go_wp2_with fail
  refine (D.out _).mono ?_
  rintro e w5 ⟨rfl, hg5⟩
  have hg := gtrans (gtrans hg1 (gtrans hg2 (gtrans hg3 hg4))) (gtrans ((Later.refl w4).alloc _ _) hg5)
  have c0 := cell4 hg 0 rfl
  have c1 := cell4 hg 1 rfl
  have c2 := cell4 hg 2 rfl
  have f0 := froz4 hg 0
  have f1 := froz4 hg 1
  have f2 := froz4 hg 2
  go_wp2_with fail
  refine bodyPost_ret (v := .tuple #[.agg #[.int .i64 h, .int .i64 m, .int .i64 (n - ny h - ha (yl h) (lh h) m + 1)], .int .i64 0]) ?_ rfl ⟨rfl, ?_⟩
  · exact results_row_tmp (P := Tryz.prog) (fn := Tryz.f65) Tryz.results65 _ _ w.heap.size 119 _ (0, 0) _ _ rfl rfl (row3 (heap_late hg)) Tryz.underlying119 rfl (by kernel_rfl)
  exact (((gtrans ((Later.refl w).alloc _ _) hg).setCell (Nat.le_refl _) _).setCell (Nat.le_refl _) _).setCell (Nat.le_refl _) _

end Go.Proofs.YtmlnlkfdbbnkbaaGreatDoor.Hebrew

/- A Hebrew date's number, by the program. Conditions: as each theorem says. -/
namespace Go.Proofs.YtmlnlkfdbbnkbaaGreatDoor.Hebrew
set_option maxRecDepth 100000
open Go.ChangeShapes Go.WideShapes Go.ChangeAt Go.RowKit
open Go.Proofs.YtmlnlkfdbbnkbaaGreatDoor.Divs Go.Proofs.YtmlnlkfdbbnkbaaGreatDoor.Grow Go.Proofs.YtmlnlkfdbbnkbaaGreatDoor.Mol
open Go.Proofs.YtmlnlkfdbbnkbaaGreatDoor.Year (lh mh pt md mp p1 p2 po dl ny yl)
open Go.Proofs.YtmlnlkfdbbnkbaaGreatDoor.Heb (hd ha ups)

theorem alloc_g {w : World} {P : Program} {f : FuncId} {args : Array Value} {v : Value} {o : Obj} (h : Calls P f args w fun e w' => e = .returned v ∧ w' = w.alloc o) : Calls P f args w fun e w' => e = .returned v ∧ Later w w' :=
  h.mono fun _ _ ⟨he, hw⟩ => ⟨he, hw ▸ (Later.refl w).put o⟩

end Go.Proofs.YtmlnlkfdbbnkbaaGreatDoor.Hebrew

/- Plain facts on feasts and days of rest, in whole numbers: a date's feast, a day's feast by its place in the year, days of rest, how many of them touch, the row of a year's feasts. No condition but those that each theorem names. -/
namespace Go.Proofs.YtmlnlkfdbbnkbaaGreatDoor.Fe
set_option maxRecDepth 100000
open Go.Proofs.YtmlnlkfdbbnkbaaGreatDoor.Year
open Go.Proofs.YtmlnlkfdbbnkbaaGreatDoor.Heb

/-- A date's feast. -/
def fk (ab : Bool) (m d : Int) : Int :=
  if m = 1 then (if d = 1 ∨ d = 2 then 1 else if d = 10 then 2 else if d = 15 ∨ ab = true ∧ d = 16 then 3 else if d = 22 ∨ ab = true ∧ d = 23 then 4 else 0)
  else if m = 8 then (if d = 15 ∨ ab = true ∧ d = 16 then 5 else if d = 21 ∨ ab = true ∧ d = 22 then 6 else 0)
  else if m = 10 then (if d = 6 ∨ ab = true ∧ d = 7 then 7 else 0) else 0

/-- Day n is day d of month m of the year h. -/
def Dt (n h m d : Int) : Prop := 3762 ≤ h ∧ h ≤ 9999 ∧ 1 ≤ m ∧ m ≤ 13 ∧ 1 ≤ d ∧ d ≤ hd (yl h) (lh h) m ∧ n = ny h + ha (yl h) (lh h) m + d - 1

/-- A feast by the place in a year of l days. -/
def fp (ab : Bool) (l i : Int) : Int :=
  if i = 0 ∨ i = 1 then 1 else if i = 9 then 2 else if i = 14 ∨ ab = true ∧ i = 15 then 3 else if i = 21 ∨ ab = true ∧ i = 22 then 4
  else if i = l - 163 ∨ ab = true ∧ i = l - 162 then 5 else if i = l - 157 ∨ ab = true ∧ i = l - 156 then 6 else if i = l - 113 ∨ ab = true ∧ i = l - 112 then 7 else 0

theorem dt_in (n h m d : Int) (x : Dt n h m d) : ny h ≤ n ∧ n < ny (h + 1) ∧ ha (yl h) (lh h) m ≤ n - ny h ∧ n - ny h < ha (yl h) (lh h) (m + 1) := by
  obtain ⟨h1, h2, m1, m2, d1, d2, e⟩ := x
  have s := ha_step (yl h) (lh h) m m1 m2
  have a := ha_all h
  have c := ha_mono (yl h) (lh h) (m + 1) 14 (by omega) (by omega) (by omega)
  have b := ha_bd (yl h) (lh h) m
  have k := ny_next h
  omega

theorem dt_of (n h m : Int) (h1 : 3762 ≤ h) (h2 : h ≤ 9999) (m1 : 1 ≤ m) (m2 : m ≤ 13) (g1 : ha (yl h) (lh h) m ≤ n - ny h) (g2 : n - ny h < ha (yl h) (lh h) (m + 1)) : Dt n h m (n - ny h - ha (yl h) (lh h) m + 1) := by
  have s := ha_step (yl h) (lh h) m m1 m2
  exact ⟨h1, h2, m1, m2, by omega, by omega, by omega⟩

/-- Every day from the first year's first on to the last year's last has a date. -/
theorem dt_ex (n : Int) (h1 : ny 3762 ≤ n) (h2 : n < ny 10000) : ∃ h m, 3762 ≤ h ∧ h ≤ 9999 ∧ ny h ≤ n ∧ n < ny (h + 1) ∧ 1 ≤ m ∧ m ≤ 13 ∧ ha (yl h) (lh h) m ≤ n - ny h ∧ n - ny h < ha (yl h) (lh h) (m + 1) := by
  obtain ⟨h, x1, x2, x3, x4⟩ := year_of n h1 h2
  have k := ny_next h
  obtain ⟨m, y1, y2, y3, y4⟩ := month_of (yl h) (lh h) (n - ny h) (by omega) (by rw [ha_all]; omega)
  exact ⟨h, m, x1, x2, x3, x4, y1, y2, y3, y4⟩

/-- A day has one year. -/
theorem year_one (n h h' : Int) (a1 : ny h ≤ n) (a2 : n < ny (h + 1)) (b1 : ny h' ≤ n) (b2 : n < ny (h' + 1)) : h' = h := by
  have x := (ny_one_of n h h' a1 a2).1 b1
  have y := (ny_one_of n h' h b1 b2).1 a1
  omega

open Classical in
/-- The year of a day. -/
noncomputable def yo (n : Int) : Int := if x : ∃ h, ny h ≤ n ∧ n < ny (h + 1) then Classical.choose x else 0

theorem yo_eq (n h : Int) (a1 : ny h ≤ n) (a2 : n < ny (h + 1)) : yo n = h := by
  have x : ∃ h, ny h ≤ n ∧ n < ny (h + 1) := ⟨h, a1, a2⟩
  unfold yo
  rw [dif_pos x]
  obtain ⟨b1, b2⟩ := Classical.choose_spec x
  exact year_one n h _ a1 a2 b1 b2

/-- A day's feast. -/
noncomputable def kd (ab : Bool) (n : Int) : Int := if n < ny 3762 ∨ ny 10000 ≤ n then 0 else fp ab (yl (yo n)) (n - ny (yo n))

theorem kd_out (ab : Bool) (n : Int) (h : n < ny 3762 ∨ ny 10000 ≤ n) : kd ab n = 0 := by unfold kd; rw [if_pos h]

theorem kd_in (ab : Bool) (n h : Int) (h1 : 3762 ≤ h) (h2 : h ≤ 9999) (a1 : ny h ≤ n) (a2 : n < ny (h + 1)) : kd ab n = fp ab (yl h) (n - ny h) := by
  have c1 := ny_mono 3762 h h1
  have c2 := ny_mono (h + 1) 10000 (by omega)
  unfold kd
  rw [if_neg (by omega), yo_eq n h a1 a2]

theorem kd_at (ab : Bool) (h i : Int) (h1 : 3762 ≤ h) (h2 : h ≤ 9999) (i1 : 0 ≤ i) (i2 : i < yl h) : kd ab (ny h + i) = fp ab (yl h) i := by
  have k := ny_next h
  rw [kd_in ab _ h h1 h2 (by omega) (by omega), show ny h + i - ny h = i by omega]

theorem ha_far (h : Int) : ha (yl h) (lh h) 8 = yl h - 177 ∧ ha (yl h) (lh h) 9 = yl h - 147 ∧ ha (yl h) (lh h) 10 = yl h - 118 ∧ ha (yl h) (lh h) 11 = yl h - 88 := by
  have s := ha_spring h
  have s8 : ha (yl h) (lh h) 9 = ha (yl h) (lh h) 8 + hd (yl h) (lh h) 8 := ha_step (yl h) (lh h) 8 (by omega) (by omega)
  have s9 : ha (yl h) (lh h) 10 = ha (yl h) (lh h) 9 + hd (yl h) (lh h) 9 := ha_step (yl h) (lh h) 9 (by omega) (by omega)
  have s10 : ha (yl h) (lh h) 11 = ha (yl h) (lh h) 10 + hd (yl h) (lh h) 10 := ha_step (yl h) (lh h) 10 (by omega) (by omega)
  have e8 : hd (yl h) (lh h) 8 = 30 := by simp [hd]
  have e9 : hd (yl h) (lh h) 9 = 29 := by simp [hd]
  have e10 : hd (yl h) (lh h) 10 = 30 := by simp [hd]
  omega

theorem fp_zero (ab : Bool) (l i : Int) (h0 : i ≠ 0) (h1 : i ≠ 1) (h2 : i ≠ 9) (h3 : i ≠ 14) (h4 : ab = true → i ≠ 15) (h5 : i ≠ 21) (h6 : ab = true → i ≠ 22) (h7 : i ≠ l - 163) (h8 : ab = true → i ≠ l - 162) (h9 : i ≠ l - 157) (h10 : ab = true → i ≠ l - 156) (h11 : i ≠ l - 113) (h12 : ab = true → i ≠ l - 112) : fp ab l i = 0 := by
  unfold fp
  cases ab <;> simp at * <;> (repeat' split) <;> omega

set_option maxHeartbeats 4000000 in
theorem fk_one (ab : Bool) (l d : Int) (d1 : 1 ≤ d) (d2 : d ≤ 30) (hl : 353 ≤ l) : fk ab 1 d = fp ab l (d - 1) := by
  by_cases c : d = 1 ∨ d = 2 ∨ d = 10 ∨ d = 15 ∨ d = 16 ∨ d = 22 ∨ d = 23
  · unfold fp
    rw [if_neg (c := d - 1 = l - 163 ∨ _) (by omega), if_neg (c := d - 1 = l - 157 ∨ _) (by omega), if_neg (c := d - 1 = l - 113 ∨ _) (by omega)]
    rcases c with rfl | rfl | rfl | rfl | rfl | rfl | rfl <;> cases ab <;> simp [fk]
  · rw [fp_zero ab l (d - 1) (by omega) (by omega) (by omega) (by omega) (by omega) (by omega) (by omega) (by omega) (by omega) (by omega) (by omega) (by omega) (by omega)]
    unfold fk
    rw [if_pos rfl, if_neg (by omega), if_neg (by omega), if_neg (by omega), if_neg (by omega)]

set_option maxHeartbeats 4000000 in
theorem fk_eight (ab : Bool) (l d : Int) (d1 : 1 ≤ d) (d2 : d ≤ 30) (hl : 353 ≤ l) : fk ab 8 d = fp ab l (l - 177 + d - 1) := by
  by_cases c : d = 15 ∨ d = 16 ∨ d = 21 ∨ d = 22
  · unfold fp
    rw [if_neg (by omega), if_neg (by omega), if_neg (by omega), if_neg (by omega)]
    rcases c with rfl | rfl | rfl | rfl <;> cases ab <;> simp [fk] <;> (repeat' split) <;> omega
  · rw [fp_zero ab l _ (by omega) (by omega) (by omega) (by omega) (by omega) (by omega) (by omega) (by omega) (by omega) (by omega) (by omega) (by omega) (by omega)]
    unfold fk
    rw [if_neg (by omega), if_pos rfl, if_neg (by omega), if_neg (by omega)]

set_option maxHeartbeats 4000000 in
theorem fk_ten (ab : Bool) (l d : Int) (d1 : 1 ≤ d) (d2 : d ≤ 30) (hl : 353 ≤ l) : fk ab 10 d = fp ab l (l - 118 + d - 1) := by
  by_cases c : d = 6 ∨ d = 7
  · unfold fp
    rw [if_neg (by omega), if_neg (by omega), if_neg (by omega), if_neg (by omega)]
    rcases c with rfl | rfl <;> cases ab <;> simp [fk] <;> (repeat' split) <;> omega
  · rw [fp_zero ab l _ (by omega) (by omega) (by omega) (by omega) (by omega) (by omega) (by omega) (by omega) (by omega) (by omega) (by omega) (by omega) (by omega)]
    unfold fk
    rw [if_neg (by omega), if_neg (by omega), if_pos rfl, if_neg (by omega)]

theorem fk_else (ab : Bool) (m d : Int) (h1 : m ≠ 1) (h8 : m ≠ 8) (h10 : m ≠ 10) : fk ab m d = 0 := by
  unfold fk
  rw [if_neg h1, if_neg h8, if_neg h10]

/-- The feast of a date is the feast of its place. -/
theorem fk_fp (ab : Bool) (h m d : Int) (m1 : 1 ≤ m) (m2 : m ≤ 13) (d1 : 1 ≤ d) (d2 : d ≤ hd (yl h) (lh h) m) : fk ab m d = fp ab (yl h) (ha (yl h) (lh h) m + d - 1) := by
  obtain ⟨f8, f9, f10, f11⟩ := ha_far h
  have s := ha_step (yl h) (lh h) m m1 m2
  have yb := (yl_bd h).1
  have hb := (hd_bd (yl h) (lh h) m).2
  have e1 := ha_one (yl h) (lh h)
  have e2 : ha (yl h) (lh h) 2 = 30 := by simp [ha]
  by_cases c1 : m = 1
  · subst c1
    rw [e1, show (0 : Int) + d - 1 = d - 1 by omega]
    exact fk_one ab _ d d1 (by omega) yb
  · by_cases c3 : m = 8
    · subst c3
      rw [f8]
      exact fk_eight ab _ d d1 (by omega) yb
    · by_cases c5 : m = 10
      · subst c5
        rw [f10]
        exact fk_ten ab _ d d1 (by omega) yb
      · rw [fk_else ab m d c1 c3 c5]
        have z : 30 ≤ ha (yl h) (lh h) m + d - 1 ∧ (ha (yl h) (lh h) m + d - 1 < yl h - 177 ∨ (yl h - 147 ≤ ha (yl h) (lh h) m + d - 1 ∧ ha (yl h) (lh h) m + d - 1 < yl h - 118) ∨ yl h - 88 ≤ ha (yl h) (lh h) m + d - 1) := by
          have a1 := ha_mono (yl h) (lh h) 2 m (by omega) (by omega) (by omega)
          refine ⟨by omega, ?_⟩
          by_cases c2 : m < 8
          · have a2 := ha_mono (yl h) (lh h) (m + 1) 8 (by omega) (by omega) (by omega)
            left; omega
          · by_cases c4 : m = 9
            · subst c4
              have e9 : hd (yl h) (lh h) 9 = 29 := by simp [hd]
              right; left; omega
            · have a2 := ha_mono (yl h) (lh h) 11 m (by omega) (by omega) (by omega)
              right; right; omega
        obtain ⟨g, hg⟩ : ∃ g, ha (yl h) (lh h) m + d - 1 = g := ⟨_, rfl⟩
        rw [hg] at z ⊢
        clear hg s hb e1 e2 f8 f9 f10 f11 d1 d2 m1 m2 c1 c3 c5
        exact (fp_zero ab _ g (by omega) (by omega) (by omega) (by omega) (by omega) (by omega) (by omega) (by omega) (by omega) (by omega) (by omega) (by omega) (by omega)).symm

theorem kd_dt (ab : Bool) (n h m d : Int) (x : Dt n h m d) : kd ab n = fk ab m d := by
  obtain ⟨a1, a2, a3, a4⟩ := dt_in n h m d x
  obtain ⟨h1, h2, m1, m2, d1, d2, e⟩ := x
  rw [kd_in ab n h h1 h2 a1 a2, fk_fp ab h m d m1 m2 d1 d2, show n - ny h = ha (yl h) (lh h) m + d - 1 by omega]

/-- A day of rest. -/
noncomputable def rst (ab : Bool) (n : Int) : Bool := decide (ny 3762 ≤ n ∧ n < ny 10000) && (decide (n % 7 = 6) || decide (kd ab n ≠ 0))

theorem rst_iff (ab : Bool) (n : Int) : rst ab n = true ↔ ny 3762 ≤ n ∧ n < ny 10000 ∧ (n % 7 = 6 ∨ kd ab n ≠ 0) := by
  unfold rst
  simp [and_assoc]

theorem rst_low (ab : Bool) (n : Int) (h : n < ny 3762) : rst ab n = false := by
  cases e : rst ab n
  · rfl
  · have := (rst_iff ab n).1 e; omega

theorem rst_high (ab : Bool) (n : Int) (h : ny 10000 ≤ n) : rst ab n = false := by
  cases e : rst ab n
  · rfl
  · have := (rst_iff ab n).1 e; omega

/-- Where a feast's day lies. -/
theorem kd_place (ab : Bool) (n : Int) (h1 : ny 3762 ≤ n) (h2 : n < ny 10000) (h : kd ab n ≠ 0) : ∃ y l : Int, 353 ≤ l ∧ y ≤ n ∧ n < y + l ∧ (∃ g, 3762 ≤ g ∧ g ≤ 9999 ∧ y = ny g ∧ l = yl g) ∧
    (n = y ∨ n = y + 1 ∨ n = y + 9 ∨ n = y + 14 ∨ n = y + 15 ∨ n = y + 21 ∨ n = y + 22 ∨ n = y + l - 163 ∨ n = y + l - 162 ∨ n = y + l - 157 ∨ n = y + l - 156 ∨ n = y + l - 113 ∨ n = y + l - 112) := by
  obtain ⟨g, x1, x2, x3, x4⟩ := year_of n h1 h2
  have k := ny_next g
  have b := yl_bd g
  refine ⟨ny g, yl g, b.1, x3, by omega, ⟨g, x1, x2, rfl, rfl⟩, ?_⟩
  rw [kd_in ab n g x1 x2 x3 x4] at h
  unfold fp at h
  revert h
  cases ab <;> simp <;> (repeat' split) <;> omega

/-- Of three days of feasts in a row there is none. -/
theorem no_three (ab : Bool) (a b c : Int) (h1 : a < b) (h2 : b < c) (h3 : c ≤ a + 3) (ia : ny 3762 ≤ a) (ic : c < ny 10000) (ka : kd ab a ≠ 0) (kb : kd ab b ≠ 0) (kc : kd ab c ≠ 0) : False := by
  obtain ⟨y, l, l1, y1, y2, ⟨g, g1, g2, rfl, rfl⟩, p⟩ := kd_place ab a ia (by omega) ka
  obtain ⟨y', l', l1', y1', y2', ⟨g', g1', g2', rfl, rfl⟩, p'⟩ := kd_place ab b (by omega) (by omega) kb
  obtain ⟨y'', l'', l1'', y1'', y2'', ⟨g'', g1'', g2'', rfl, rfl⟩, p''⟩ := kd_place ab c (by omega) ic kc
  have n1 := ny_next g
  have n2 := ny_next g'
  have n3 := ny_next g''
  have m1 : ny g' ≤ a ∨ a < ny g' := by omega
  have e1 : g' = g := by
    by_cases x : ny g' ≤ a
    · exact year_one a g g' y1 (by omega) x (by omega)
    · exfalso
      by_cases z : g' ≤ g
      · have := ny_mono g' g z; omega
      · have := ny_mono (g + 1) g' (by omega); omega
  have e2 : g'' = g := by
    by_cases x : ny g'' ≤ a
    · exact year_one a g g'' y1 (by omega) x (by omega)
    · exfalso
      by_cases z : g'' ≤ g
      · have := ny_mono g'' g z; omega
      · have := ny_mono (g + 1) g'' (by omega); omega
  subst e1
  subst e2
  omega

/-- NO MORE THAN THREE DAYS OF REST TOUCH. -/
theorem no_four (ab : Bool) (n : Int) (h0 : rst ab n = true) (h1 : rst ab (n + 1) = true) (h2 : rst ab (n + 2) = true) (h3 : rst ab (n + 3) = true) : False := by
  rw [rst_iff] at h0 h1 h2 h3
  obtain ⟨a0, b0, c0⟩ := h0
  obtain ⟨a1, b1, c1⟩ := h1
  obtain ⟨a2, b2, c2⟩ := h2
  obtain ⟨a3, b3, c3⟩ := h3
  by_cases k0 : kd ab n ≠ 0
  · by_cases k1 : kd ab (n + 1) ≠ 0
    · by_cases k2 : kd ab (n + 2) ≠ 0
      · exact no_three ab _ _ _ (by omega) (by omega) (by omega) a0 b2 k0 k1 k2
      · by_cases k3 : kd ab (n + 3) ≠ 0
        · exact no_three ab _ _ _ (by omega) (by omega) (by omega) a0 b3 k0 k1 k3
        · omega
    · by_cases k2 : kd ab (n + 2) ≠ 0
      · by_cases k3 : kd ab (n + 3) ≠ 0
        · exact no_three ab _ _ _ (by omega) (by omega) (by omega) a0 b3 k0 k2 k3
        · omega
      · omega
  · by_cases k1 : kd ab (n + 1) ≠ 0
    · by_cases k2 : kd ab (n + 2) ≠ 0
      · by_cases k3 : kd ab (n + 3) ≠ 0
        · exact no_three ab _ _ _ (by omega) (by omega) (by omega) a1 b3 k1 k2 k3
        · omega
      · omega
    · omega

/-- The row of the feasts among the first k days from y on. -/
noncomputable def ls (ab : Bool) (y : Int) : Nat → List (Int × Int)
  | 0 => []
  | k + 1 => if kd ab (y + k) = 0 then ls ab y k else ls ab y k ++ [(kd ab (y + k), y + k)]

theorem ls_miss (ab : Bool) (y : Int) (k : Nat) (h : kd ab (y + k) = 0) : ls ab y (k + 1) = ls ab y k := by simp [ls, h]
theorem ls_hit (ab : Bool) (y : Int) (k : Nat) (h : kd ab (y + k) ≠ 0) : ls ab y (k + 1) = ls ab y k ++ [(kd ab (y + k), y + k)] := by simp [ls, h]

theorem ls_skip (ab : Bool) (y : Int) (a n : Nat) (h : ∀ i : Nat, a ≤ i → i < a + n → kd ab (y + i) = 0) : ls ab y (a + n) = ls ab y a := by
  induction n with
  | zero => rfl
  | succ n ih =>
    rw [← ih (fun i i1 i2 => h i i1 (by omega))]
    exact ls_miss ab y (a + n) (h _ (by omega) (by omega))

theorem ls_to (ab : Bool) (y : Int) (a b : Nat) (hab : a ≤ b) (h : ∀ i : Nat, a ≤ i → i < b → kd ab (y + i) = 0) : ls ab y b = ls ab y a := by
  obtain ⟨n, rfl⟩ : ∃ n, b = a + n := ⟨b - a, by omega⟩
  exact ls_skip ab y a n h

theorem ls_length (ab : Bool) (y : Int) (k : Nat) : (ls ab y k).length ≤ k := by
  induction k with
  | zero => simp [ls]
  | succ k ih =>
    unfold ls
    split
    · omega
    · simp; omega

/-- A year's feasts, each with its day; p: Passover's first. -/
def fl (ab : Bool) (y p : Int) : List (Int × Int) :=
  match ab with
  | false => [(1, y), (1, y + 1), (2, y + 9), (3, y + 14), (4, y + 21), (5, p), (6, p + 6), (7, p + 50)]
  | true => [(1, y), (1, y + 1), (2, y + 9), (3, y + 14), (3, y + 15), (4, y + 21), (4, y + 22), (5, p), (5, p + 1), (6, p + 6), (6, p + 7), (7, p + 50), (7, p + 51)]

set_option maxHeartbeats 2000000 in
theorem ls_all (ab : Bool) (h : Int) (k : Nat) (h1 : 3762 ≤ h) (h2 : h ≤ 9999) (k1 : 280 ≤ (k : Int)) (k2 : (k : Int) ≤ yl h) : ls ab (ny h) k = fl ab (ny h) (ny h + yl h - 163) := by
  have yb := yl_bd h
  obtain ⟨p, hp⟩ : ∃ p : Nat, (p : Int) = yl h - 163 := ⟨(yl h - 163).toNat, by omega⟩
  have K : ∀ i : Nat, (i : Int) < yl h → kd ab (ny h + i) = fp ab (yl h) i := fun i hi => kd_at ab h i h1 h2 (by omega) hi
  have skip : ∀ a b : Nat, a ≤ b → (b : Int) ≤ yl h → (∀ i : Nat, a ≤ i → i < b → fp ab (yl h) i = 0) → ls ab (ny h) b = ls ab (ny h) a := fun a b hab hb hz =>
    ls_to ab (ny h) a b hab (fun i i1 i2 => by rw [K i (by omega)]; exact hz i i1 i2)
  have hit : ∀ (a : Nat) (v : Int), (a : Int) < yl h → fp ab (yl h) a = v → v ≠ 0 → ls ab (ny h) (a + 1) = ls ab (ny h) a ++ [(v, ny h + a)] := fun a v ha hv h0 => by
    have e : kd ab (ny h + a) = v := by rw [K a ha]; exact hv
    rw [ls_hit ab (ny h) a (by rw [e]; exact h0), e]
  have q2 : ls ab (ny h) 2 = [(1, ny h), (1, ny h + 1)] := by
    rw [hit 1 1 (by omega) (by simp [fp]) (by omega), hit 0 1 (by omega) (by simp [fp]) (by omega)]
    simp [ls]
  have q9 := skip 2 9 (by omega) (by omega) (fun i _ _ => fp_zero ab _ _ (by omega) (by omega) (by omega) (by omega) (by omega) (by omega) (by omega) (by omega) (by omega) (by omega) (by omega) (by omega) (by omega))
  have q10 := hit 9 2 (by omega) (by simp [fp]) (by omega)
  have q14 := skip 10 14 (by omega) (by omega) (fun i _ _ => fp_zero ab _ _ (by omega) (by omega) (by omega) (by omega) (by omega) (by omega) (by omega) (by omega) (by omega) (by omega) (by omega) (by omega) (by omega))
  have q15 := hit 14 3 (by omega) (by simp [fp]) (by omega)
  have p1 : fp ab (yl h) p = 5 := by unfold fp; rw [if_neg (by omega), if_neg (by omega), if_neg (by omega), if_neg (by omega), if_pos (by omega)]
  have p7 : fp ab (yl h) ((p + 6 : Nat) : Int) = 6 := by unfold fp; rw [if_neg (by omega), if_neg (by omega), if_neg (by omega), if_neg (by omega), if_neg (by omega), if_pos (by omega)]
  have p51 : fp ab (yl h) ((p + 50 : Nat) : Int) = 7 := by unfold fp; rw [if_neg (by omega), if_neg (by omega), if_neg (by omega), if_neg (by omega), if_neg (by omega), if_neg (by omega), if_pos (by omega)]
  have r1 := hit p 5 (by omega) p1 (by omega)
  have r7 := hit (p + 6) 6 (by omega) p7 (by omega)
  have r51 := hit (p + 50) 7 (by omega) p51 (by omega)
  have e0 : ny h + yl h - 163 = ny h + p := by omega
  rw [e0]
  cases ab with
  | false =>
    have z : ∀ a b : Nat, a ≤ b → (b : Int) ≤ yl h → (∀ i : Nat, a ≤ i → i < b → (i : Int) ≠ 0 ∧ (i : Int) ≠ 1 ∧ (i : Int) ≠ 9 ∧ (i : Int) ≠ 14 ∧ (i : Int) ≠ 21 ∧ (i : Int) ≠ yl h - 163 ∧ (i : Int) ≠ yl h - 157 ∧ (i : Int) ≠ yl h - 113) → ls false (ny h) b = ls false (ny h) a :=
      fun a b hab hb hz => skip a b hab hb (fun i i1 i2 => by obtain ⟨x0, x1, x2, x3, x4, x5, x6, x7⟩ := hz i i1 i2; exact fp_zero false _ _ x0 x1 x2 x3 (by simp) x4 (by simp) x5 (by simp) x6 (by simp) x7 (by simp))
    have q21 := z 15 21 (by omega) (by omega) (fun i _ _ => by omega)
    have q22 := hit 21 4 (by omega) (by simp [fp]) (by omega)
    have qp := z 22 p (by omega) (by omega) (fun i _ _ => by omega)
    have qp6 := z (p + 1) (p + 6) (by omega) (by omega) (fun i _ _ => by omega)
    have qp50 := z (p + 6 + 1) (p + 50) (by omega) (by omega) (fun i _ _ => by omega)
    have qk := z (p + 50 + 1) k (by omega) (by omega) (fun i _ _ => by omega)
    rw [qk, r51, qp50, r7, qp6, r1, qp, q22, q21, q15, q14, q10, q9, q2]
    simp [fl]
    omega
  | true =>
    have z : ∀ a b : Nat, a ≤ b → (b : Int) ≤ yl h → (∀ i : Nat, a ≤ i → i < b → (i : Int) ≠ 0 ∧ (i : Int) ≠ 1 ∧ (i : Int) ≠ 9 ∧ (i : Int) ≠ 14 ∧ (i : Int) ≠ 15 ∧ (i : Int) ≠ 21 ∧ (i : Int) ≠ 22 ∧ (i : Int) ≠ yl h - 163 ∧ (i : Int) ≠ yl h - 162 ∧ (i : Int) ≠ yl h - 157 ∧ (i : Int) ≠ yl h - 156 ∧ (i : Int) ≠ yl h - 113 ∧ (i : Int) ≠ yl h - 112) → ls true (ny h) b = ls true (ny h) a :=
      fun a b hab hb hz => skip a b hab hb (fun i i1 i2 => by obtain ⟨x0, x1, x2, x3, x4, x5, x6, x7, x8, x9, x10, x11, x12⟩ := hz i i1 i2; exact fp_zero true _ _ x0 x1 x2 x3 (fun _ => x4) x5 (fun _ => x6) x7 (fun _ => x8) x9 (fun _ => x10) x11 (fun _ => x12))
    have q16 := hit 15 3 (by omega) (by simp [fp]) (by omega)
    have q21 := z 16 21 (by omega) (by omega) (fun i _ _ => by omega)
    have q22 := hit 21 4 (by omega) (by simp [fp]) (by omega)
    have q23 := hit 22 4 (by omega) (by simp [fp]) (by omega)
    have p2 : fp true (yl h) ((p + 1 : Nat) : Int) = 5 := by unfold fp; rw [if_neg (by omega), if_neg (by omega), if_neg (by omega), if_neg (by omega), if_pos (by right; exact ⟨rfl, by omega⟩)]
    have p8 : fp true (yl h) ((p + 7 : Nat) : Int) = 6 := by unfold fp; rw [if_neg (by omega), if_neg (by omega), if_neg (by omega), if_neg (by omega), if_neg (by omega), if_pos (by right; exact ⟨rfl, by omega⟩)]
    have p52 : fp true (yl h) ((p + 51 : Nat) : Int) = 7 := by unfold fp; rw [if_neg (by omega), if_neg (by omega), if_neg (by omega), if_neg (by omega), if_neg (by omega), if_neg (by omega), if_pos (by right; exact ⟨rfl, by omega⟩)]
    have r2 := hit (p + 1) 5 (by omega) p2 (by omega)
    have r8 := hit (p + 7) 6 (by omega) p8 (by omega)
    have r52 := hit (p + 51) 7 (by omega) p52 (by omega)
    have qp := z 23 p (by omega) (by omega) (fun i _ _ => by omega)
    have qp6 := z (p + 1 + 1) (p + 6) (by omega) (by omega) (fun i _ _ => by omega)
    have qp50 := z (p + 7 + 1) (p + 50) (by omega) (by omega) (fun i _ _ => by omega)
    have qk := z (p + 51 + 1) k (by omega) (by omega) (fun i _ _ => by omega)
    rw [qk, r52, r51, qp50, r8, r7, qp6, r2, r1, qp, q23, q22, q21, q16, q15, q14, q10, q9, q2]
    simp [fl]
    omega

end Go.Proofs.YtmlnlkfdbbnkbaaGreatDoor.Fe

/- The program's map of the feasts' days: how a look-up at a date answers, behind stores in whatever order. Conditions: as each theorem says. -/
namespace Go.Proofs.YtmlnlkfdbbnkbaaGreatDoor.Feast
set_option maxRecDepth 100000
open Go.ChangeShapes Go.WideShapes Go.ChangeAt Go.RowKit
open Go.Proofs.YtmlnlkfdbbnkbaaGreatDoor.Divs Go.Proofs.YtmlnlkfdbbnkbaaGreatDoor.Grow Go.Proofs.YtmlnlkfdbbnkbaaGreatDoor.Mol Go.Proofs.YtmlnlkfdbbnkbaaGreatDoor.Hebrew
open Go.Proofs.YtmlnlkfdbbnkbaaGreatDoor.Year (lh mh pt md mp p1 p2 po dl ny yl)
open Go.Proofs.YtmlnlkfdbbnkbaaGreatDoor.Heb (hd ha ups)
open Go.Proofs.YtmlnlkfdbbnkbaaGreatDoor.Fe

/-- A key of the map. -/
def kv (m d : Int) : Value := .agg #[.int .i64 m, .int .i64 d]

/-- The entries are these, in this order. -/
def Tab (es : List MapEntry) (L : List (Int × Int × Int)) : Prop := es.map (fun e => (e.key, e.val)) = L.map (fun x => (kv x.1 x.2.1, Value.int .i64 x.2.2))

/-- What such a row of entries answers. -/
def look : List (Int × Int × Int) → Int → Int → Int
  | [], _, _ => 0
  | x :: r, m, d => if m = x.1 ∧ d = x.2.1 then x.2.2 else look r m d

theorem look_snoc (L : List (Int × Int × Int)) (m0 d0 k : Int) (h : look L m0 d0 = 0) (hL : ∀ x ∈ L, x.2.2 ≠ 0) (m d : Int) : look (L ++ [(m0, d0, k)]) m d = if m = m0 ∧ d = d0 then k else look L m d := by
  induction L with
  | nil => simp [look]
  | cons x r ih =>
    simp only [look] at h
    simp only [List.cons_append, look]
    by_cases c : m0 = x.1 ∧ d0 = x.2.1
    · rw [if_pos c] at h
      exact absurd h (hL x (by simp))
    · rw [if_neg c] at h
      rw [ih h (fun y hy => hL y (by simp [hy]))]
      by_cases e : m = x.1 ∧ d = x.2.1
      · rw [if_pos e, if_neg (by rintro ⟨rfl, rfl⟩; exact c e), if_pos e]
      · rw [if_neg e, if_neg e]

theorem equal_any (m d m' d' : Int) (w : World) : (Op.equal 138 (kv m d) (kv m' d')).run Tryz.prog w = .ok (decide (m = m' ∧ d = d')) w := by
  have u3 := Tryz.underlying3
  have a3 := Tryz.isAgg3
  have z3 := Tryz.sizeOf3
  have hS : Tryz.prog.underlying 138 = some (.struct (Tryz.prog.fieldsOf 138)) := by kernel_rfl
  have hp : Tryz.prog.stoodInHeld 138 = false := by kernel_rfl
  unfold Op.equal kv
  rw [show Op.maxDepth = 9999 + 1 from rfl, run_equalIn_agg w 9999 138 _ _ hS hp]
  simp only [Program.fieldsOf, Tryz.underlying138]
  go_simp
  by_cases h1 : m = m' <;> by_cases h2 : d = d' <;> simp [h1, h2]

theorem check_any (m d : Int) (b : Bool) (w : World) : (Instr.checkKey b 10000 138 (kv m d)).run Tryz.prog w = .ok () w := by
  have u3 := Tryz.underlying3
  have a3 := Tryz.isAgg3
  have z3 := Tryz.sizeOf3
  have c3 : ∀ (v : Int) (w : World), (Instr.checkKey b 9999 3 (.int .i64 v)).run Tryz.prog w = .ok () w := fun v w => by
    rw [show (9999 : Nat) = 9998 + 1 from rfl, Instr.checkKey]
    simp only [Sem.run_bind, run_underlying Tryz.underlying3, Result.andThen_ok, Sem.run_pure]
  unfold kv
  rw [show (10000 : Nat) = 9999 + 1 from rfl, Instr.checkKey]
  simp only [Sem.run_bind, run_underlying Tryz.underlying138, Result.andThen_ok]
  go_simp

theorem asking_any (m d : Int) (w : World) (es : List MapEntry) (L : List (Int × Int × Int)) (i : Nat) (h : Tab es L) (hL : ∀ x ∈ L, x.2.2 ≠ 0) :
    ∃ r, (Instr.findAsking 138 (kv m d) es i).run Tryz.prog w = .ok r w ∧ ((look L m d = 0 ∧ r = none) ∨ (look L m d ≠ 0 ∧ ∃ j, r = some (j, .int .i64 (look L m d)))) := by
  induction L generalizing es i with
  | nil =>
    obtain rfl : es = [] := by simpa [Tab] using h
    exact ⟨none, by simp [Instr.findAsking], .inl ⟨rfl, rfl⟩⟩
  | cons x r ih =>
    cases es with
    | nil => simp [Tab] at h
    | cons e es =>
      simp only [Tab, List.map_cons, List.cons.injEq, Prod.mk.injEq] at h
      obtain ⟨⟨hk, hv⟩, hr⟩ := h
      have q := equal_any m d x.1 x.2.1 w
      simp only [look]
      by_cases c : m = x.1 ∧ d = x.2.1
      · rw [if_pos c]
        rw [decide_eq_true c] at q
        exact ⟨some (i, .int .i64 x.2.2), by simp [Instr.findAsking, hk, q, hv], .inr ⟨hL x (by simp), i, rfl⟩⟩
      · rw [if_neg c]
        rw [decide_eq_false c] at q
        obtain ⟨o, ho, hh⟩ := ih es (i + 1) hr (fun y hy => hL y (by simp [hy]))
        exact ⟨o, by simp [Instr.findAsking, hk, q, ho], hh⟩

theorem find_any (m d : Int) (w : World) (es : List MapEntry) (L : List (Int × Int × Int)) (h : Tab es L) (hL : ∀ x ∈ L, x.2.2 ≠ 0) :
    ∃ r, (Instr.findKey 138 (kv m d) es).run Tryz.prog w = .ok r w ∧ ((look L m d = 0 ∧ r = none) ∨ (look L m d ≠ 0 ∧ ∃ j, r = some (j, .int .i64 (look L m d)))) := by
  obtain ⟨r, h1, h2⟩ := asking_any m d w es L 0 h hL
  unfold Instr.findKey
  simp only [Sem.run_bind, run_underlying Tryz.underlying138, Result.andThen_ok]
  cases es with
  | nil =>
    refine ⟨r, ?_, h2⟩
    simp [Instr.findAsking] at h1
    simp [Instr.findNow, h1]
  | cons e es =>
    refine ⟨r, ?_, h2⟩
    rw [← h1]
    rfl

/-- Block b is a map that answers by f. -/
def FMap (w : World) (b : Nat) (f : Int → Int → Int) : Prop :=
  ∃ (es : Array MapEntry) (clock : Nat) (L : List (Int × Int × Int)), w.heap[b]? = some (.map es clock) ∧ Tab es.toList L ∧ (∀ x ∈ L, x.2.2 ≠ 0) ∧ ∀ m d, look L m d = f m d

theorem FMap.lt {w : World} {b : Nat} {f : Int → Int → Int} (h : FMap w b f) : b < w.heap.size := by
  obtain ⟨es, clock, L, hb, _⟩ := h
  exact (Array.getElem?_eq_some_iff.1 hb).1

theorem FMap.same {w w' : World} {b : Nat} {f : Int → Int → Int} (h : FMap w b f) (e : w'.heap[b]? = w.heap[b]?) : FMap w' b f := by
  obtain ⟨es, clock, L, hb, h2⟩ := h
  exact ⟨es, clock, L, e.trans hb, h2⟩

theorem FMap.later {w w' : World} {b : Nat} {f : Int → Int → Int} (h : FMap w b f) (g : Later w w') : FMap w' b f := h.same (g.2.2.2 b h.lt)

theorem FMap.new (w : World) : FMap (w.alloc (.map #[] 0)) w.heap.size (fun _ _ => 0) :=
  ⟨#[], 0, [], World.alloc_heap_new w _, by simp [Tab], by simp, fun _ _ => rfl⟩

/-- A look-up. -/
theorem FMap.lookup {w : World} {b : Nat} {f : Int → Int → Int} (h : FMap w b f) (m d : Int) :
    (Instr.lookup 135 (.map (some b)) (.agg #[.int .i64 m, .int .i64 d]) false).run Tryz.prog w = .ok (.int .i64 (f m d)) w := by
  obtain ⟨es, clock, L, hb, hT, hL, hf⟩ := h
  obtain ⟨r, h1, h2⟩ := find_any m d w es.toList L hT hL
  have hc := check_any m d es.isEmpty w
  have hz := Tryz.zeroValue3 w
  rw [← hf m d]
  unfold Instr.lookup
  unfold kv at h1 hc
  rcases h2 with ⟨e, rfl⟩ | ⟨e, j, rfl⟩
  · rw [e]
    simp [run_underlying Tryz.underlying135, MapKept.run_getObj_map hb, hc, h1, hz]
  · simp [run_underlying Tryz.underlying135, MapKept.run_getObj_map hb, hc, h1]

/-- A store at a date that is not there. -/
theorem FMap.update {w : World} {b : Nat} {f : Int → Int → Int} (h : FMap w b f) (m d k : Int) (h0 : f m d = 0) (k0 : k ≠ 0) :
    ∃ w', (Instr.mapUpdate 135 (.map (some b)) (.agg #[.int .i64 m, .int .i64 d]) (.int .i64 k)).run Tryz.prog w = .ok () w' ∧ FMap w' b (fun m' d' => if m' = m ∧ d' = d then k else f m' d') ∧ w.grownBy w' (some b) := by
  obtain ⟨es, clock, L, hb, hT, hL, hf⟩ := h
  obtain ⟨r, h1, h2⟩ := find_any m d w es.toList L hT hL
  have hc := check_any m d false w
  have hz : look L m d = 0 := by rw [hf]; exact h0
  obtain ⟨_, rfl⟩ | ⟨e, _⟩ := h2
  · have hb' := (Array.getElem?_eq_some_iff.1 hb).1
    refine ⟨w.putObj b (.map (es.push { key := kv m d, val := .int .i64 k, born := clock }) (clock + 1)), ?_, ⟨_, _, L ++ [(m, d, k)], World.putObj_heap_same hb', ?_, ?_, fun m' d' => ?_⟩, grownBy_putObj' w b _⟩
    · unfold Instr.mapUpdate
      unfold kv at h1 hc
      simp [run_underlying Tryz.underlying135, MapKept.run_getObj_map hb, MapKept.run_setObj_map _ hb, hc, h1, kv, World.putObj]
    · unfold Tab at hT ⊢
      simp [hT]
    · intro x hx
      rcases List.mem_append.1 hx with hx | hx
      · exact hL x hx
      · obtain rfl : x = (m, d, k) := by simpa using hx
        exact k0
    · rw [look_snoc L m d k hz hL, hf]
  · exact absurd hz e

end Go.Proofs.YtmlnlkfdbbnkbaaGreatDoor.Feast
