/-
  The date of a day of a Hebrew year, by the program: its loop over the months that have days. Conditions: the day lies in the month that the theorem names.
-/
import Derived.Test.YtdoahnkjkbpdaaaAh
namespace Go.Proofs.Ytdoahnkjkbpdaaa.Hebrew
open Go.ChangeShapes Go.WideShapes Go.ChangeAt Go.RowKit Go.Shelf
open Go.Proofs.Ytdoahnkjkbpdaaa.Divs Go.Proofs.Ytdoahnkjkbpdaaa.Grow Go.Proofs.Ytdoahnkjkbpdaaa.Mol
open Go.Proofs.Ytdoahnkjkbpdaaa.Year (lh mh pt md mp p1 p2 po dl ny yl)
open Go.Proofs.Ytdoahnkjkbpdaaa.Heb (hd ha ups)

attribute [local go_sem] Oper.semAt_some

theorem ups_nil (l : Int) (b : Bool) (k : Nat) (e : ups l b k = []) : k = 0 := by
  have h1 : ups l b 1 = [((1 : Int), hd l b 1)] := by simp [ups, hd]
  induction k with
  | zero => rfl
  | succ k ih =>
    exfalso
    by_cases hj0 : k = 0
    · subst hj0; rw [h1] at e; simp at e
    · unfold ups at e
      split at e
      · exact hj0 (ih e)
      · simp at e

/-- What is left between two rounds. -/
def Left (l : Int) (b : Bool) (g : Int) (pre : List (Int × Int)) (s : Int) : Prop := ∀ k : Nat, k ≤ 13 → pre = ups l b k → s = g - ha l b ((k : Int) + 1) ∧ 0 ≤ s

theorem left_start (l : Int) (b : Bool) (g : Int) (h0 : 0 ≤ g) : Left l b g [] g := by
  intro k _ e
  obtain rfl := ups_nil l b k e.symm
  have := Heb.ha_one l b
  exact ⟨by simp; omega, h0⟩

theorem left_on (l : Int) (b : Bool) (g : Int) (pre : List (Int × Int)) (x : Int × Int) (s : Int) (h0 : g ≤ 1000) (h : Left l b g pre s) (hx : x.2 ≤ s) : Left l b g (pre ++ [x]) (wrap64 (s - x.2)) := by
  intro k hk e
  obtain ⟨j, j1, j2, rfl, j4, j5, j6⟩ := Heb.ups_snoc l b k hk pre x e
  obtain ⟨e1, e2⟩ := h j (by omega) j2
  have b1 := Heb.ha_bd l b ((j : Int) + 1)
  have b2 := Heb.hd_bd l b ((j : Int) + 1)
  dsimp only at hx
  rw [IntWalk.wrap64_in _ (by dsimp only; omega), j5]
  dsimp only
  omega

theorem left_off (l : Int) (b : Bool) (g m : Int) (pre : List (Int × Int)) (x : Int × Int) (s : Int) (h : Left l b g pre s) (hx : ¬ x.2 ≤ s) (m1 : 1 ≤ m) (m2 : m ≤ 13) (g1 : ha l b m ≤ g) (g2 : g < ha l b (m + 1))
    (k : Nat) (hk : k ≤ 13) (e : pre ++ [x] = ups l b k) : x.1 = m ∧ IntKind.i64.wrap (s + 1) = g - ha l b m + 1 := by
  obtain ⟨j, j1, j2, rfl, j4, j5, j6⟩ := Heb.ups_snoc l b k hk pre x e
  obtain ⟨e1, e2⟩ := h j (by omega) j2
  dsimp only at hx
  have b1 := Heb.ha_bd l b ((j : Int) + 1)
  have b2 := Heb.hd_bd l b ((j : Int) + 1)
  have st := Heb.ha_step l b ((j : Int) + 1) (by omega) (by omega)
  have k1 := Heb.ha_one_of l b g m ((j : Int) + 1) m1 m2 g1 g2 (by omega) (by omega) (by omega) (by omega)
  subst k1
  refine ⟨rfl, ?_⟩
  rw [IntWalk.i64_left, IntWalk.wrap64_in _ (by omega)]
  omega

theorem left_end (l : Int) (b : Bool) (g m s : Int) (h : Left l b g (ups l b 13) s) (m1 : 1 ≤ m) (m2 : m ≤ 13) (g2 : g < ha l b (m + 1)) : False := by
  have k := h 13 (by omega) rfl
  have := Heb.ha_mono l b (m + 1) 14 (by omega) (by omega) (by omega)
  have e : ((13 : Nat) : Int) + 1 = 14 := by omega
  rw [e] at k
  omega

/-- A block that holds these cells. -/
def Row (B : Nat) (t : TypeId) (cs : Array Value) (W : World) : Prop := W.heap[B]? = some (.cells cs t (0, 0))

theorem Row.cell {B : Nat} {t : TypeId} {cs : Array Value} {W : World} (h : Row B t cs W) (i : Nat) {v : Value} (hc : cs[i]? = some v) : W.cell? ⟨B, i, none⟩ = some v := by
  unfold Row at h
  simp [World.cell?, h, hc]
theorem Row.frozen {B : Nat} {t : TypeId} {cs : Array Value} {W : World} (h : Row B t cs W) (i : Nat) : W.frozen? ⟨B, i, none⟩ = false := by
  unfold Row at h
  simp [World.frozen?, h]
theorem Row.kept {B : Nat} {t : TypeId} {cs : Array Value} {W W' : World} {row : Option Nat} (h : Row B t cs W) (hg : W.grownBy W' row) (hr : ∀ r, row = some r → ∃ o : Obj, W.heap[r]? = some o ∧ o.isCells = false) : Row B t cs W' :=
  (grownBy_keeps_cells hg hr h rfl).trans h
theorem Row.other {B : Nat} {t : TypeId} {cs : Array Value} {W : World} (h : Row B t cs W) {p : Addr} (hp : p.block ≠ B) (v : Value) : Row B t cs (W.setCell p v) :=
  (Below.heap_setCell _ _ _ _ (fun x => hp x.symm)).trans h
theorem Row.set {B : Nat} {t : TypeId} {cs : Array Value} {W : World} (h : Row B t cs W) (k : Nat) (v : Value) : Row B t (cs.setIfInBounds k v) (W.setCell ⟨B, k, none⟩ v) := row_set h
theorem Row.late {X W : World} {c : Array Value} {t : TypeId} (hg : Later (X.alloc (.cells c t)) W) {n : Nat} (hn : X.heap.size = n) : Row n t c W := by
  subst hn
  exact heap_late hg

set_option maxRecDepth 100000 in
set_option maxHeartbeats 2000000 in
theorem date_any (h f l : Int) (b : Bool) (g m : Int) (w : World) (l0 : 0 ≤ l) (m1 : 1 ≤ m) (m2 : m ≤ 13) (g1 : ha l b m ≤ g) (g2 : g < ha l b (m + 1)) :
    Calls Try.prog 41 #[.agg #[.int .i64 h, .int .i64 f, .int .i64 l, .bool b], .int .i64 g] w fun e w' => e = .returned (.agg #[.int .i64 h, .int .i64 m, .int .i64 (g - ha l b m + 1)]) ∧ Later w w' := by
  have hb1 := Heb.ha_bd l b m
  have hb2 := Heb.ha_bd l b (m + 1)
  have M := Lib.hid (fun W => months_any h f l b W)
  refine (callsIn_wide (n := 5)).1 ?_
  refine callsIn_of_wp_marks Try.func41 rfl trivial ?_ rfl
  simp only [Try.ntmps41, List.size_toArray, List.length_cons, List.length_nil, Nat.reduceAdd, Nat.reduceSub, Array.replicate_succ, Array.replicate_zero, List.push_toArray, List.append_toArray, List.nil_append, List.cons_append]
  gi_wp2
  refine wpIn_scope ?_
  gi_wp2
  refine wpIn_label ?_
  gi_wp2_with (refine ⟨trivial, ?_⟩; gi_at_call 65; refine (callsIn_wide.2 (M.out _)).mono ?_; rintro e w1 ⟨rfl, rfl⟩)
  obtain ⟨W0, hW0⟩ : ∃ W0, (((((w.alloc (.cells #[.int .i64 h, .int .i64 f, .int .i64 l, .bool b] 62)).alloc (.cells #[.int .i64 g] 3)).alloc (.cells #[.int .i64 0, .int .i64 0, .int .i64 0] 43)).alloc (.cells #[.int .i64 h, .int .i64 0, .int .i64 0] 43)).alloc (.cells #[.int .i64 h, .int .i64 f, .int .i64 l, .bool b] 62)) = W0 := ⟨_, rfl⟩
  have hs0 : W0.heap.size = w.heap.size + 5 := by rw [← hW0]; simp
  have hB0 : Below w.heap.size w W0 := by
    rw [← hW0]
    exact (((((Below.refl _ w).alloc (Nat.le_refl _) _).alloc (by simp) _).alloc (by simp; omega) _).alloc (by simp; omega) _).alloc (by simp; omega) _
  have hL4 : Later (((((w.alloc (.cells #[.int .i64 h, .int .i64 f, .int .i64 l, .bool b] 62)).alloc (.cells #[.int .i64 g] 3)).alloc (.cells #[.int .i64 0, .int .i64 0, .int .i64 0] 43)).alloc (.cells #[.int .i64 h, .int .i64 0, .int .i64 0] 43)).alloc (.cells #[.int .i64 h, .int .i64 f, .int .i64 l, .bool b] 62)) W0 := by rw [hW0]; exact Later.refl _
  have hL3 : Later ((((w.alloc (.cells #[.int .i64 h, .int .i64 f, .int .i64 l, .bool b] 62)).alloc (.cells #[.int .i64 g] 3)).alloc (.cells #[.int .i64 0, .int .i64 0, .int .i64 0] 43)).alloc (.cells #[.int .i64 h, .int .i64 0, .int .i64 0] 43)) W0 := gtrans ((Later.refl _).alloc _ _) hL4
  have hL2 : Later (((w.alloc (.cells #[.int .i64 h, .int .i64 f, .int .i64 l, .bool b] 62)).alloc (.cells #[.int .i64 g] 3)).alloc (.cells #[.int .i64 0, .int .i64 0, .int .i64 0] 43)) W0 := gtrans ((Later.refl _).alloc _ _) hL3
  have hL1 : Later ((w.alloc (.cells #[.int .i64 h, .int .i64 f, .int .i64 l, .bool b] 62)).alloc (.cells #[.int .i64 g] 3)) W0 := gtrans ((Later.refl _).alloc _ _) hL2
  have hg0 : Row (w.heap.size + 1) 3 #[.int .i64 g] W0 := Row.late hL1 (by simp)
  have hr0 : Row (w.heap.size + 1 + 1) 43 #[.int .i64 0, .int .i64 0, .int .i64 0] W0 := Row.late hL2 (by simp)
  have hd0 : Row (w.heap.size + 1 + 1 + 1) 43 #[.int .i64 h, .int .i64 0, .int .i64 0] W0 := Row.late hL3 (by simp)
  have hy0 : IsYear (w.heap.size + 1 + 1 + 1 + 1) h f l b W0 := ⟨cellN hL4 (by simp) 0 rfl, cellN hL4 (by simp) 1 rfl, cellN hL4 (by simp) 2 rfl, cellN hL4 (by simp) 3 rfl⟩
  rw [hW0]
  refine wpIn_rangeFunc_ownF rfl (by omega) (gf := 77) (lb := #[.pointer (some ⟨w.heap.size + 1 + 1 + 1 + 1, 0, none⟩)]) rfl trivial (enters_of Try.func77 (by kernel_rfl) rfl)
    (months_stops _ (by omega) h f l b l0 (w.heap.size + 1 + 1 + 1 + 1) W0 (by omega) hy0) (fun x y => Kept.trans x y) (fun W l o o' _ hl ho _ => Kept.book W l o o' hl ho) (Below.refl _ _) (fun _ => rfl)
    (fun pre W => ((∃ s : Int, Row (w.heap.size + 1) 3 #[.int .i64 s] W ∧ Left l b g pre s) ∧ Row (w.heap.size + 1 + 1) 43 #[.int .i64 0, .int .i64 0, .int .i64 0] W ∧ Row (w.heap.size + 1 + 1 + 1) 43 #[.int .i64 h, .int .i64 0, .int .i64 0] W) ∧ Below w.heap.size w W)
    (fun c pre W => (c = .exit 0 ∧ (∃ x y : Int, Row (w.heap.size + 1 + 1 + 1) 43 #[.int .i64 h, .int .i64 x, .int .i64 y] W ∧ ∀ k : Nat, k ≤ 13 → pre = ups l b k → x = m ∧ y = g - ha l b m + 1) ∧ Row (w.heap.size + 1 + 1) 43 #[.int .i64 0, .int .i64 0, .int .i64 0] W) ∧ Below w.heap.size w W)
    (OwnFrom.and (Own.from (fun s A B row hs hg hr => by obtain ⟨⟨v, x1, x2⟩, x3, x4⟩ := hs; exact ⟨⟨v, x1.kept hg hr, x2⟩, x3.kept hg hr, x4.kept hg hr⟩) _) (ownFrom_below (Nat.le_refl _) (by omega)))
    (fun c => OwnFrom.and (Own.from (fun s A B row hs hg hr => by obtain ⟨x0, ⟨v, u, x1, x2⟩, x3⟩ := hs; exact ⟨x0, ⟨v, u, x1.kept hg hr, x2⟩, x3.kept hg hr⟩) _) (ownFrom_below (Nat.le_refl _) (by omega)))
    ⟨⟨⟨g, hg0, left_start l b g (by omega)⟩, hr0, hd0⟩, hB0⟩
    (fun x => { tmps := #[.agg #[.int .i64 h, .int .i64 f, .int .i64 l, .bool b], .int .i64 g, .pointer (some ⟨w.heap.size, 0, none⟩), .pointer (some ⟨w.heap.size + 1, 0, none⟩), .pointer (some ⟨w.heap.size + 1 + 1, 0, none⟩), .pointer (some ⟨w.heap.size + 1 + 1 + 1, 0, none⟩), .int .i64 x.1, .int .i64 x.2, .pointer (some ⟨w.heap.size, 0, none⟩), .int .i64 h, .agg #[.int .i64 h, .int .i64 0, .int .i64 0], .agg #[.int .i64 h, .int .i64 f, .int .i64 l, .bool b], .func (.func 77) #[] #[.pointer (some ⟨w.heap.size + 1 + 1 + 1 + 1, 0, none⟩)], .int .i64 x.1, .int .i64 x.2, undef, undef, undef, undef, undef, undef, undef, undef, undef, undef, undef, undef, undef], defers := [] }) ?assign ?body ?done ?stop
  case assign =>
    intro lo x W K hK
    gi_wp2
    exact hK
  case body =>
    rintro lo pre ⟨xa, xb⟩ W ⟨⟨⟨s, hc, hS⟩, hr, hd⟩, hB⟩ _
    have c0 := hc.cell 0 rfl
    have f0 := hc.frozen 0
    by_cases hx : xb ≤ s
    · have HS := Lib.hid (left_on l b g pre (xa, xb) s (by omega) hS hx)
      clear hS
      gi_wp2
      exact ⟨KeepsOthers.setCell _ _ _, (Kept.refl _ W).setCell (by simp) _, ⟨⟨_, hc.set 0 _, HS.out⟩, hr.other (by simp) _, hd.other (by simp) _⟩, hB.setCell (p := ⟨w.heap.size + 1, 0, none⟩) (by simp) _⟩
    · have HS := Lib.hid (left_off l b g m pre (xa, xb) s hS hx m1 m2 g1 g2)
      clear hS
      have d1 := hd.cell 1 rfl
      have d2 := hd.cell 2 rfl
      have e1 := hd.frozen 1
      have e2 := hd.frozen 2
      have hmx : Try.prog.follows .mixedOrders = true := by kernel_rfl
      gi_wp2
      gi_region_o
      all_goals gi_wp2
      all_goals exact ⟨((KeepsOthers.setCell _ _ _).trans (KeepsOthers.setCell _ _ _)).trans (KeepsOthers.drew _), ⟨rfl, ⟨_, _, (hd.set 1 _).set 2 _, HS.out⟩, (hr.other (by simp) _).other (by simp) _⟩, ((hB.setCell (p := ⟨w.heap.size + 1 + 1 + 1, 1, none⟩) (by simp; omega) _).setCell (p := ⟨w.heap.size + 1 + 1 + 1, 2, none⟩) (by simp; omega) _).drew⟩
  case done =>
    rintro D ys W hD rfl ⟨⟨⟨s, hc, hS⟩, hr, hd⟩, hB⟩ hK
    exact (left_end l b g m s hS m1 m2 g2).elim
  case stop =>
    rintro D c pre W hD ⟨k, hk, hpre⟩ ⟨⟨rfl, ⟨x, y, hd, hS⟩, hr⟩, hB⟩ hK
    obtain ⟨rfl, rfl⟩ := hS k hk hpre
    have d0 := hd.cell 0 rfl
    have d1 := hd.cell 1 rfl
    have d2 := hd.cell 2 rfl
    have c0 := hr.cell 0 rfl
    have c1 := hr.cell 1 rfl
    have c2 := hr.cell 2 rfl
    have f0 := hr.frozen 0
    have f1 := hr.frozen 1
    have f2 := hr.frozen 2
    gi_wp2
    have hK' := (((KeepsOthers.setCell W ⟨w.heap.size + 1 + 1, 0, none⟩ (.int .i64 h)).trans (KeepsOthers.setCell _ ⟨w.heap.size + 1 + 1, 1, none⟩ (.int .i64 x))).trans (KeepsOthers.setCell _ ⟨w.heap.size + 1 + 1, 2, none⟩ (.int .i64 (g - ha l b x + 1)))).same D _ hK rfl
    refine ⟨by simp, .inl ⟨_, _, rfl, run_takeDeferred hK', ?_⟩⟩
    refine ⟨_, results_cell_row (P := Try.prog) (fn := Try.f41) Try.results41 _ _ (w.heap.size + 1 + 1) 43 _ (0, 0) _ rfl (Row.kept (((hr.set 0 _).set 1 _).set 2 _) (grownBy_putObj' _ D (.deferred none)) (fun r e => by cases e; exact ⟨_, hK', rfl⟩)) Try.underlying43 rfl (by kernel_rfl), rfl, ?_⟩
    exact Later.of_below ((((hB.setCell (p := ⟨w.heap.size + 1 + 1, 0, none⟩) (by simp; omega) _).setCell (p := ⟨w.heap.size + 1 + 1, 1, none⟩) (by simp; omega) _).setCell (p := ⟨w.heap.size + 1 + 1, 2, none⟩) (by simp; omega) _).trans (belowK_b (w := w) (Nat.le_refl _) _ D _ _ (by omega) hK' rfl rfl))

end Go.Proofs.Ytdoahnkjkbpdaaa.Hebrew
