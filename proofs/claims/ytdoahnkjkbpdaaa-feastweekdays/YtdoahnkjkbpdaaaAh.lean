/-
  How many days of a Hebrew year are ahead of a month, by the program: its loop over the months that have days. Conditions: the month has days.
-/
import Derived.Test.YtdoahnkjkbpdaaaMon
import Derived.Scope
namespace Go.Proofs.Ytdoahnkjkbpdaaa.Hebrew
open Go.ChangeShapes Go.WideShapes Go.ChangeAt Go.RowKit Go.Shelf
open Go.Proofs.Ytdoahnkjkbpdaaa.Divs Go.Proofs.Ytdoahnkjkbpdaaa.Grow Go.Proofs.Ytdoahnkjkbpdaaa.Mol
open Go.Proofs.Ytdoahnkjkbpdaaa.Year (lh mh pt md mp p1 p2 po dl ny yl)
open Go.Proofs.Ytdoahnkjkbpdaaa.Heb (hd ha ups)

attribute [local go_sem] Oper.semAt_some

theorem wpIn_scope {n : Nat} {P : Program} {c : Code} {Q : Exit → Act → World → Prop} {a : Act} {w : World} (h : c.wpIn Fence.wide n P (Exit.noGoto Q) a w) : (Code.scope c).wpIn Fence.wide n P Q a w :=
  wpIn_wide.2 (wp_scope_straight (wpIn_wide.1 h))

/-- What the sum holds between two rounds. -/
def Sums (l : Int) (b : Bool) (m : Int) (pre : List (Int × Int)) (s : Int) : Prop := ∀ k : Nat, k ≤ 13 → pre = ups l b k → s = ha l b ((k : Int) + 1) ∧ ∀ i : Int, 1 ≤ i → i ≤ k → hd l b i ≠ 0 → i < m

theorem sums_start (l : Int) (b : Bool) (m : Int) : Sums l b m [] 0 := by
  intro k hk e
  have hz : ∀ i : Int, 1 ≤ i → i ≤ k → hd l b i = 0 := by
    intro i i1 i2
    by_cases h0 : k = 0
    · subst h0; omega
    · exfalso
      have h1 : ups l b 1 = [((1 : Int), hd l b 1)] := by simp [ups, hd]
      have hl : ∀ j : Nat, 1 ≤ j → ups l b j ≠ [] := by
        intro j hj
        induction j with
        | zero => omega
        | succ j ih =>
          by_cases hj0 : j = 0
          · subst hj0; rw [h1]; simp
          · unfold ups
            split
            · exact ih (by omega)
            · simp
      exact hl k (by omega) e.symm
  refine ⟨?_, fun i i1 i2 i3 => absurd (hz i i1 i2) i3⟩
  by_cases h0 : k = 0
  · subst h0; exact (Heb.ha_one l b).symm
  · have := hz 1 (by omega) (by omega)
    simp [hd] at this

theorem sums_on (l : Int) (b : Bool) (m : Int) (pre : List (Int × Int)) (x : Int × Int) (s : Int) (h : Sums l b m pre s) (hx : x.1 < m) : Sums l b m (pre ++ [x]) (wrap64 (s + x.2)) := by
  intro k hk e
  obtain ⟨j, j1, j2, rfl, j4, j5, j6⟩ := Heb.ups_snoc l b k hk pre x e
  obtain ⟨e1, e2⟩ := h j (by omega) j2
  have b1 := Heb.ha_bd l b ((j : Int) + 1)
  have b2 := Heb.hd_bd l b ((j : Int) + 1)
  refine ⟨?_, fun i i1 i2 i3 => ?_⟩
  · rw [IntWalk.wrap64_in _ (by dsimp only; omega), j5, e1]
  · by_cases c1 : i ≤ j
    · exact e2 i i1 c1 i3
    · by_cases c2 : i = (j : Int) + 1
      · subst c2; exact hx
      · exact absurd (j6 i (by omega) i2) i3

theorem sums_off (l : Int) (b : Bool) (m : Int) (pre : List (Int × Int)) (x : Int × Int) (s : Int) (h : Sums l b m pre s) (hx : ¬ x.1 < m) (m1 : 1 ≤ m) (hm : 0 < hd l b m) (k : Nat) (hk : k ≤ 13) (e : pre ++ [x] = ups l b k) : s = ha l b m := by
  obtain ⟨j, j1, j2, rfl, j4, j5, j6⟩ := Heb.ups_snoc l b k hk pre x e
  obtain ⟨e1, e2⟩ := h j (by omega) j2
  have hx' : m ≤ (j : Int) + 1 := by dsimp only at hx; omega
  by_cases c : m ≤ j
  · have := e2 m m1 c (by omega); omega
  · rw [e1, show (j : Int) + 1 = m by omega]

theorem sums_end (l : Int) (b : Bool) (m : Int) (s : Int) (h : Sums l b m (ups l b 13) s) (m1 : 1 ≤ m) (m2 : m ≤ 13) (hm : 0 < hd l b m) : False := by
  have := (h 13 (by omega) rfl).2 m m1 (by omega) (by omega)
  omega

set_option maxRecDepth 100000 in
set_option maxHeartbeats 2000000 in
theorem ahead_any (h f l : Int) (b : Bool) (m : Int) (w : World) (l0 : 0 ≤ l) (hm : 0 < hd l b m) :
    Calls Try.prog 52 #[.agg #[.int .i64 h, .int .i64 f, .int .i64 l, .bool b], .int .i64 m] w fun e w' => e = .returned (.int .i64 (ha l b m)) ∧ Later w w' := by
  obtain ⟨m1, m2⟩ := Heb.hd_month l b m hm
  have M := Lib.hid (fun W => months_any h f l b W)
  refine (callsIn_wide (n := 5)).1 ?_
  refine callsIn_of_wp_marks Try.func52 rfl trivial ?_ rfl
  simp only [Try.ntmps52, List.size_toArray, List.length_cons, List.length_nil, Nat.reduceAdd, Nat.reduceSub, Array.replicate_succ, Array.replicate_zero, List.push_toArray, List.append_toArray, List.nil_append, List.cons_append]
  gi_wp2
  refine wpIn_scope ?_
  gi_wp2
  refine wpIn_label ?_
  gi_wp2_with (refine ⟨trivial, ?_⟩; gi_at_call 65; refine (callsIn_wide.2 (M.out _)).mono ?_; rintro e w1 ⟨rfl, rfl⟩)
  obtain ⟨W0, hW0⟩ : ∃ W0, ((((w.alloc (.cells #[.int .i64 h, .int .i64 f, .int .i64 l, .bool b] 62)).alloc (.cells #[.int .i64 m] 3)).alloc (.cells #[.int .i64 0] 3)).alloc (.cells #[.int .i64 h, .int .i64 f, .int .i64 l, .bool b] 62)) = W0 := ⟨_, rfl⟩
  have hs0 : W0.heap.size = w.heap.size + 4 := by rw [← hW0]; simp
  have hB0 : Below w.heap.size w W0 := by
    rw [← hW0]
    exact ((((Below.refl _ w).alloc (Nat.le_refl _) _).alloc (by simp) _).alloc (by simp; omega) _).alloc (by simp; omega) _
  have hL3 : Later ((((w.alloc (.cells #[.int .i64 h, .int .i64 f, .int .i64 l, .bool b] 62)).alloc (.cells #[.int .i64 m] 3)).alloc (.cells #[.int .i64 0] 3)).alloc (.cells #[.int .i64 h, .int .i64 f, .int .i64 l, .bool b] 62)) W0 := by rw [hW0]; exact Later.refl _
  have hL2 : Later (((w.alloc (.cells #[.int .i64 h, .int .i64 f, .int .i64 l, .bool b] 62)).alloc (.cells #[.int .i64 m] 3)).alloc (.cells #[.int .i64 0] 3)) W0 := gtrans ((Later.refl _).alloc _ _) hL3
  have hL1 : Later ((w.alloc (.cells #[.int .i64 h, .int .i64 f, .int .i64 l, .bool b] 62)).alloc (.cells #[.int .i64 m] 3)) W0 := gtrans ((Later.refl _).alloc _ _) hL2
  have hm0 : W0.cell? ⟨w.heap.size + 1, 0, none⟩ = some (.int .i64 m) := cellN hL1 (by simp) 0 rfl
  have hc0 : W0.cell? ⟨w.heap.size + 1 + 1, 0, none⟩ = some (.int .i64 0) := cellN hL2 (by simp) 0 rfl
  have hf0 : W0.frozen? ⟨w.heap.size + 1 + 1, 0, none⟩ = false := frozN hL2 (by simp) 0
  have hy0 : IsYear (w.heap.size + 1 + 1 + 1) h f l b W0 := ⟨cellN hL3 (by simp) 0 rfl, cellN hL3 (by simp) 1 rfl, cellN hL3 (by simp) 2 rfl, cellN hL3 (by simp) 3 rfl⟩
  rw [hW0]
  refine wpIn_rangeFunc_ownF rfl (by omega) (gf := 77) (lb := #[.pointer (some ⟨w.heap.size + 1 + 1 + 1, 0, none⟩)]) rfl trivial (enters_of Try.func77 (by kernel_rfl) rfl)
    (months_stops _ (by omega) h f l b l0 (w.heap.size + 1 + 1 + 1) W0 (by omega) hy0) (fun x y => Kept.trans x y) (fun W l o o' _ hl ho _ => Kept.book W l o o' hl ho) (Below.refl _ _) (fun _ => rfl)
    (fun pre W => (∃ s : Int, W.cell? ⟨w.heap.size + 1 + 1, 0, none⟩ = some (.int .i64 s) ∧ W.frozen? ⟨w.heap.size + 1 + 1, 0, none⟩ = false ∧ W.cell? ⟨w.heap.size + 1, 0, none⟩ = some (.int .i64 m) ∧ Sums l b m pre s) ∧ Below w.heap.size w W)
    (fun c pre W => (c = .exit 0 ∧ ∃ s : Int, W.cell? ⟨w.heap.size + 1 + 1, 0, none⟩ = some (.int .i64 s) ∧ ∀ k : Nat, k ≤ 13 → pre = ups l b k → s = ha l b m) ∧ Below w.heap.size w W)
    (OwnFrom.and (Own.from (fun s A B row hs hg hr => by obtain ⟨v, x1, x2, x3, x4⟩ := hs; exact ⟨v, cell_kept x1 hg hr, (frozen_kept x1 hg hr).trans x2, cell_kept x3 hg hr, x4⟩) _) (ownFrom_below (Nat.le_refl _) (by omega)))
    (fun c => OwnFrom.and (Own.from (fun s A B row hs hg hr => by obtain ⟨x0, v, x1, x2⟩ := hs; exact ⟨x0, v, cell_kept x1 hg hr, x2⟩) _) (ownFrom_below (Nat.le_refl _) (by omega)))
    ⟨⟨0, hc0, hf0, hm0, sums_start l b m⟩, hB0⟩
    (fun x => { tmps := #[.agg #[.int .i64 h, .int .i64 f, .int .i64 l, .bool b], .int .i64 m, .pointer (some ⟨w.heap.size, 0, none⟩), .pointer (some ⟨w.heap.size + 1, 0, none⟩), .int .i64 0, .pointer (some ⟨w.heap.size + 1 + 1, 0, none⟩), .int .i64 x.1, .int .i64 x.2, .agg #[.int .i64 h, .int .i64 f, .int .i64 l, .bool b], .func (.func 77) #[] #[.pointer (some ⟨w.heap.size + 1 + 1 + 1, 0, none⟩)], .int .i64 x.1, .int .i64 x.2, undef, undef, undef, undef, undef, undef, undef, undef], defers := [] }) ?assign ?body ?done ?stop
  case assign =>
    intro lo x W K hK
    gi_wp2
    exact hK
  case body =>
    rintro lo pre ⟨xa, xb⟩ W ⟨⟨s, hc, hf, hmc, hS⟩, hB⟩ _
    by_cases hx : xa < m
    · have HS := Lib.hid (sums_on l b m pre (xa, xb) s hS hx)
      clear hS
      gi_wp2
      exact ⟨KeepsOthers.setCell _ _ _, (Kept.refl _ W).setCell (by simp) _, ⟨_, World.cell?_setCell_same' _ _ _ (by rw [hc]; rfl), by rw [World.frozen?_setCell]; exact hf, (World.cell?_of_block (w := W) (Below.heap_setCell _ _ _ _ (by simp))).trans hmc, HS.out⟩, hB.setCell (p := ⟨w.heap.size + 1 + 1, 0, none⟩) (by simp; omega) _⟩
    · have HS := Lib.hid (sums_off l b m pre (xa, xb) s hS hx m1 hm)
      clear hS
      gi_wp2
      exact ⟨KeepsOthers.refl _, ⟨rfl, _, hc, HS.out⟩, hB⟩
  case done =>
    rintro D ys W hD rfl ⟨⟨s, hc, hf, hmc, hS⟩, hB⟩ hK
    exact (sums_end l b m s hS m1 m2 hm).elim
  case stop =>
    rintro D c pre W hD ⟨k, hk, hpre⟩ ⟨⟨rfl, s, hc, hS⟩, hB⟩ hK
    obtain rfl := hS k hk hpre
    gi_wp2
    refine ⟨by simp, .inl ⟨_, _, rfl, run_takeDeferred hK, ?_⟩⟩
    exact ⟨_, results_tmp rfl _ _ _, rfl, Later.of_below (hB.trans (belowK_b (w := w) (Nat.le_refl _) W D _ _ (by omega) hK rfl rfl))⟩

end Go.Proofs.Ytdoahnkjkbpdaaa.Hebrew
