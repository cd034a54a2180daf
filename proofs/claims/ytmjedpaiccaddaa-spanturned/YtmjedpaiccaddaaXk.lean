/-
  The question of an instant's weightiest span, as the program makes it, and what it answers.  Conditions: the spans are at most 500.
-/
import Derived.Test.YtmjedpaiccaddaaXj
import Derived.Test.YtmjedpaiccaddaaXc
import Derived.Shelf.SlicesE.Clone
import Derived.Shelf.SlicesQ.Reverse
namespace Go.Proofs.Ytmjedpaiccaddaa.Span
set_option maxRecDepth 100000
open Go.ChangeShapes Go.WideShapes Go.ChangeAt Go.RowKit Go.Sort
open Go.Proofs.Ytmjedpaiccaddaa.Divs Go.Proofs.Ytmjedpaiccaddaa.Grow
open Go.Proofs.Ytmjedpaiccaddaa.Sp
open Go.Proofs.Ytmjedpaiccaddaa.Ss (sl)

/-- A tagged span's cells. -/
def st4 (u : Tg) : List Value := sc u.1
theorem st4_len (u : Tg) : (st4 u).length = 4 := rfl
theorem st4_one (u : Tg) : ∀ v ∈ st4 u, v.oneCell' = true := by
  intro v h
  simp only [st4, sc, List.mem_cons, List.not_mem_nil, or_false] at h
  rcases h with rfl | rfl | rfl | rfl <;> rfl

theorem get_map (d : Array Tg) (i : Nat) (h : i < d.size) : (d.toList.map (·.1))[i]? = some d[i]!.1 := by
  rw [List.getElem?_map, Array.getElem?_toList, getElem!_pos d i h, Array.getElem?_eq_getElem h]
  rfl

theorem holds_own {W : World} {b g n cap : Nat} {xs : List Sp} {d : Array Tg} (h : W.ownsRow b 31 4 (.slice (some ⟨g, 0, none⟩) n cap) n (sf xs)) (hd : d.toList.map (·.1) = xs) : HoldsK st4 4 W g 0 d := by
  intro t ht
  rw [size_flatK] at ht
  rw [get_flatK _ _ _ _ ht, Nat.zero_add]
  have hq : t / 4 < d.size := by omega
  have hr : t % 4 < 4 := by omega
  have hx : xs[t / 4]? = some d[t / 4]!.1 := by rw [← hd]; exact get_map d _ hq
  have e : (sf xs)[t]? = some (st4 d[t / 4]!)[t % 4]! := by
    have := sf_get hx hr
    rw [show t / 4 * 4 + t % 4 = t by omega] at this
    rw [this]
    have hl : t % 4 < (st4 d[t / 4]!).length := hr
    rw [getElem!_pos (st4 d[t / 4]!) (t % 4) hl]
    exact List.getElem?_eq_getElem hl
  have c := World.ownsRow.cells h (g := g) rfl _ _ e
  rw [By.add_zero] at c
  exact ⟨c, h.frozenAt t⟩

theorem ws_holds {W : World} {g cap : Nat} {d : Array Tg} (h : HoldsK st4 4 W g 0 d) (h1 : d.size ≤ cap) (h2 : cap ≤ 9223372036854775807) : Ws W (.slice (some ⟨g, 0, none⟩) d.size cap) (d.toList.map (·.1)) := by
  have hl : (d.toList.map (·.1)).length = d.size := by simp
  refine ⟨_, cap, by rw [hl], by rw [hl]; exact h1, h2, by simp, fun i x hx => ⟨g, 0, rfl, ?_⟩⟩
  have hi : i < (sf (d.toList.map (·.1))).length := (List.getElem?_eq_some_iff.1 hx).1
  rw [sf_len, hl] at hi
  have hq : i / 4 < d.size := by omega
  have hr : i % 4 < 4 := by omega
  have c := (h.cell hq hr).1
  have e := sf_get (get_map d _ hq) hr
  rw [show i / 4 * 4 + i % 4 = i by omega, hx] at e
  have hl4 : i % 4 < (st4 d[i / 4]!).length := hr
  rw [getElem!_pos (st4 d[i / 4]!) (i % 4) hl4] at c
  have e2 : (sc d[i / 4]!.1)[i % 4]? = some ((st4 d[i / 4]!)[i % 4]) := List.getElem?_eq_getElem hl4
  rw [e2] at e
  rw [show (0 : Nat) + i / 4 * 4 + i % 4 = 0 + i by omega] at c
  rw [c, ← e]

theorem later_put {w W : World} (h : Later w W) {g : Nat} (hg : w.heap.size ≤ g) (n : Nat) (d : Array Tg) : Later w (putRowK st4 4 (Sort.ahead W n) g 0 d) := by
  refine ⟨h.1, h.2.1, ?_, fun k hk => ?_⟩
  · rw [size_putRowK]; exact h.2.2.1
  · have hne : g ≠ k := by omega
    have : (putRowK st4 4 (Sort.ahead W n) g 0 d).heap[k]? = W.heap[k]? := by
      show (W.heap.modify g _)[k]? = W.heap[k]?
      rw [Array.getElem?_modify, if_neg hne]
    rw [this]
    exact h.2.2.2 k hk

theorem later_os {w W : World} (h : Later w W) (os : Array Obj) : Later w (grow W os) := by
  refine ⟨h.1, h.2.1, ?_, fun k hk => ?_⟩
  · rw [size_grow]; have := h.2.2.1; omega
  · have hW : k < W.heap.size := Nat.lt_of_lt_of_le hk h.2.2.1
    have : (grow W os).heap[k]? = W.heap[k]? := by
      show (W.heap ++ os)[k]? = _
      rw [Array.getElem?_append_left hW]
    rw [this]
    exact h.2.2.2 k hk

theorem later_sort {w W W' : World} (h : Later w W) {g : Nat} (hg : w.heap.size ≤ g) {d : Array Tg} (hs : SWK st4 4 W g 0 d W') : Later w W' := by
  obtain ⟨n, os, rfl⟩ := hs
  exact later_os (later_put h hg n d) os

theorem cell_sort {W W' : World} {g B : Nat} {d : Array Tg} (hs : SWK st4 4 W g 0 d W') (hB : B ≠ g) {v : Value} (hv : W.cell? ⟨B, 0, none⟩ = some v) : W'.cell? ⟨B, 0, none⟩ = some v := by
  obtain ⟨n, os, rfl⟩ := hs
  have hlt := World.block_lt_of_cell? _ _ hv
  unfold sortWorldK
  rw [cell?_grow _ _ _ (by rw [size_putRowK]; exact hlt), cell?_putRowK_other _ _ _ _ _ _ _ hB]
  exact hv

/-- The row of spans with their places, and its marks. -/
def zi (l : List Sp) : Array Tg := l.zipIdx.toArray

theorem zi_map (l : List Sp) : (zi l).toList.map (·.1) = l := by unfold zi; exact List.zipIdx_map_fst 0 l
theorem zi_size (l : List Sp) : (zi l).size = l.length := by unfold zi; simp
theorem zi_rise (l : List Sp) : ∀ i j, i < j → j < l.length → mk l.length (zi l).reverse[i]! < mk l.length (zi l).reverse[j]! := by
  have go : ∀ i, i < l.length → ((zi l).reverse[i]!).2 = l.length - 1 - i := by
    intro i hi
    have h1 : i < (zi l).reverse.size := by rw [Array.size_reverse, zi_size]; exact hi
    rw [getElem!_pos (zi l).reverse i h1]
    simp [zi]
  intro i j h1 h2
  unfold mk
  rw [go i (by omega), go j h2]
  omega

theorem zi_order {l : List Sp} {d : Array Tg} (hp : PermIn 0 l.length (zi l).reverse d) (hs : SortedIn (sl hv (mk l.length)) 0 l.length d) (x : Int) : fi (d.toList.map (·.1)) x = best l x := by
  have hd : d.size = l.length := by rw [hp.1, Array.size_reverse, zi_size]
  refine order_best l.length l d.toList (Nat.le_refl _) ?_ ?_ x
  · have h := hp.2.2
    have e1 : (d.extract 0 l.length).toList = d.toList := by rw [← hd]; simp
    have e2 : ((zi l).reverse.extract 0 l.length).toList = (zi l).reverse.toList := by
      have : (zi l).reverse.size = l.length := by rw [Array.size_reverse, zi_size]
      generalize (zi l).reverse = Z at this ⊢
      rw [← this]; simp
    rw [e1, e2, Array.toList_reverse] at h
    exact h.trans (List.reverse_perm _)
  · rw [List.pairwise_iff_getElem]
    intro i j hi hj hij
    have hj' : j < d.size := by simpa using hj
    have := hs i j (Nat.zero_le _) hij (by omega)
    rw [getElem!_pos d i (by omega), getElem!_pos d j hj'] at this
    simpa using this

/-- The block p holds a slice of spans the first of which that an instant is in is the weightiest one of l. -/
def Wt (W : World) (p : Nat) (l : List Sp) : Prop := ∃ v o, W.cell? ⟨p, 0, none⟩ = some v ∧ Ws W v o ∧ ∀ x, fi o x = best l x

theorem Wt.later {W W' : World} {p : Nat} {l : List Sp} (h : Wt W p l) (g : Later W W') : Wt W' p l := by
  obtain ⟨v, o, h1, h2, h3⟩ := h
  exact ⟨v, o, gsome g h1, h2.later g, h3⟩

/-- The weightiest one at an instant, and whether there is one. -/
def bv (l : List Sp) (t : Int) : Sp := (best l t).getD z4
def bb (l : List Sp) (t : Int) : Bool := (best l t).isSome

theorem ask_any (l : List Sp) (p : Nat) (t : Int) (w : World) (h : Wt w p l) :
    Calls Try.prog 35 #[.int .i64 t, .pointer (some ⟨p, 0, none⟩)] w fun e w' => e = .returned (.tuple #[.agg (sc (bv l t)).toArray, .bool (bb l t)]) ∧ Later w w' := by
  obtain ⟨v, o, hc, hs, hb⟩ := h
  have K := Lib.hid (fun W (g : Later w W) => at_any v o t W (hs.later g))
  have e1 : av o t = bv l t := by unfold av bv; rw [hb]
  have e2 : ab o t = bb l t := by unfold ab bb; rw [hb]
  rw [e1, e2] at K
  generalize bv l t = S at *
  generalize bb l t = B at *
  clear hs hb e1 e2
  have HR := Lib.hid (RA.new w #[.int .i64 0, .int .i64 0, .int .i64 0, .int .i64 0] 31)
  have HG := Lib.hid ((Later.refl w).alloc #[.int .i64 0, .int .i64 0, .int .i64 0, .int .i64 0] 31)
  have hc1 := gsome HG.out hc
  unfold sc at *
  clear hc
  go_enter Try.func35, Try.ntmps35
  go_wp2_with fail
  refine (K.out _ HG.out).mono ?_
  rintro e w1 ⟨rfl, hg1⟩
  have HG1 := Lib.hid (gtrans HG.out hg1)
  have HR1 := Lib.hid (HR.out.later hg1)
  have r0 := HR1.out.cell 0 _ rfl
  have r1 := HR1.out.cell 1 _ rfl
  have r2 := HR1.out.cell 2 _ rfl
  have r3 := HR1.out.cell 3 _ rfl
  have f0 := HR1.out.froz 0
  have f1 := HR1.out.froz 1
  have f2 := HR1.out.froz 2
  have f3 := HR1.out.froz 3
  clear hg1 hc1
  go_wp2_with fail
  refine bodyPost_ret (results_rt (P := Try.prog) (fn := Try.f35) Try.results35 _ _ w.heap.size 31 _ _ _ rfl rfl (HR1.out.set4 _ _ _ _) Try.underlying31 rfl (by kernel_rfl)) rfl ?_
  exact ⟨rfl, later_set4 HG1.out (Nat.le_refl _) _ _ _ _⟩

end Go.Proofs.Ytmjedpaiccaddaa.Span
