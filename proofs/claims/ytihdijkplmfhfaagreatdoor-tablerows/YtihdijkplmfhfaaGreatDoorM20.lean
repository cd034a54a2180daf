/-
  Texts of mine, merged: each part says what it holds. Conditions: as each theorem states.
-/
import Derived.Shelf.SlicesG.Cmp
import Derived.StillTailTactics
import Derived.Shelf.SlicesE.Clone
import Derived.Shelf.SlicesQ.Reverse
import Derived.Laws.EntriesVeiled
import Derived.Test.YtihdijkplmfhfaaGreatDoorM19

/- What the program's order of spans answers for two of them; that this program holds the texts of the library's sorting. Conditions: as each theorem states. -/
namespace Go.Proofs.YtihdijkplmfhfaaGreatDoor.Span
set_option maxRecDepth 100000
set_option maxRecDepth 100000
open Go.ChangeShapes Go.WideShapes Go.ChangeAt Go.RowKit Go.Sort
open Go.Proofs.YtihdijkplmfhfaaGreatDoor.Divs Go.Proofs.YtihdijkplmfhfaaGreatDoor.Grow
open Go.Proofs.YtihdijkplmfhfaaGreatDoor.Sp

theorem has : Ss.Has Tryz.prog 4 where
  mixed := by kernel_rfl
  swapR := Tryz.func178
  rot := Tryz.func170
  sym := Tryz.func153
  sta := Tryz.func139
  srt := Tryz.func117
  ins := enters_of Tryz.func152 (by kernel_rfl) rfl
  eswapR := enters_of Tryz.func178 (by kernel_rfl) rfl
  erot := enters_of Tryz.func170 (by kernel_rfl) rfl
  esym := enters_of Tryz.func153 (by kernel_rfl) rfl
  esta := enters_of Tryz.func139 (by kernel_rfl) rfl
  t0 := Tryz.underlying0
  a0 := Tryz.isAgg0
  z0 := Tryz.sizeOf0
  t3 := Tryz.underlying3
  a3 := Tryz.isAgg3
  z3 := Tryz.sizeOf3
  v3 := Tryz.zeroValue3
  t4 := Tryz.underlying4
  a4 := Tryz.isAgg4
  z4 := Tryz.sizeOf4
  v4 := Tryz.zeroValue4
  t22 := Tryz.underlying36
  a22 := Tryz.isAgg36
  z22 := Tryz.sizeOf36
  v22 := Tryz.zeroValue36
  t68 := Tryz.underlying126
  a68 := Tryz.isAgg126
  z68 := Tryz.sizeOf126
  v68 := Tryz.zeroValue126
  a57 := Tryz.isAgg141
  z57 := Tryz.sizeOf141
  v57 := Tryz.zeroValue141
  aE := Tryz.isAgg56
  zE := Tryz.sizeOf56

/-- The first of two that is not 0. -/
def or2 (a b : Int) : Int := if a = 0 then b else a

theorem or_any (g : Nat) (a b : Int) (W : World) (ca : W.cell? ⟨g, 0, none⟩ = some (.int .i64 a)) (cb : W.cell? ⟨g, 1, none⟩ = some (.int .i64 b)) :
    Calls Tryz.prog 119 #[.slice (some ⟨g, 0, none⟩) 2 2] W fun e w' => e = .returned (.int .i64 (or2 a b)) ∧ w' = W := by
  obtain ⟨O, hO⟩ : ∃ O, O = or2 a b := ⟨_, rfl⟩
  rw [← hO]
  by_cases t1 : a = 0
  · have t1d : (a != 0) = false := by simp [t1]
    have HV : Hid (O = b) := Lib.hid (by rw [hO]; unfold or2; rw [if_pos t1])
    clear hO t1
    by_cases t2 : b = 0
    · have t2d : (b != 0) = false := by simp [t2]
      have HZ : Hid (b = 0) := Lib.hid t2
      clear t2
      go_enter Tryz.func119, Tryz.ntmps119
      go_wp2
      refine wp_loop_rounds 3 ?_
      rw [rounds_succ]
      go_wp2
      rw [rounds_succ]
      go_wp2
      rw [rounds_succ]
      go_wp2
      go_ret
      refine ⟨?_, rfl⟩
      rw [HV.out, HZ.out]
      rfl
    · have t2d : (b != 0) = true := by simpa using t2
      clear t2
      go_enter Tryz.func119, Tryz.ntmps119
      go_wp2
      refine wp_loop_rounds 3 ?_
      rw [rounds_succ]
      go_wp2
      rw [rounds_succ]
      go_wp2
      go_ret
      refine ⟨?_, rfl⟩
      rw [HV.out]
      rfl
  · have t1d : (a != 0) = true := by simpa using t1
    have HV : Hid (O = a) := Lib.hid (by rw [hO]; unfold or2; rw [if_neg t1])
    clear hO t1
    go_enter Tryz.func119, Tryz.ntmps119
    go_wp2
    refine wp_loop_rounds 3 ?_
    rw [rounds_succ]
    go_wp2
    go_ret
    refine ⟨?_, rfl⟩
    rw [HV.out]
    rfl

/-- The program's order. -/
def co (u v : Tg) : Int := or2 (Lib.compareInt v.1.p u.1.p) (Lib.compareInt v.1.f u.1.f)

theorem lt_co : ltOf co = hv := by
  funext u v
  unfold ltOf
  rw [Bool.eq_iff_iff, hv_iff, decide_eq_true_iff]
  unfold co or2 Lib.compareInt
  repeat' split
  all_goals omega

theorem closure_any (x y : Sp) (W : World) : Calls Tryz.prog 118 #[.agg (sc x).toArray, .agg (sc y).toArray] W fun e w' =>
    e = .returned (.int .i64 (or2 (Lib.compareInt y.p x.p) (Lib.compareInt y.f x.f))) ∧ ∃ q os', w' = grow (W.drewN q) os' := by
  have hcon := fun a b W' => AnyG.cmp_Compare_int Ly.LM a b W'
  change ∀ a b W', Calls Tryz.prog 120 _ _ _ at hcon
  have HC := Lib.hid hcon
  clear hcon
  unfold sc
  go_enter Tryz.func118, Tryz.ntmps118
  go_wp2_with fail
  obtain ⟨W2, hW2⟩ : ∃ W2, (W.alloc (.cells #[.int .i64 x.f, .int .i64 x.t, .int .i64 x.m, .int .i64 x.p] 56)).alloc (.cells #[.int .i64 y.f, .int .i64 y.t, .int .i64 y.m, .int .i64 y.p] 56) = W2 := ⟨_, rfl⟩
  have HW2 : Hid (W2 = grow W #[.cells #[.int .i64 x.f, .int .i64 x.t, .int .i64 x.m, .int .i64 x.p] 56, .cells #[.int .i64 y.f, .int .i64 y.t, .int .i64 y.m, .int .i64 y.p] 56]) := Lib.hid (by rw [← hW2, alloc_eq_grow, alloc_eq_grow, grow_grow]; rfl)
  have RX : RA W2 W.heap.size #[.int .i64 x.f, .int .i64 x.t, .int .i64 x.m, .int .i64 x.p] 56 := by rw [← hW2]; exact (RA.new W _ _).later ((Later.refl _).put _)
  have RY : RA W2 (W.heap.size + 1) #[.int .i64 y.f, .int .i64 y.t, .int .i64 y.m, .int .i64 y.p] 56 := by rw [← hW2]; have := RA.new (W.alloc (.cells #[.int .i64 x.f, .int .i64 x.t, .int .i64 x.m, .int .i64 x.p] 56)) #[.int .i64 y.f, .int .i64 y.t, .int .i64 y.m, .int .i64 y.p] 56; simpa using this
  rw [hW2]
  clear hW2
  obtain ⟨W3, hW3⟩ : ∃ W3 : World, { W2 with drawn := W2.drawn + 1 } = W3 := ⟨_, rfl⟩
  have HW3 : Hid (W3 = (W2.drewN 1)) := Lib.hid hW3.symm
  have c0 : W3.cell? ⟨W.heap.size, 0, none⟩ = some (.int .i64 x.f) := by rw [← hW3]; exact RX.cell 0 _ rfl
  have c3 : W3.cell? ⟨W.heap.size, 3, none⟩ = some (.int .i64 x.p) := by rw [← hW3]; exact RX.cell 3 _ rfl
  have e0 : W3.cell? ⟨W.heap.size + 1, 0, none⟩ = some (.int .i64 y.f) := by rw [← hW3]; exact RY.cell 0 _ rfl
  have e3 : W3.cell? ⟨W.heap.size + 1, 3, none⟩ = some (.int .i64 y.p) := by rw [← hW3]; exact RY.cell 3 _ rfl
  clear RX RY
  have hm : Tryz.prog.follows .mixedOrders = true := by kernel_rfl
  refine wp_region_still_tail 10 hm (by kernel_rfl) ?_
  rw [hW3]
  simp only [List.take_succ_cons, List.take_zero, List.drop_succ_cons, List.drop_zero]
  iterate 4 still_step
  still_call (HC.out _ _ _)
  iterate 4 still_step
  still_call (HC.out _ _ _)
  refine wpStill_nil ?_
  generalize hA : Lib.compareInt y.p x.p = A
  generalize hB : Lib.compareInt y.f x.f = B
  have HA := Lib.hid hA
  have HB := Lib.hid hB
  clear hA hB
  have K := Lib.hid (or_any W3.heap.size A B (W3.alloc (.cells #[.int .i64 A, .int .i64 B] 3)) (by rw [World.cell?_alloc_new]; rfl) (by rw [World.cell?_alloc_new]; rfl))
  have HE : Hid (∃ q os', W3.alloc (.cells #[.int .i64 A, .int .i64 B] 3) = grow (W.drewN q) os') := Lib.hid ⟨1, #[.cells #[.int .i64 x.f, .int .i64 x.t, .int .i64 x.m, .int .i64 x.p] 56, .cells #[.int .i64 y.f, .int .i64 y.t, .int .i64 y.m, .int .i64 y.p] 56] ++ #[.cells #[.int .i64 A, .int .i64 B] 3], by
    rw [HW3.out, HW2.out, alloc_eq_grow]
    exact grow_grow (W.drewN 1) _ _⟩
  go_wp2_with (go_at_call 119; refine K.out.mono ?_; rintro e w' ⟨rfl, rfl⟩)
  go_ret
  refine ⟨?_, HE.out⟩
  rw [HA.out, HB.out]
  rfl

theorem co_lays (blk off size : Nat) (w : World) : CmpLays Tryz.prog 118 #[] (fun u : Tg => sc u.1) 4 co blk off size w :=
  fun _ _ _ _ x y => closure_any x.1 y.1 _

end Go.Proofs.YtihdijkplmfhfaaGreatDoor.Span

/- The question of an instant's weightiest span, as the program makes it, and what it answers. Conditions: the spans are at most 500. -/
namespace Go.Proofs.YtihdijkplmfhfaaGreatDoor.Span
set_option maxRecDepth 100000
open Go.ChangeShapes Go.WideShapes Go.ChangeAt Go.RowKit Go.Sort
open Go.Proofs.YtihdijkplmfhfaaGreatDoor.Divs Go.Proofs.YtihdijkplmfhfaaGreatDoor.Grow
open Go.Proofs.YtihdijkplmfhfaaGreatDoor.Sp
open Go.Proofs.YtihdijkplmfhfaaGreatDoor.Ss (sl)

/-- A tagged span's cells. -/
def st4 (u : Tg) : List Value := sc u.1
theorem st4_len (u : Tg) : (st4 u).length = 4 := rfl
theorem st4_one (u : Tg) : ∀ v ∈ st4 u, v.oneCell' = true := by
  intro v h
  simp only [st4, sc, List.mem_cons, List.not_mem_nil, or_false] at h
  rcases h with rfl | rfl | rfl | rfl <;> rfl

theorem get_map (d : Array Tg) (i : Nat) (h : i < d.size) : (d.toList.map (·.1))[i]? = some d[i]!.1 := by
  rw [List.getElem?_map, Array.getElem?_toList, getElem!_pos d i h, Array.getElem?_eq_getElem h]
  rfl

theorem holds_own {W : World} {b g n cap : Nat} {xs : List Sp} {d : Array Tg} (h : W.ownsRow b 56 4 (.slice (some ⟨g, 0, none⟩) n cap) n (sf xs)) (hd : d.toList.map (·.1) = xs) : HoldsK st4 4 W g 0 d := by
  intro t ht
  rw [size_flatK] at ht
  rw [get_flatK _ _ _ _ ht, Nat.zero_add]
  have hq : t / 4 < d.size := by omega
  have hr : t % 4 < 4 := by omega
  have hx : xs[t / 4]? = some d[t / 4]!.1 := by rw [← hd]; exact get_map d _ hq
  have e : (sf xs)[t]? = some (st4 d[t / 4]!)[t % 4]! := by
    have := sf_get hx hr
    rw [show t / 4 * 4 + t % 4 = t by omega] at this
    rw [this]
    have hl : t % 4 < (st4 d[t / 4]!).length := hr
    rw [getElem!_pos (st4 d[t / 4]!) (t % 4) hl]
    exact List.getElem?_eq_getElem hl
  have c := World.ownsRow.cells h (g := g) rfl _ _ e
  rw [By.add_zero] at c
  exact ⟨c, h.frozenAt t⟩

theorem ws_holds {W : World} {g cap : Nat} {d : Array Tg} (h : HoldsK st4 4 W g 0 d) (h1 : d.size ≤ cap) (h2 : cap ≤ 9223372036854775807) : Ws W (.slice (some ⟨g, 0, none⟩) d.size cap) (d.toList.map (·.1)) := by
  have hl : (d.toList.map (·.1)).length = d.size := by simp
  refine ⟨_, cap, by rw [hl], by rw [hl]; exact h1, h2, by simp, fun i x hx => ⟨g, 0, rfl, ?_⟩⟩
  have hi : i < (sf (d.toList.map (·.1))).length := (List.getElem?_eq_some_iff.1 hx).1
  rw [sf_len, hl] at hi
  have hq : i / 4 < d.size := by omega
  have hr : i % 4 < 4 := by omega
  have c := (h.cell hq hr).1
  have e := sf_get (get_map d _ hq) hr
  rw [show i / 4 * 4 + i % 4 = i by omega, hx] at e
  have hl4 : i % 4 < (st4 d[i / 4]!).length := hr
  rw [getElem!_pos (st4 d[i / 4]!) (i % 4) hl4] at c
  have e2 : (sc d[i / 4]!.1)[i % 4]? = some ((st4 d[i / 4]!)[i % 4]) := List.getElem?_eq_getElem hl4
  rw [e2] at e
  rw [show (0 : Nat) + i / 4 * 4 + i % 4 = 0 + i by omega] at c
  rw [c, ← e]

theorem later_put {w W : World} (h : Later w W) {g : Nat} (hg : w.heap.size ≤ g) (n : Nat) (d : Array Tg) : Later w (putRowK st4 4 (Sort.ahead W n) g 0 d) := by
  refine ⟨h.1, h.2.1, ?_, fun k hk => ?_⟩
  · rw [size_putRowK]; exact h.2.2.1
  · have hne : g ≠ k := by omega
    have : (putRowK st4 4 (Sort.ahead W n) g 0 d).heap[k]? = W.heap[k]? := by
      show (W.heap.modify g _)[k]? = W.heap[k]?
      rw [Array.getElem?_modify, if_neg hne]
    rw [this]
    exact h.2.2.2 k hk

theorem later_os {w W : World} (h : Later w W) (os : Array Obj) : Later w (grow W os) := by
  refine ⟨h.1, h.2.1, ?_, fun k hk => ?_⟩
  · rw [size_grow]; have := h.2.2.1; omega
  · have hW : k < W.heap.size := Nat.lt_of_lt_of_le hk h.2.2.1
    have : (grow W os).heap[k]? = W.heap[k]? := by
      show (W.heap ++ os)[k]? = _
      rw [Array.getElem?_append_left hW]
    rw [this]
    exact h.2.2.2 k hk

theorem later_sort {w W W' : World} (h : Later w W) {g : Nat} (hg : w.heap.size ≤ g) {d : Array Tg} (hs : SWK st4 4 W g 0 d W') : Later w W' := by
  obtain ⟨n, os, rfl⟩ := hs
  exact later_os (later_put h hg n d) os

theorem cell_sort {W W' : World} {g B : Nat} {d : Array Tg} (hs : SWK st4 4 W g 0 d W') (hB : B ≠ g) {v : Value} (hv : W.cell? ⟨B, 0, none⟩ = some v) : W'.cell? ⟨B, 0, none⟩ = some v := by
  obtain ⟨n, os, rfl⟩ := hs
  have hlt := World.block_lt_of_cell? _ _ hv
  unfold sortWorldK
  rw [cell?_grow _ _ _ (by rw [size_putRowK]; exact hlt), cell?_putRowK_other _ _ _ _ _ _ _ hB]
  exact hv

/-- The row of spans with their places, and its marks. -/
def zi (l : List Sp) : Array Tg := l.zipIdx.toArray

theorem zi_map (l : List Sp) : (zi l).toList.map (·.1) = l := by unfold zi; exact List.zipIdx_map_fst 0 l
theorem zi_size (l : List Sp) : (zi l).size = l.length := by unfold zi; simp
theorem zi_rise (l : List Sp) : ∀ i j, i < j → j < l.length → mk l.length (zi l).reverse[i]! < mk l.length (zi l).reverse[j]! := by
  have go : ∀ i, i < l.length → ((zi l).reverse[i]!).2 = l.length - 1 - i := by
    intro i hi
    have h1 : i < (zi l).reverse.size := by rw [Array.size_reverse, zi_size]; exact hi
    rw [getElem!_pos (zi l).reverse i h1]
    simp [zi]
  intro i j h1 h2
  unfold mk
  rw [go i (by omega), go j h2]
  omega

theorem zi_order {l : List Sp} {d : Array Tg} (hp : PermIn 0 l.length (zi l).reverse d) (hs : SortedIn (sl hv (mk l.length)) 0 l.length d) (x : Int) : fi (d.toList.map (·.1)) x = best l x := by
  have hd : d.size = l.length := by rw [hp.1, Array.size_reverse, zi_size]
  refine order_best l.length l d.toList (Nat.le_refl _) ?_ ?_ x
  · have h := hp.2.2
    have e1 : (d.extract 0 l.length).toList = d.toList := by rw [← hd]; simp
    have e2 : ((zi l).reverse.extract 0 l.length).toList = (zi l).reverse.toList := by
      have : (zi l).reverse.size = l.length := by rw [Array.size_reverse, zi_size]
      generalize (zi l).reverse = Z at this ⊢
      rw [← this]; simp
    rw [e1, e2, Array.toList_reverse] at h
    exact h.trans (List.reverse_perm _)
  · rw [List.pairwise_iff_getElem]
    intro i j hi hj hij
    have hj' : j < d.size := by simpa using hj
    have := hs i j (Nat.zero_le _) hij (by omega)
    rw [getElem!_pos d i (by omega), getElem!_pos d j hj'] at this
    simpa using this

/-- The block p holds a slice of spans the first of which that an instant is in is the weightiest one of l. -/
def Wt (W : World) (p : Nat) (l : List Sp) : Prop := ∃ v o, W.cell? ⟨p, 0, none⟩ = some v ∧ Ws W v o ∧ ∀ x, fi o x = best l x

theorem Wt.later {W W' : World} {p : Nat} {l : List Sp} (h : Wt W p l) (g : Later W W') : Wt W' p l := by
  obtain ⟨v, o, h1, h2, h3⟩ := h
  exact ⟨v, o, gsome g h1, h2.later g, h3⟩

/-- The weightiest one at an instant, and whether there is one. -/
def bv (l : List Sp) (t : Int) : Sp := (best l t).getD z4
def bb (l : List Sp) (t : Int) : Bool := (best l t).isSome

theorem ask_any (l : List Sp) (p : Nat) (t : Int) (w : World) (h : Wt w p l) :
    Calls Tryz.prog 121 #[.int .i64 t, .pointer (some ⟨p, 0, none⟩)] w fun e w' => e = .returned (.tuple #[.agg (sc (bv l t)).toArray, .bool (bb l t)]) ∧ Later w w' := by
  obtain ⟨v, o, hc, hs, hb⟩ := h
  have K := Lib.hid (fun W (g : Later w W) => at_any v o t W (hs.later g))
  have e1 : av o t = bv l t := by unfold av bv; rw [hb]
  have e2 : ab o t = bb l t := by unfold ab bb; rw [hb]
  rw [e1, e2] at K
  generalize bv l t = S at *
  generalize bb l t = B at *
  clear hs hb e1 e2
  have HR := Lib.hid (RA.new w #[.int .i64 0, .int .i64 0, .int .i64 0, .int .i64 0] 56)
  have HG := Lib.hid ((Later.refl w).alloc #[.int .i64 0, .int .i64 0, .int .i64 0, .int .i64 0] 56)
  have hc1 := gsome HG.out hc
  unfold sc at *
  clear hc
  go_enter Tryz.func121, Tryz.ntmps121
  go_wp2_with fail
  refine (K.out _ HG.out).mono ?_
  rintro e w1 ⟨rfl, hg1⟩
  have HG1 := Lib.hid (gtrans HG.out hg1)
  have HR1 := Lib.hid (HR.out.later hg1)
  have r0 := HR1.out.cell 0 _ rfl
  have r1 := HR1.out.cell 1 _ rfl
  have r2 := HR1.out.cell 2 _ rfl
  have r3 := HR1.out.cell 3 _ rfl
  have f0 := HR1.out.froz 0
  have f1 := HR1.out.froz 1
  have f2 := HR1.out.froz 2
  have f3 := HR1.out.froz 3
  clear hg1 hc1
  go_wp2_with fail
  refine bodyPost_ret (results_rt (P := Tryz.prog) (fn := Tryz.f121) Tryz.results121 _ _ w.heap.size 56 _ _ _ rfl rfl (HR1.out.set4 _ _ _ _) Tryz.underlying56 rfl (by kernel_rfl)) rfl ?_
  exact ⟨rfl, later_set4 HG1.out (Nat.le_refl _) _ _ _ _⟩

end Go.Proofs.YtihdijkplmfhfaaGreatDoor.Span

/- How the program makes the question of an instant's weightiest span. Conditions: the spans are at most 500. -/
namespace Go.Proofs.YtihdijkplmfhfaaGreatDoor.Span
set_option maxRecDepth 100000
open Go.ChangeShapes Go.WideShapes Go.ChangeAt Go.RowKit Go.Sort
open Go.Proofs.YtihdijkplmfhfaaGreatDoor.Divs Go.Proofs.YtihdijkplmfhfaaGreatDoor.Grow
open Go.Proofs.YtihdijkplmfhfaaGreatDoor.Sp
open Go.Proofs.YtihdijkplmfhfaaGreatDoor.Ss (sl)

theorem clone_any (v : Value) (l : List Sp) (w : World) (h : Ws w v l) (hl : l.length ≤ 5000) :
    Calls Tryz.prog 115 #[v] w fun e w' => ∃ v', e = .returned v' ∧ WL w' w.heap.size v' l ∧ Later w w' := by
  rcases h.src with ⟨rfl, rfl⟩ | ⟨a, cap, rfl, hc⟩
  · refine (AnyE.slices_Clone_nil Ly.LC 0 0 w).mono ?_
    rintro e w' ⟨rfl, rfl⟩
    exact ⟨_, rfl, WL.nil _ _, Later.refl _⟩
  · have q22 : ∀ (W : World) (n c n' c' : Nat), (binOp .eql 36 (.slice (some a) n c) (.slice none n' c')).run Tryz.prog W = .ok (.bool false) W := fun W n c n' c' => Lib.run_eql_slice_nil W _ _ (some a) n c n' c' Tryz.underlying36
    have HS := Lib.hid (h.later ((Later.refl w).alloc #[] 56))
    clear h hc
    go_enter Tryz.func115, Tryz.ntmps115
    go_wp2_with (refine append_spans rfl (.tmp 5) (.tmp 6) rfl w ((Later.refl w).alloc _ _) _ [] rfl (WL.made w w (Later.refl w)) _ l rfl HS.out (by simp only [List.length_nil]; omega) ?_; intro v' w1 hw hl _; have HW := Lib.hid hw; have HL := Lib.hid hl; clear hw hl)
    go_ret
    exact ⟨_, rfl, by simpa using HW.out, HL.out⟩

theorem reverse_none (ad : Option Addr) (cap : Nat) (w : World) : Calls Tryz.prog 116 #[.slice ad 0 cap] w fun e w' => e = .returned (.tuple #[]) ∧ w' = w :=
  AnyQ.slices_Reverse_empty Ly.LR ad cap w

theorem ins_none (ad : Option Addr) (cap g : Nat) (w : World) : Calls Tryz.prog 152 #[.slice ad 0 cap, .int .i64 0, .int .i64 0, .func (.func g) #[] #[]] w fun e w' => e = .returned (.tuple #[]) ∧ w' = w := by
  go_enter Tryz.func152, Tryz.ntmps152
  go_wp2
  refine wp_loop_rounds 1 ?_
  rw [rounds_succ]
  go_wp2
  go_end0
  exact ⟨rfl, rfl⟩

theorem stable_none (ad : Option Addr) (cap g : Nat) (w : World) : Calls Tryz.prog 139 #[.slice ad 0 cap, .int .i64 0, .func (.func g) #[] #[]] w fun e w' => e = .returned (.tuple #[]) ∧ w' = w := by
  have K := Lib.hid (ins_none ad cap g w)
  go_enter Tryz.func139, Tryz.ntmps139
  go_wp2_with fail
  refine wp_loop_rounds 1 ?_
  rw [rounds_succ]
  go_wp2_with fail
  refine K.out.mono ?_
  rintro e w' ⟨rfl, rfl⟩
  go_wp2_with fail
  refine wp_loop_rounds 1 ?_
  rw [rounds_succ]
  go_wp2_with fail
  go_end0
  exact ⟨rfl, rfl⟩

theorem sorts_none (ad : Option Addr) (cap g : Nat) (w : World) : Calls Tryz.prog 117 #[.slice ad 0 cap, .func (.func g) #[] #[]] w fun e w' => e = .returned (.tuple #[]) ∧ w' = w := by
  have K := Lib.hid (stable_none ad cap g w)
  go_enter Tryz.func117, Tryz.ntmps117
  go_wp2_with fail
  refine K.out.mono ?_
  rintro e w' ⟨rfl, rfl⟩
  go_wp2_with fail
  go_end0
  exact ⟨rfl, rfl⟩

/-- e hands back the question of the weightiest one of l. -/
def IsAsk (l : List Sp) (w' : World) (e : Ending) : Prop := ∃ p, e = .returned (.func (.func 121) #[] #[.pointer (some ⟨p, 0, none⟩)]) ∧ Wt w' p l

set_option maxHeartbeats 2000000 in
theorem weigh_any (v : Value) (l : List Sp) (w : World) (h : Ws w v l) (hl : l.length ≤ 500) :
    Calls Tryz.prog 92 #[v] w fun e w' => IsAsk l w' e ∧ Later w w' := by
  have C := Lib.hid (clone_any v l w h (by omega))
  rcases Nat.eq_zero_or_pos l.length with h0 | h0
  · have R := Lib.hid (fun ad cap W => reverse_none ad cap W)
    have S := Lib.hid (fun ad cap W => sorts_none ad cap 118 W)
    have e := List.length_eq_zero_iff.1 h0
    subst e
    clear h hl h0
    go_enter Tryz.func92, Tryz.ntmps92
    go_wp2_with fail
    refine C.out.mono ?_
    rintro e w1 ⟨v1, rfl, hw, hg⟩
    obtain ⟨ad, cap, rfl, _, _⟩ := hw.ws.bare
    have HG := Lib.hid (hg.put (.cells #[.slice ad 0 cap] 36))
    have HT : Hid (Wt (w1.alloc (.cells #[.slice ad 0 cap] 36)) w1.heap.size []) := Lib.hid ⟨_, [], (RA.new w1 _ _).cell 0 _ rfl, hw.ws.later ((Later.refl w1).put _), fun x => rfl⟩
    clear hw hg
    go_wp2_with fail
    refine (R.out _ _ _).mono ?_
    rintro e w2 ⟨rfl, rfl⟩
    go_wp2_with fail
    refine (S.out _ _ _).mono ?_
    rintro e w3 ⟨rfl, rfl⟩
    go_wp2_with fail
    go_ret
    exact ⟨⟨_, rfl, HT.out⟩, HG.out⟩
  · go_enter Tryz.func92, Tryz.ntmps92
    go_wp2_with fail
    refine C.out.mono ?_
    rintro e w1 ⟨v1, rfl, hw, hg⟩
    rcases hw.2 with ⟨_, h0'⟩ | ⟨g, cap, cur, rfl, hg0, hgh, hg2, hg3, _⟩
    · omega
    have hcap : cap ≤ 9223372036854775807 := by simpa [maxLen] using hg3
    have hlt := (Array.getElem?_eq_some_iff.1 hgh).1
    obtain ⟨wa, hwa⟩ : ∃ wa, w1.alloc (.cells #[.slice (some ⟨g, 0, none⟩) l.length cap] 36) = wa := ⟨_, rfl⟩
    have hka : wa.cell? ⟨w1.heap.size, 0, none⟩ = some (.slice (some ⟨g, 0, none⟩) l.length cap) := by rw [← hwa]; exact (RA.new w1 _ _).cell 0 _ rfl
    have hla : Later w1 wa := by rw [← hwa]; exact (Later.refl w1).put _
    have hown : wa.ownsRow w.heap.size 56 4 (.slice (some ⟨g, 0, none⟩) l.length cap) l.length (sf l) := hw.later hla
    have hH : HoldsK st4 4 wa g 0 (zi l) := holds_own hown (zi_map l)
    have hzs := zi_size l
    have hblk : g < wa.heap.size := Nat.lt_of_lt_of_le hlt hla.size
    have K2 := AnyQ.slices_Reverse Ly.LR 4 Tryz.isAgg56 Tryz.sizeOf56 st4 st4_len st4_one g 0 cap (zi l) wa hH (by omega)
    rw [hzs] at K2
    change Calls Tryz.prog 116 _ _ _ at K2
    have HK2 := Lib.hid K2
    have HL := Lib.hid (gtrans hg hla)
    have HG0 : Hid (w.heap.size ≤ g) := Lib.hid hg0
    have HH := Lib.hid hH
    have HB := Lib.hid hblk
    have HZ := Lib.hid hzs
    have HC := Lib.hid hcap
    have HN : Hid (w1.heap.size ≠ g) := Lib.hid (by omega)
    have HP := Lib.hid hl
    have HCAP := Lib.hid hg2
    clear K2 hw hg hg0 hgh hg3 hH hzs hblk hlt hown hla h C hcap
    go_wp2_with fail
    clear hwa
    refine HK2.out.mono ?_
    rintro e w2 ⟨rfl, m, hw2⟩
    have hS : SWK st4 4 wa g 0 (zi l).reverse w2 := ⟨m, #[], by rw [hw2]; unfold sortWorldK; rw [grow_empty]⟩
    have hz2 : (zi l).reverse.size = l.length := by rw [Array.size_reverse]; exact HZ.out
    have hH2 : HoldsK st4 4 w2 g 0 (zi l).reverse := hS.holds HB.out HH.out (by rw [Array.size_reverse])
    have hk2 := cell_sort hS HN.out hka
    have hb2 : g < w2.heap.size := hS.lt HB.out
    have HL2 := Lib.hid (later_sort HL.out HG0.out hS)
    have K3 := Ss.sorts_any (P := Tryz.prog) has (⟨st4_len, st4_one, hH2, hb2⟩ : RowK st4 4 w2 g 0 (zi l).reverse) co (by rw [lt_co]; exact swo_hv) (mk l.length) 118 #[] (enters_of Tryz.func118 (by kernel_rfl) rfl) (co_lays g 0 _ w2)
      (Ss.ins_any Ly.LI Tryz.isAgg56 Tryz.sizeOf56 (⟨st4_len, st4_one, hH2, hb2⟩ : RowK st4 4 w2 g 0 (zi l).reverse) co 118 #[] (enters_of Tryz.func118 (by kernel_rfl) rfl) (co_lays g 0 _ w2))
      cap l.length w2 (SWK.start hH2) hz2.symm (by have := HP.out; omega) (zi_rise l)
    have HK3 := Lib.hid K3
    have HH2 := Lib.hid hH2
    have HB2 := Lib.hid hb2
    have HZ2 := Lib.hid hz2
    clear K3 hS hz2 hH2 hb2 hw2 hka
    go_wp2_with fail
    refine HK3.out.mono ?_
    rintro e w3 ⟨rfl, d', hS, hp, hs⟩
    have hd' : d'.size = l.length := hp.1.trans HZ2.out
    have HL3 := Lib.hid (later_sort HL2.out HG0.out hS)
    have hk3 := cell_sort hS HN.out hk2
    have hH3 : HoldsK st4 4 w3 g 0 d' := hS.holds HB2.out HH2.out (by rw [hd', HZ2.out])
    rw [lt_co] at hs
    have HT : Hid (Wt w3 w1.heap.size l) := Lib.hid ⟨_, d'.toList.map (·.1), hk3, by rw [← hd']; exact ws_holds hH3 (by rw [hd']; exact HCAP.out) HC.out, zi_order hp hs⟩
    clear hS hp hs hd' hk3 hk2 hH3
    go_wp2_with fail
    go_ret
    exact ⟨⟨_, rfl, HT.out⟩, HL3.out⟩

end Go.Proofs.YtihdijkplmfhfaaGreatDoor.Span

/- What the program's Resolve answers. Conditions: the spans lie in a slice. -/
namespace Go.Proofs.YtihdijkplmfhfaaGreatDoor.Span
set_option maxRecDepth 100000
open Go.ChangeShapes Go.WideShapes Go.ChangeAt Go.RowKit Go.Shelf
open Go.Proofs.YtihdijkplmfhfaaGreatDoor.Divs Go.Proofs.YtihdijkplmfhfaaGreatDoor.Grow
open Go.Proofs.YtihdijkplmfhfaaGreatDoor.By (Sk SL)
open Go.Proofs.YtihdijkplmfhfaaGreatDoor.Sp

attribute [local go_sem] Oper.semAt_some

theorem cell4 {w w1 : World} {c : Array Value} {t : TypeId} (hg : Later (w.alloc (.cells c t)) w1) (i : Nat) {v : Value} (hc : c[i]? = some v) : w1.cell? ⟨w.heap.size, i, none⟩ = some v :=
  gsome hg (by rw [World.cell?_alloc_new]; exact hc)

/-- A range over a function, begun: the loop and the rounds' deferred calls laid, the function called with the loop for its yield. -/
theorem range_start {P : Program} {n : Nat} {g : Operand} {ps : Array Tmp} {assign body : Code} {Q : Exit → Act → World → Prop} {a : Act} {w : World} {gf : Nat} {lb : Array Value}
    (hg : a.eval g = .func (.func gf) #[] lb) (eg : ∀ args w, (callFunc gf args).run P w = .ok (.enter gf args) w)
    (h : ∀ L : Loop, L.state = .ready → L.pending = none → L.params = ps → L.tmps = a.tmps → L.assign = assign → L.body = body →
      CallsIn Fence.wide (n - 1) P gf (#[.func (.yield (w.heap.size + 1)) #[] #[]] ++ lb) ((w.alloc (.deferred (some []))).alloc (.loop L))
        (rangePost Fence.wide n P (w.heap.size + 1) Q { a with defers := { target := .collected w.heap.size, args := #[] } :: a.defers })) :
    (Code.rangeFunc g ps assign body).wpIn Fence.wide n P Q a w := by
  refine wpIn_rangeFunc fun fn _ => ?_
  obtain ⟨L, hL⟩ : ∃ L : Loop, L = { state := .ready, pending := none, fn, tmps := a.tmps, params := ps, assign, body, defers := w.heap.size } := ⟨_, rfl⟩
  have k := h L (by rw [hL]) (by rw [hL]) (by rw [hL]) (by rw [hL]) (by rw [hL]) (by rw [hL])
  have e := run_enterLoop_outer (P := P) (w := w) fn a.tmps ps assign body
  rw [← hL] at e
  refine ⟨w.heap.size + 1, [{ target := .collected w.heap.size, args := #[] }], (w.alloc (.deferred (some []))).alloc (.loop L), { target := .fn (.func gf) lb, args := #[.func (.yield (w.heap.size + 1)) #[] #[]] }, (w.alloc (.deferred (some []))).alloc (.loop L), gf, #[.func (.yield (w.heap.size + 1)) #[] #[]] ++ lb, (w.alloc (.deferred (some []))).alloc (.loop L), e, ?_, ?_, ?_, ?_, ?_⟩
  · simp only [resolve, hg]
    simp [go_sem]
  · exact fun _ _ => trivial
  · simp [invoke, go_sem, eg]
  · intro hx
    cases hx
  · simp only [List.cons_append, List.nil_append]
    exact k

/-- One round, out of the walks of what it assigns and of its body. -/
theorem yield_of {P : Program} {m l : Nat} {args : Array Value} {W : World} {R : Ending → World → Prop} {L : Loop} (hl : W.heap[l]? = some (.loop L)) (hn : args.size = L.params.size)
    (h : L.assign.wpIn (Fence.wide.inRound l) m P (Exit.then (fun a1 w1 => ∃ w2, (Instr.beginRound l).run P w1 = .ok () w2 ∧ L.body.wpIn (Fence.wide.inRound l) m P (roundPost P l R) a1 w2) (fun _ _ _ => False))
      { tmps := (L.params.zip args).foldl (fun tmps (t, a) => tmps.setIfInBounds t a) L.tmps, defers := [] } W) : YieldAt Fence.wide m P l args W R :=
  ⟨L.fn, _, L.assign, L.body, run_yield hl hn, roundIn_of_wpIn trivial h⟩

theorem es_len (l : List Sp) : (Es l).length ≤ 2 * l.length := by
  have : (Lib.compact (so l)).length ≤ (so l).length := by
    unfold Lib.compact Lib.compactUpTo
    rw [List.length_map]
    refine Nat.le_trans (List.length_filter_le _ _) ?_
    simp
  rw [so_len] at this
  exact this

theorem stays_own {W w1 : World} {b : Nat} {v : Value} {xs : List Sp} (h : WL W b v xs) (g : W.grownBy w1 v.ownBlock) : Stays W w1 := by
  intro c cs r
  refine (g.block c r.lt ?_).trans r
  rcases h.2 with ⟨rfl, _⟩ | ⟨d, cap, cur, rfl, _, hgb, _⟩
  · simp [Value.ownBlock]
  · intro e'
    obtain rfl : c = d := by simpa [Value.ownBlock] using e'
    unfold RA at r
    rw [hgb] at r
    have := Option.some.inj r
    injection this with _ h2
    exact absurd h2 (by decide)

theorem stays_box {W : World} {p : Nat} {v : Value} (h : Boxed W p 36 v) (v' : Value) : Stays W (W.setCell ⟨p, 0, none⟩ v') := by
  intro c cs r
  refine (Below.heap_setCell _ _ _ _ ?_).trans r
  intro e
  subst e
  unfold RA at r
  have := h.symm.trans r
  have := Option.some.inj this
  injection this with _ h2
  exact absurd h2 (by decide)

/-- What the loop over the instants keeps between two rounds, k rounds having come. -/
def LI (wA : World) (p : Nat) (lv : Value) (l : List Sp) (L : Loop) (k : Nat) (W : World) : Prop :=
  Later wA W ∧ (∃ v, Boxed W p 36 v ∧ WL W p v (rk l k)) ∧ Boxed W (p + 1) 36 lv ∧
  W.heap[p + 1 + 1]? = some (.deferred (some [])) ∧ W.heap[p + 1 + 1 + 1]? = some (.loop L)

theorem LI.later {wA : World} {p : Nat} {lv : Value} {l : List Sp} {L : Loop} {k : Nat} {W W' : World} (x : LI wA p lv l L k W) (g : Later W W') : LI wA p lv l L k W' := by
  obtain ⟨x0, ⟨v, x1, x2⟩, x3, x5, x6⟩ := x
  have o : ∀ b u, W.heap[b]? = some u → W'.heap[b]? = some u := fun b u e => (g.2.2.2 b (Array.getElem?_eq_some_iff.1 e).1).trans e
  exact ⟨gtrans x0 g, ⟨v, o _ _ x1, x2.later g⟩, o _ _ x3, o _ _ x5, o _ _ x6⟩

theorem LI.put {wA : World} {p : Nat} {lv : Value} {l : List Sp} {L L' : Loop} {k : Nat} {W : World} (x : LI wA p lv l L k W) (hp : wA.heap.size = p) : LI wA p lv l L' k (W.putObj (p + 1 + 1 + 1) (.loop L')) := by
  obtain ⟨x0, ⟨v, x1, x2⟩, x3, x5, x6⟩ := x
  have o : ∀ b, b ≠ p + 1 + 1 + 1 → (W.putObj (p + 1 + 1 + 1) (.loop L')).heap[b]? = W.heap[b]? := fun b hb => World.putObj_heap_other (by omega)
  refine ⟨?_, ⟨v, (o _ (by omega)).trans x1, ownsRow_putObj x2 _ x6 rfl⟩, (o _ (by omega)).trans x3, (o _ (by omega)).trans x5, World.putObj_heap_same (Array.getElem?_eq_some_iff.1 x6).1⟩
  exact Later.of_below (x0.below.trans (belowK_b (w := wA) (Nat.le_refl _) W _ _ _ (by omega) x6 rfl rfl))

/-- A round that lays nothing. -/
theorem LI.miss {wA : World} {p : Nat} {lv : Value} {l : List Sp} {L : Loop} {k : Nat} {W : World} (x : LI wA p lv l L k W) (h0 : best l (ei l k) = none) : LI wA p lv l L (k + 1) W := by
  unfold LI
  rw [show rk l (k + 1) = rk l k from st_none h0]
  exact x

/-- One that lays a piece: behind the call and the store. -/
theorem LI.hit {wA : World} {p : Nat} {lv : Value} {l : List Sp} {L : Loop} {k : Nat} {W w1 : World} {v v' : Value} (x : LI wA p lv l L k W) (hp : wA.heap.size = p)
    (hv : Boxed W p 36 v) (hrow : WL W p v (rk l k)) (hown : WL w1 p v' (rk l (k + 1))) (hgrow : W.grownBy w1 v.ownBlock) :
    LI wA p lv l L (k + 1) (w1.setCell ⟨p, 0, none⟩ v') := by
  obtain ⟨x0, _, x3, x5, x6⟩ := x
  have hs := x0.size
  have hv1 := hv.kept hgrow (hv.not_row (by decide) hrow)
  have y3 := x3.kept hgrow (x3.not_row (by decide) hrow)
  have o : ∀ b, b ≠ p → (w1.setCell ⟨p, 0, none⟩ v').heap[b]? = w1.heap[b]? := fun b hb => Below.heap_setCell _ _ _ _ hb
  have ot : ∀ (b : Nat) (u : Obj), W.heap[b]? = some u → u.isCells = false → w1.heap[b]? = some u := by
    intro b u hb hu
    refine (hgrow.block b (Array.getElem?_eq_some_iff.1 hb).1 ?_).trans hb
    rcases hrow.2 with ⟨rfl, _⟩ | ⟨g, cap, cur, rfl, _, hgb, _⟩
    · simp [Value.ownBlock]
    · intro e'
      obtain rfl : b = g := by simpa [Value.ownBlock] using e'
      rw [hgb] at hb; cases hb; cases hu
  have bl : Below p W (w1.setCell ⟨p, 0, none⟩ v') := ((Below.refl p W).grown hgrow (by omega) (fun j e => (World.ownsRow.lt hrow j e).1)).setCell (p := ⟨p, 0, none⟩) (Nat.le_refl _) v'
  refine ⟨Later.of_below (x0.below.trans (bl.mono (by omega))), ⟨v', hv1.set v', ?_⟩, (o _ (by omega)).trans y3, (o _ (by omega)).trans (ot _ _ x5 rfl), (o _ (by omega)).trans (ot _ _ x6 rfl)⟩
  exact World.ownsRow.kept hown (grownBy_setCell' w1 p v') (.inr (hv1.not_row (by decide) hown).symm)

theorem resolve_no (v : Value) (l : List Sp) (w : World) (h : Ws w v l) (hm : mb l = false) :
    Calls Tryz.prog 56 #[v] w fun e w' => e = .returned (.tuple #[.slice none 0 0, .int .i64 130]) ∧ Later w w' := by
  have M := Lib.hid (maybe_any v l w h)
  rw [hm] at M
  obtain ⟨ad, cap, rfl, _⟩ := h.form
  clear h hm
  go_enter Tryz.func56, Tryz.ntmps56
  go_wp2_with fail
  refine (M.out).mono ?_
  rintro e w1 ⟨rfl, hg1⟩
  go_wp2_with fail
  go_ret2
  exact ⟨rfl, hg1⟩

set_option maxRecDepth 100000 in
set_option maxHeartbeats 2000000 in
theorem resolve_yes (v : Value) (l : List Sp) (w : World) (h : Ws w v l) (hm : mb l = true) (hl : l.length ≤ 500) :
    Calls Tryz.prog 56 #[v] w fun e w' => ∃ v', e = .returned (.tuple #[v', .int .i64 0]) ∧ IsRow l w w' v' ∧ Later w w' := by
  have M := Lib.hid (maybe_any v l w h)
  rw [hm] at M
  have G := Lib.hid (fun W (g : Later w W) => weigh_any v l W (h.later g) hl)
  have HS := Lib.hid h
  obtain ⟨ad, cap, rfl, _⟩ := h.form
  have BD := Lib.hid (fun W => bounds_any ad l.length cap W)
  have EL := Lib.hid (es_len l)
  have HN := Lib.hid hl
  clear h hm hl
  refine (callsIn_wide (n := 5)).1 ?_
  refine callsIn_of_wp_marks Tryz.func56 rfl trivial ?_ rfl
  simp only [Tryz.ntmps56, List.size_toArray, List.length_cons, List.length_nil, Nat.reduceAdd, Nat.reduceSub, Array.replicate_succ, Array.replicate_zero, List.push_toArray, List.append_toArray, List.nil_append, List.cons_append]
  gi_wp2_with (first
    | (refine ⟨trivial, ?_⟩; gi_at_call 91; refine (callsIn_wide.2 M.out).mono ?_; rintro e w1 ⟨rfl, hg1⟩; have HG := Lib.hid hg1; clear hg1)
    | (refine ⟨trivial, ?_⟩; gi_at_call 92; refine (callsIn_wide.2 (G.out _ HG.out)).mono ?_; rintro e w2 ⟨⟨q, rfl, hwt⟩, hg2⟩; have HWT := Lib.hid hwt; have HG2 := Lib.hid (gtrans HG.out hg2); clear hg2 hwt)
    | (refine ⟨trivial, ?_⟩; gi_at_call 93; refine (callsIn_wide.2 (BD.out _)).mono ?_; rintro e w3 ⟨rfl, rfl⟩))
  obtain ⟨wA, hwA⟩ : ∃ wA, w2.alloc (.cells #[.func (.func 121) #[] #[.pointer (some ⟨q, 0, none⟩)]] 118) = wA := ⟨_, rfl⟩
  have hp : wA.heap.size = w2.heap.size + 1 := by rw [← hwA]; simp
  have HP := Lib.hid hp
  have HLA := Lib.hid (show Later w2 wA from hwA ▸ (Later.refl w2).put _)
  have hcq : wA.cell? ⟨w2.heap.size, 0, none⟩ = some (.func (.func 121) #[] #[.pointer (some ⟨q, 0, none⟩)]) := by rw [← hwA]; exact cell4 (Later.refl _) 0 rfl
  rw [hwA]
  clear hwA
  have hq : ∀ L : Loop, LI wA (w2.heap.size + 1) (.slice ad l.length cap) l L 0 ((((wA.alloc (.cells #[.slice none 0 0] 36)).alloc (.cells #[.slice ad l.length cap] 36)).alloc (.deferred (some []))).alloc (.loop L)) := by
    intro L
    have e0 := Boxed.new wA 36 (.slice none 0 0)
    have e1 := Boxed.new (wA.alloc (.cells #[.slice none 0 0] 36)) 36 (.slice ad l.length cap)
    simp only [World.size_alloc, hp] at e0 e1
    refine ⟨((((Later.refl wA).put _).put _).put _).put _, ⟨.slice none 0 0, ((e0.alloc _).alloc _).alloc _, WL.nil _ _⟩, (e1.alloc _).alloc _, ?_, ?_⟩
    · have := World.alloc_heap_new ((wA.alloc (.cells #[.slice none 0 0] 36)).alloc (.cells #[.slice ad l.length cap] 36)) (.deferred (some []))
      simp only [World.size_alloc, hp] at this
      exact (Below.heap_alloc _ _ _ (by simp; omega)).trans this
    · have := World.alloc_heap_new (((wA.alloc (.cells #[.slice none 0 0] 36)).alloc (.cells #[.slice ad l.length cap] 36)).alloc (.deferred (some []))) (.loop L)
      simp only [World.size_alloc, hp] at this
      exact this
  refine range_start (gf := 122) rfl (enters_of Tryz.func122 (by kernel_rfl) rfl) ?_
  intro L l1 l2 l3 l4 l5 l6
  have HQ := Lib.hid (hq L)
  clear hq
  simp only [World.size_alloc, hp]
  have step : ∀ (k : Nat) W, LI wA (w2.heap.size + 1) (.slice ad l.length cap) l L k W → k + 1 < (Es l).length → YieldAt Fence.wide (5 - 1 - 1) Tryz.prog (w2.heap.size + 1 + 1 + 1 + 1) #[.int .i64 (ei l k), .int .i64 (ei l (k + 1))] W fun e W' =>
      e = .returned (.bool true) ∧ LI wA (w2.heap.size + 1) (.slice ad l.length cap) l L (k + 1) W' ∧ Stays W W' := by
    intro k W hW hk
    have kl : (rk l k).length ≤ 50000 := by
      have a1 := rk_len l k
      have a2 := EL.out
      have a3 := HN.out
      omega
    refine yield_of hW.2.2.2.2 (by rw [l3]; rfl) ?_
    rw [l3, l4, l5, l6]
    have H1 := Lib.hid l1
    have H2 := Lib.hid l2
    have HW := Lib.hid hW
    have KL := Lib.hid kl
    clear l1 l2 l3 l4 l5 l6 hW HQ M hk kl
    gi_wp2
    refine ⟨_, run_beginRound HW.out.2.2.2.2 H1.out, ?_⟩
    obtain ⟨Wb, hWb⟩ : ∃ Wb, W.putObj (w2.heap.size + 1 + 1 + 1 + 1) (.loop { L with state := .busy }) = Wb := ⟨_, rfl⟩
    rw [hWb]
    have HV := Lib.hid (show LI wA (w2.heap.size + 1) (.slice ad l.length cap) l { L with state := .busy } k Wb from hWb ▸ HW.out.put hp)
    have ST : Hid (Stays W Wb) := Lib.hid (by
      intro g cs r
      rw [← hWb]
      refine (World.putObj_heap_other ?_).trans r
      intro e
      subst e
      have := HW.out.2.2.2.2
      unfold RA at r
      rw [r] at this
      cases this)
    clear hWb HW
    have c0 := gsome HV.out.1 hcq
    have HWT2 : Wt Wb q l := by
      obtain ⟨v0, o0, y1, y2, y3⟩ := HWT.out
      have g := gtrans HLA.out HV.out.1
      exact ⟨v0, o0, gsome g y1, y2.later g, y3⟩
    have R := Lib.hid (ask_any l q (ei l k) Wb HWT2)
    clear HWT2
    have lend : ∀ W4, LI wA (w2.heap.size + 1) (.slice ad l.length cap) l { L with state := .busy } (k + 1) W4 → Stays Wb W4 → LI wA (w2.heap.size + 1) (.slice ad l.length cap) l L (k + 1) (W4.putObj (w2.heap.size + 1 + 1 + 1 + 1) (.loop { { L with state := .busy } with state := if (none : Option Code).isNone then .ready else .done, pending := none })) ∧ Stays W (W4.putObj (w2.heap.size + 1 + 1 + 1 + 1) (.loop { { L with state := .busy } with state := if (none : Option Code).isNone then .ready else .done, pending := none })) := by
      intro W4 hx hs
      have e : ({ { L with state := .busy } with state := if (none : Option Code).isNone then .ready else .done, pending := none } : Loop) = L := by
        have a1 := H1.out
        have a2 := H2.out
        cases L
        simp_all
      rw [e]
      refine ⟨hx.put hp, (ST.out.trans hs).trans ?_⟩
      intro g cs r
      refine (World.putObj_heap_other ?_).trans r
      intro e
      subst e
      have := hx.2.2.2.2
      unfold RA at r
      rw [r] at this
      cases this
    have LEND := Lib.hid lend
    clear lend
    cases hb : best l (ei l k) with
    | none =>
      have e1 : bv l (ei l k) = z4 := by unfold bv; rw [hb]; rfl
      have e2 : bb l (ei l k) = false := by unfold bb; rw [hb]; rfl
      rw [e1, e2] at R
      unfold sc z4 at R
      have HB := Lib.hid hb
      clear hb e1 e2
      gi_wp2_with (refine ⟨trivial, ?_⟩; gi_at_call 121; refine (CallsIn.inRound _ (callsIn_wide.2 R.out)).mono ?_; rintro e w3 ⟨rfl, hg3⟩; have HX := Lib.hid ((HV.out.later (hg3.put (.cells #[.int .i64 0, .int .i64 0, .int .i64 0, .int .i64 0] 56))).miss HB.out); have HS3 := Lib.hid (stays_later (hg3.put (.cells #[.int .i64 0, .int .i64 0, .int .i64 0, .int .i64 0] 56))); clear hg3 c0)
      exact ⟨_, _, run_endRound none HX.out.2.2.2.2, rfl, LEND.out _ HX.out HS3.out⟩
    | some x =>
      have e1 : bv l (ei l k) = x := by unfold bv; rw [hb]; rfl
      have e2 : bb l (ei l k) = true := by unfold bb; rw [hb]; rfl
      rw [e1, e2] at R
      unfold sc at R
      have HB := Lib.hid (show rk l (k + 1) = push (rk l k) (ei l k) (ei l (k + 1)) x.m from st_some hb)
      clear hb e1 e2
      obtain ⟨v, bv, fv⟩ := HV.out.2.1
      obtain ⟨ad5, cap5, hv5, _⟩ := fv.ws.len
      subst hv5
      have BV := Lib.hid bv
      have FV := Lib.hid fv
      clear bv fv
      gi_wp2_with (first
        | (refine ⟨trivial, ?_⟩; gi_at_call 121; refine (CallsIn.inRound _ (callsIn_wide.2 R.out)).mono ?_; rintro e w3 ⟨rfl, hg3⟩; have hg4 := hg3.put (.cells #[.int .i64 x.f, .int .i64 x.t, .int .i64 x.m, .int .i64 x.p] 56); have HX := Lib.hid (HV.out.later hg4); have HS3 := Lib.hid (stays_later hg4); have BX := Lib.hid (BV.out.kept hg4.grownBy (by simp)); have FX := Lib.hid (FV.out.later hg4); have c1 := BX.out.cell; have Y := Lib.hid (lay_any (.slice ad5 (rk l k).length cap5) (rk l k) (ei l k) (ei l (k + 1)) x.m wA _ HX.out.1 (hp.symm ▸ FX.out) KL.out); unfold sc at Y; clear hg3 hg4 c0)
        | (refine ⟨trivial, ?_⟩; gi_at_call 94; refine (CallsIn.inRound _ (callsIn_wide.2 Y.out)).mono ?_; rintro e w5 ⟨v', rfl, hown, hgrow⟩; have HN1 := Lib.hid (HX.out.hit hp BX.out FX.out (by rw [HB.out, ← HP.out]; exact hown) hgrow); obtain ⟨ad7, cap7, rfl, _⟩ := hown.ws.len; have hv1 := BX.out.kept hgrow (BX.out.not_row (by decide) FX.out); have c2 := hv1.cell; have f2 := hv1.frozen; have HS5 := Lib.hid ((HS3.out.trans (stays_own FX.out hgrow)).trans (stays_box hv1 (.slice ad7 (push (rk l k) (ei l k) (ei l (k + 1)) x.m).length cap7))); clear hown hgrow hv1 c1))
      exact ⟨_, _, run_endRound none HN1.out.2.2.2.2, rfl, LEND.out _ HN1.out HS5.out⟩
  have STEP := Lib.hid step
  clear step
  refine (bounds1_in (5 - 1) (by omega) l HN.out (w2.heap.size + 1 + 1 + 1 + 1) (w2.heap.size + 1 + 1) (.slice ad l.length cap) (LI wA (w2.heap.size + 1) (.slice ad l.length cap) l L) _ (fun k W W' x g => x.later g) HQ.out.2.2.1.cell (HS.out.later (gtrans (gtrans HG2.out HLA.out) HQ.out.1)) STEP.out HQ.out).mono ?_
  have LP := Lib.hid l2
  have LST : L.state ≠ .busy := by rw [l1]; simp
  clear STEP HQ l1 l2 l3 l4 l5 l6
  rintro e W2 ⟨⟨v, rfl⟩, hX⟩
  refine ⟨_, _, run_endLoop hX.2.2.2.2 LST, ?_⟩
  obtain ⟨W3, hW3⟩ : ∃ W3, W2.putObj (w2.heap.size + 1 + 1 + 1 + 1) (.loop { L with state := .exhausted }) = W3 := ⟨_, rfl⟩
  rw [hW3, LP.out]
  have HV := Lib.hid (show LI wA (w2.heap.size + 1) (.slice ad l.length cap) l { L with state := .exhausted } ((Es l).length - 1) W3 from hW3 ▸ hX.put hp)
  clear hW3 hX
  obtain ⟨u, bu, fu⟩ := HV.out.2.1
  have c1 := bu.cell
  have FU := Lib.hid fu
  clear bu fu
  dsimp only
  gi_wp2
  refine ⟨by simp, .inl ⟨_, _, rfl, run_takeDeferred HV.out.2.2.2.1, ?_⟩⟩
  refine ⟨_, results_tmp2 rfl _ _ _, u, rfl, ?_, ?_⟩
  · have x : WL _ _ _ _ := ownsRow_putObj FU.out (.deferred none) HV.out.2.2.2.1 rfl
    have hs := HG2.out.size
    exact ⟨_, rk_full l, x.base (by omega)⟩
  · have hs := HG2.out.size
    exact gtrans (gtrans HG2.out HLA.out) (Later.of_below (HV.out.1.below.trans (belowK_b (w := wA) (Nat.le_refl _) W3 _ _ _ (by omega) HV.out.2.2.2.1 rfl rfl)))

end Go.Proofs.YtihdijkplmfhfaaGreatDoor.Span

/- Plain facts on the timetable, in whole numbers: the spans that begin on some days; which of them an instant can be in; the weightiest one among more or fewer days; a span that is weightier than all others. Conditions: as each theorem states. -/
namespace Go.Proofs.YtihdijkplmfhfaaGreatDoor.Tab
set_option maxRecDepth 100000
open Go.Proofs.YtihdijkplmfhfaaGreatDoor.Cal (yr ya)
open Go.Proofs.YtihdijkplmfhfaaGreatDoor.Zo
open Go.Proofs.YtihdijkplmfhfaaGreatDoor.Su (sk)
open Go.Proofs.YtihdijkplmfhfaaGreatDoor.Fe (kd rst)
open Go.Proofs.YtihdijkplmfhfaaGreatDoor.Cf (Cg Wn ce wo)
open Go.Proofs.YtihdijkplmfhfaaGreatDoor.Win
open Go.Proofs.YtihdijkplmfhfaaGreatDoor.Sp (inn inn_iff inn_no ov be best md fi te Row Full be_append be_out be_mem best_mem be_stay best_top cu te_cu)

/-- The spans of windows that begin on a day, window by window. -/
noncomputable def dw (c : Cg) (d : Int) : List Wn → List Sp.Sp
  | [] => []
  | x :: r => if beg c x d = true then ⟨fr c x d, tt c x d, x.m, x.p⟩ :: dw c d r else dw c d r

theorem dw_cons (c : Cg) (d : Int) (x : Wn) (r : List Wn) : dw c d (x :: r) = if beg c x d = true then ⟨fr c x d, tt c x d, x.m, x.p⟩ :: dw c d r else dw c d r := rfl

theorem dw_append (c : Cg) (d : Int) (A B : List Wn) : dw c d (A ++ B) = dw c d A ++ dw c d B := by
  induction A with
  | nil => rfl
  | cons x r ih =>
    rw [List.cons_append, dw_cons, dw_cons, ih]
    split <;> rfl

theorem dw_mem {c : Cg} {d : Int} {l : List Wn} {s : Sp.Sp} (h : s ∈ dw c d l) : ∃ x ∈ l, beg c x d = true ∧ s = ⟨fr c x d, tt c x d, x.m, x.p⟩ := by
  induction l with
  | nil => cases h
  | cons x r ih =>
    rw [dw_cons] at h
    split at h
    · rename_i hb
      rcases List.mem_cons.1 h with rfl | h
      · exact ⟨x, by simp, hb, rfl⟩
      · obtain ⟨y, h1, h2⟩ := ih h
        exact ⟨y, List.mem_cons_of_mem _ h1, h2⟩
    · obtain ⟨y, h1, h2⟩ := ih h
      exact ⟨y, List.mem_cons_of_mem _ h1, h2⟩

/-- The spans that begin on n days from a first one on. -/
noncomputable def sps (c : Cg) (a : Int) : Nat → List Sp.Sp
  | 0 => []
  | n + 1 => sps c a n ++ dw c (a + n) c.ws

theorem sps_add (c : Cg) (a : Int) (n m : Nat) : sps c a (n + m) = sps c a n ++ sps c (a + n) m := by
  induction m with
  | zero => simp [sps]
  | succ m ih =>
    have e : sps c a (n + (m + 1)) = sps c a (n + m) ++ dw c (a + ((n + m : Nat) : Int)) c.ws := rfl
    rw [e, ih, show a + ((n + m : Nat) : Int) = a + n + m by omega, List.append_assoc]
    rfl

theorem sps_mem {c : Cg} {a : Int} {n : Nat} {s : Sp.Sp} (h : s ∈ sps c a n) : ∃ d, a ≤ d ∧ d < a + n ∧ s ∈ dw c d c.ws := by
  induction n with
  | zero => cases h
  | succ n ih =>
    rcases List.mem_append.1 h with h | h
    · obtain ⟨d, h1, h2, h3⟩ := ih h
      exact ⟨d, h1, by omega, h3⟩
    · exact ⟨a + n, by omega, by omega, h⟩

theorem dw_len (c : Cg) (d : Int) (l : List Wn) : (dw c d l).length ≤ l.length := by
  induction l with
  | nil => simp [dw]
  | cons x r ih =>
    rw [dw_cons]
    split
    · simp; omega
    · simp; omega

theorem sps_len (c : Cg) (a : Int) (n : Nat) : (sps c a n).length ≤ n * c.ws.length := by
  induction n with
  | zero => simp [sps]
  | succ n ih =>
    have := dw_len c (a + n) c.ws
    have e : (sps c a (n + 1)).length = (sps c a n).length + (dw c (a + n) c.ws).length := by simp [sps]
    rw [e, Nat.succ_mul]
    omega

/-- A window of a configuration that may be may be. -/
theorem ws_may {c : Cg} (h : ce c = 0) {x : Wn} (hx : x ∈ c.ws) : wo x = true := by
  have : Cf.wa c.ws = true := by
    unfold ce at h
    by_cases h1 : Cf.so c = true
    · rw [if_pos h1] at h
      by_cases h2 : Cf.to c = true
      · rw [if_pos h2] at h
        by_cases h3 : Cf.ti c = true
        · rw [if_pos h3] at h
          by_cases h4 : ck c.z = 0
          · rw [if_pos h4] at h
            by_cases h5 : sk c.s = 0
            · rw [if_pos h5] at h
              by_cases h6 : c.ws.length ≤ 16
              · rw [if_pos h6] at h
                by_cases h7 : Cf.wa c.ws = true
                · exact h7
                · rw [if_neg h7] at h; omega
              · rw [if_neg h6] at h; omega
            · rw [if_neg h5] at h; exact absurd h h5
          · rw [if_neg h4] at h; exact absurd h h4
        · rw [if_neg h3] at h; omega
      · rw [if_neg h2] at h; omega
    · rw [if_neg h1] at h; omega
  exact List.all_eq_true.1 this x hx

theorem ws_len {c : Cg} (h : ce c = 0) : c.ws.length ≤ 16 := by
  unfold ce at h
  by_cases h1 : Cf.so c = true
  · rw [if_pos h1] at h
    by_cases h2 : Cf.to c = true
    · rw [if_pos h2] at h
      by_cases h3 : Cf.ti c = true
      · rw [if_pos h3] at h
        by_cases h4 : ck c.z = 0
        · rw [if_pos h4] at h
          by_cases h5 : sk c.s = 0
          · rw [if_pos h5] at h
            by_cases h6 : c.ws.length ≤ 16
            · exact h6
            · rw [if_neg h6] at h; omega
          · rw [if_neg h5] at h; exact absurd h h5
        · rw [if_neg h4] at h; exact absurd h h4
      · rw [if_neg h3] at h; omega
    · rw [if_neg h2] at h; omega
  · rw [if_neg h1] at h; omega

/-- From when up to when a span of a day can be, by what clocks tell unshifted. -/
theorem dw_in {c : Cg} (h : ce c = 0) {d : Int} (d0 : 402 ≤ d) (d1 : d ≤ 3651990) {s : Sp.Sp} (hs : s ∈ dw c d c.ws) :
    d * 1440 - c.z.s ≤ s.f + c.z.b ∧ s.t + c.z.b ≤ d * 1440 + 11519 ∧ s.f < s.t ∧ 0 ≤ s.p ∧ s.p ≤ 99 ∧ 0 ≤ s.m ∧ s.m ≤ 5 := by
  obtain ⟨x, hx, hb, rfl⟩ := dw_mem hs
  have ho := ws_may h hx
  have hw := (Conf.wo_iff x).1 ho
  have hp : pB c x d = true := (pB_iff c x d).2 ⟨(pE_ok c x d).2 ⟨h, ho, d0, d1⟩, hb⟩
  obtain ⟨hz, _⟩ := ce_parts c h
  have hz' := hz
  unfold May at hz'
  obtain ⟨z0, z1, s0, s1, _⟩ := hz'
  by_cases hk : x.k = 4
  · obtain ⟨q, _, _, q0, q1, _, _, a, b, a0, a1, b0, b1, u0, u1, l0, l1, f, t⟩ := rest_span c x d hp hk
    simp only
    rw [f, t]
    omega
  · have ht : 0 ≤ x.u ∧ x.u ≤ 1439 ∧ 1 ≤ x.l ∧ x.l ≤ 10080 := (Conf.tmB_iff x).1 (by rcases hw with ⟨_, h | h | h | h⟩ <;> first | exact h.2.1 | (exfalso; omega))
    have f : fr c x d = mv c.z (d * 1440 + x.u) := by unfold fr; rw [if_neg hk]
    have t : tt c x d = fr c x d + x.l := by unfold tt fr; rw [if_neg hk, if_neg hk]
    simp only
    rw [t, f]
    rcases mv_ways c.z hz (d * 1440 + x.u) (by omega) (by omega) with ⟨_, e⟩ | ⟨_, _, e⟩ | ⟨_, _, e1, e2, _, _⟩ <;> omega

/-- An instant is in spans of days that are near the one that clocks tell then. -/
theorem near {c : Cg} (h : ce c = 0) {d t : Int} (d0 : 402 ≤ d) (d1 : d ≤ 3651990) {s : Sp.Sp} (hs : s ∈ dw c d c.ws) (ht : s.f ≤ t ∧ t < s.t) : td c.z t / 1440 - 8 ≤ d ∧ d ≤ td c.z t / 1440 + 1 := by
  have k := dw_in h d0 d1 hs
  obtain ⟨hz, _⟩ := ce_parts c h
  unfold May at hz
  rcases td_cases c.z t with ⟨_, e⟩ | ⟨_, e⟩ <;> rw [e] <;> omega

/-- What is outside of those days doesn't matter. -/
theorem best_far {c : Cg} (h : ce c = 0) {t a : Int} {n : Nat} (a0 : 402 ≤ a) (a1 : a + n ≤ 3651991) (hf : a + n ≤ td c.z t / 1440 - 8 ∨ td c.z t / 1440 + 1 < a) (b : Option Sp.Sp) : be t (sps c a n) b = b := by
  refine be_out _ _ _ (fun s hs => ?_)
  obtain ⟨d, h1, h2, h3⟩ := sps_mem hs
  cases hi : inn t s
  · rfl
  · have := near h (by omega) (by omega) h3 ((inn_iff t s).1 hi)
    omega

/-- Spans of more days tell the same. -/
theorem best_wide {c : Cg} (h : ce c = 0) {t D : Int} (hD : td c.z t / 1440 = D) (p q n : Nat) (h0 : 402 ≤ D - 9 - p) (h1 : D - 9 + n + q ≤ 3651991) (hn : 11 ≤ n) : best (sps c (D - 9 - p) (p + (n + q))) t = best (sps c (D - 9) 11) t := by
  have core : ∀ m : Nat, 11 ≤ m → D - 9 + m ≤ 3651991 → be t (sps c (D - 9) m) none = be t (sps c (D - 9) 11) none := by
    intro m hm hb
    obtain ⟨k, rfl⟩ : ∃ k, m = 11 + k := ⟨m - 11, by omega⟩
    rw [sps_add, be_append]
    exact best_far h (by omega) (by omega) (.inr (by omega)) _
  unfold best
  rw [sps_add, be_append, best_far (a := D - 9 - p) (n := p) h (by omega) (by omega) (.inl (by omega)), show D - 9 - (p : Int) + p = D - 9 by omega]
  exact core (n + q) (by omega) (by omega)

/-- A minute's moment is not ahead of an instant at which it is told. -/
theorem mv_le (z : Zn) (hz : May z) (t : Int) : mv z (td z t) ≤ t := by
  have hz' := hz
  unfold May at hz'
  rcases td_cases z t with ⟨h, e⟩ | ⟨h, e⟩
  · rw [e, mv_early z _ (by rw [show t + z.b + z.s - z.b - z.s = t by omega]; exact h)]
    omega
  · rw [e]
    cases g : sm z (t + z.b - z.b - z.s)
    · rw [mv_late z _ g (by rw [show t + z.b - z.b = t by omega]; exact h)]
      omega
    · rw [mv_early z _ g]
      omega

/-- Of two minutes the later one's moment is not earlier. -/
theorem mv_mono (z : Zn) (hz : May z) (n : Int) (k : Nat) (h1 : 578880 ≤ n) (h2 : n + k ≤ 5258867039) : mv z n ≤ mv z (n + k) := by
  induction k with
  | zero => rw [show n + ((0 : Nat) : Int) = n by omega]; exact Int.le_refl _
  | succ k ih =>
    have := ih (by omega)
    have q := mv_next z hz (n + (k + 1 : Nat)) (by omega) (by omega)
    rw [show n + ((k + 1 : Nat) : Int) - 1 = n + k by omega] at q
    omega

/-- A day's beginning is not behind an instant at which it is told. -/
theorem day_le (z : Zn) (hz : May z) (t D : Int) (h : td z t / 1440 = D) (h1 : 402 ≤ D) (h2 : D ≤ 3651989) : mv z (D * 1440) ≤ t := by
  have a := mv_le z hz t
  have b := mv_mono z hz (D * 1440) (td z t - D * 1440).toNat (by omega) (by omega)
  rw [show D * 1440 + ((td z t - D * 1440).toNat : Int) = td z t by omega] at b
  omega

/-- One that is weightier than all others is the weightiest wherever it is. -/
theorem best_one (A B : List Sp.Sp) (s : Sp.Sp) (x : Int) (hA : ∀ u ∈ A, u.p < s.p) (hB : ∀ u ∈ B, u.p < s.p) : best (A ++ s :: B) x = if inn x s then some s else best (A ++ B) x := by
  rw [show A ++ s :: B = (A ++ [s]) ++ B by simp]
  have e := best_top A s x hA
  unfold best at *
  rw [be_append, e, be_append]
  split
  · exact be_stay B s x hB
  · rfl

/-- A configuration with a window more. -/
def cm (c : Cg) (x : Wn) : Cg := ⟨c.f, c.n, c.p, c.st, c.t, c.l, c.o, c.d, c.e, c.c, c.h, c.r, c.q, c.z, c.s, c.ab, c.ws ++ [x]⟩

theorem dw_cm (c : Cg) (x : Wn) (d : Int) (l : List Wn) : dw (cm c x) d l = dw c d l := by
  induction l with
  | nil => rfl
  | cons y r ih =>
    rw [dw_cons, dw_cons, ih]
    rfl

end Go.Proofs.YtihdijkplmfhfaaGreatDoor.Tab

/- Plain facts on the timetable, further: which instants are served; what of a row is within a day; a window more, that is weightier than all others. Conditions: as each theorem states. -/
namespace Go.Proofs.YtihdijkplmfhfaaGreatDoor.Tab
set_option maxRecDepth 100000
open Go.Proofs.YtihdijkplmfhfaaGreatDoor.Cal (yr ya)
open Go.Proofs.YtihdijkplmfhfaaGreatDoor.Zo
open Go.Proofs.YtihdijkplmfhfaaGreatDoor.Cf (Cg Wn ce wo)
open Go.Proofs.YtihdijkplmfhfaaGreatDoor.Win
open Go.Proofs.YtihdijkplmfhfaaGreatDoor.Sp (inn inn_iff inn_no best md fi te Row Full cu cl cu_cons)

theorem ya1900 : ya 1900 = 693595 := by decide
theorem ya2400 : ya 2400 = 876216 := by decide

/-- The years that are served, by days. -/
theorem yr_served (n : Int) (h1 : 1 ≤ n) (h2 : n ≤ 3652059) : (1900 ≤ yr n ∧ yr n ≤ 2399) ↔ 693596 ≤ n ∧ n ≤ 876216 := by
  obtain ⟨y0, y1, y2, y3⟩ := Cal.yr_spec n h1 h2
  constructor
  · rintro ⟨a, b⟩
    have p := Cal.ya_mono 1900 (yr n) a
    have q := Cal.ya_mono (yr n + 1) 2400 (by omega)
    rw [ya1900] at p
    rw [ya2400] at q
    omega
  · rintro ⟨a, b⟩
    constructor
    · by_cases g : 1900 ≤ yr n
      · exact g
      · have p := Cal.ya_mono (yr n + 1) 1900 (by omega)
        rw [ya1900] at p
        omega
    · by_cases g : yr n ≤ 2399
      · exact g
      · have p := Cal.ya_mono 2400 (yr n) (by omega)
        rw [ya2400] at p
        omega

/-- Is an instant served? -/
def sv (z : Zn) (t : Int) : Bool := decide (576000 ≤ t ∧ t ≤ 5258879999) && decide (1900 ≤ yr ((t + z.b) / 1440) ∧ yr ((t + z.b) / 1440) ≤ 2399)

theorem sv_iff (z : Zn) (hz : May z) (t : Int) : sv z t = true ↔ 693596 * 1440 ≤ t + z.b ∧ t + z.b < 876217 * 1440 := by
  have hz' := hz
  unfold May at hz'
  unfold sv
  simp only [Bool.and_eq_true, decide_eq_true_eq]
  constructor
  · rintro ⟨a, b⟩
    have d := day_bd z t hz a.1 a.2
    have := (yr_served _ d.1 d.2).1 b
    omega
  · rintro ⟨a, b⟩
    have a1 : 576000 ≤ t ∧ t ≤ 5258879999 := by omega
    have d := day_bd z t hz a1.1 a1.2
    exact ⟨a1, (yr_served _ d.1 d.2).2 (by omega)⟩

/-- What a cut row tells within its bounds. -/
theorem fi_cu (R : List Sp.Sp) (a b t : Int) (h0 : a ≤ t) (h1 : t < b) : fi (cu R a b) t = (fi R t).map (cl a b) := by
  induction R with
  | nil => rfl
  | cons s r ih =>
    have e : inn t (cl a b s) = inn t s := by
      cases h : inn t s
      · rw [inn_no] at h ⊢
        unfold cl; simp only
        omega
      · rw [inn_iff] at h ⊢
        unfold cl; simp only
        omega
    rw [cu_cons]
    unfold fi at *
    rw [List.find?_cons]
    cases h : inn t s
    · split
      · rw [List.find?_cons, e, h]
        exact ih
      · exact ih
    · have h' := h
      rw [← e] at h'
      have := (inn_iff _ _).1 h'
      rw [if_pos (by omega), List.find?_cons, e, h]
      rfl

/-- Outside of its bounds a cut row tells nothing. -/
theorem fi_cu_out (R : List Sp.Sp) (a b t : Int) (h : t < a ∨ b ≤ t) : fi (cu R a b) t = none := by
  induction R with
  | nil => rfl
  | cons s r ih =>
    have e : inn t (cl a b s) = false := by
      rw [inn_no]
      unfold cl; simp only
      omega
    rw [cu_cons]
    unfold fi at *
    split
    · rw [List.find?_cons, e]
      exact ih
    · exact ih

/-- The span that is told since is not behind what its day's row tells. -/
theorem cl_le (a b : Int) (s : Sp.Sp) : s.f ≤ (cl a b s).f ∧ (cl a b s).m = s.m := by
  unfold cl
  exact ⟨by simp only; omega, rfl⟩

/-- A day's spans, with a window more. -/
theorem dw_over (c : Cg) (y : Wn) (d : Int) : dw (cm c y) d (cm c y).ws = dw c d c.ws ++ (if beg c y d = true then [⟨fr c y d, tt c y d, y.m, y.p⟩] else []) := by
  rw [dw_cm]
  show dw c d (c.ws ++ [y]) = _
  rw [dw_append]
  rfl

theorem sps_none (c : Cg) (y : Wn) (a : Int) (n : Nat) (h : ∀ d, a ≤ d → d < a + n → beg c y d = false) : sps (cm c y) a n = sps c a n := by
  induction n with
  | zero => rfl
  | succ n ih =>
    have e : sps (cm c y) a (n + 1) = sps (cm c y) a n ++ dw (cm c y) (a + n) (cm c y).ws := rfl
    have e' : sps c a (n + 1) = sps c a n ++ dw c (a + n) c.ws := rfl
    rw [e, e', ih (fun d d0 d1 => h d d0 (by omega)), dw_over, h (a + n) (by omega) (by omega)]
    simp

/-- A window that begins on one day alone: its span among all others. -/
theorem sps_over (c : Cg) (y : Wn) (day a : Int) (n : Nat) (h0 : a ≤ day) (h1 : day < a + n) (hy : ∀ d, beg c y d = (d == day)) :
    ∃ A B, sps (cm c y) a n = A ++ (⟨fr c y day, tt c y day, y.m, y.p⟩ : Sp.Sp) :: B ∧ sps c a n = A ++ B := by
  obtain ⟨k, hk⟩ : ∃ k : Nat, a + k = day := ⟨(day - a).toNat, by omega⟩
  obtain ⟨m, hm⟩ : ∃ m : Nat, n = k + (1 + m) := ⟨n - k - 1, by omega⟩
  refine ⟨sps c a k ++ dw c day c.ws, sps c (day + 1) m, ?_, ?_⟩
  · rw [hm, sps_add, sps_add, sps_none c y a k (fun d d0 d1 => by rw [hy]; simp; omega), show a + (k : Int) = day by omega, show day + ((1 : Nat) : Int) = day + 1 by omega, sps_none c y (day + 1) m (fun d d0 d1 => by rw [hy]; simp; omega)]
    have e : sps (cm c y) day 1 = dw (cm c y) day (cm c y).ws := by
      have : sps (cm c y) day 1 = [] ++ dw (cm c y) (day + ((0 : Nat) : Int)) (cm c y).ws := rfl
      rw [this, show day + ((0 : Nat) : Int) = day by omega]
      rfl
    rw [e, dw_over, hy, if_pos (by simp)]
    simp
  · rw [hm, sps_add, sps_add, show a + (k : Int) = day by omega, show day + ((1 : Nat) : Int) = day + 1 by omega]
    have e : sps c day 1 = dw c day c.ws := by
      have : sps c day 1 = [] ++ dw c (day + ((0 : Nat) : Int)) c.ws := rfl
      rw [this, show day + ((0 : Nat) : Int) = day by omega]
      rfl
    rw [e]
    simp

/-- The weightiest one of a configuration whose windows are all lighter than one that it has more. -/
theorem best_over (c : Cg) (y : Wn) (day a : Int) (n : Nat) (t : Int) (h0 : a ≤ day) (h1 : day < a + n) (hy : ∀ d, beg c y d = (d == day)) (hp : ∀ x ∈ c.ws, x.p < y.p) :
    best (sps (cm c y) a n) t = if fr c y day ≤ t ∧ t < tt c y day then some ⟨fr c y day, tt c y day, y.m, y.p⟩ else best (sps c a n) t := by
  obtain ⟨A, B, e1, e2⟩ := sps_over c y day a n h0 h1 hy
  have low : ∀ u ∈ sps c a n, u.p < y.p := by
    intro u hu
    obtain ⟨d, _, _, h⟩ := sps_mem hu
    obtain ⟨x, hx, _, rfl⟩ := dw_mem h
    exact hp x hx
  rw [e2] at low
  rw [e1, e2, best_one A B _ t (fun u hu => low u (List.mem_append_left _ hu)) (fun u hu => low u (List.mem_append_right _ hu))]
  by_cases g : fr c y day ≤ t ∧ t < tt c y day
  · rw [if_pos g, if_pos ((inn_iff _ _).2 g)]
  · rw [if_neg g, if_neg (fun k => g ((inn_iff _ _).1 k))]

/-- A week from a day's beginning on. -/
def wk (day : Int) : Wn := ⟨2, 4, 99, day, 0, 0, 10080⟩

theorem wk_beg (c : Cg) (day d : Int) : beg c (wk day) d = (d == day) := by
  unfold beg
  rw [if_neg (show ¬ (wk day).k = 1 by simp [wk]), if_pos (show (wk day).k = 2 from rfl)]
  rfl

theorem wk_may (day : Int) (h0 : 401 ≤ day) (h1 : day ≤ 3651998) : wo (wk day) = true := by
  rw [Conf.wo_iff]
  refine ⟨⟨by simp [wk], by simp [wk], by simp [wk], by simp [wk]⟩, .inr (.inl ⟨rfl, ?_, h0, h1, rfl⟩)⟩
  rw [Conf.tmB_iff]
  exact ⟨by simp [wk], by simp [wk], by simp [wk], by simp [wk]⟩

theorem wk_span (c : Cg) (day : Int) : fr c (wk day) day = mv c.z (day * 1440) ∧ tt c (wk day) day = mv c.z (day * 1440) + 10080 := by
  have e : day * 1440 + (wk day).u = day * 1440 := by show day * 1440 + 0 = _; omega
  unfold fr tt
  rw [if_neg (show ¬ (wk day).k = 4 by simp [wk]), if_neg (show ¬ (wk day).k = 4 by simp [wk]), e]
  exact ⟨rfl, rfl⟩

/-- Within a week from a day's beginning on clocks tell that day or one of the next eight. -/
theorem wk_near (z : Zn) (hz : May z) (day t : Int) (h1 : 402 ≤ day) (h2 : day ≤ 3651980) (a : mv z (day * 1440) ≤ t) (b : t ≤ mv z (day * 1440) + 10080) : day - 1 ≤ td z t / 1440 ∧ td z t / 1440 ≤ day + 8 := by
  have hz' := hz
  unfold May at hz'
  rcases mv_ways z hz (day * 1440) (by omega) (by omega) with ⟨_, e⟩ | ⟨_, _, e⟩ | ⟨_, _, e1, e2, _, _⟩ <;> rcases td_cases z t with ⟨_, e'⟩ | ⟨_, e'⟩ <;> rw [e'] <;> omega

end Go.Proofs.YtihdijkplmfhfaaGreatDoor.Tab
