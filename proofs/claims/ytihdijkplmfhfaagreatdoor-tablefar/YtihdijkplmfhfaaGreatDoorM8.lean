/-
  Texts of mine, merged: each part says what it holds. Conditions: as each theorem states.
-/
import Derived.Laws.CopyOwn
import Derived.Laws.AppendOwnNone
import Derived.Laws.OwnMore
import Derived.Maps.AppendAt
import Derived.RangeFuncBox
import Derived.Test.YtihdijkplmfhfaaGreatDoorM7

/- The last day of rest in a row, by the program: its walk over days without an end, that the loop's body must leave. Conditions: the day lies among those that have Hebrew dates; the row's length is named ahead. -/
namespace Go.Proofs.YtihdijkplmfhfaaGreatDoor.Feast
set_option maxRecDepth 100000
open Go.ChangeShapes Go.WideShapes Go.ChangeAt Go.RowKit Go.Shelf
open Go.Proofs.YtihdijkplmfhfaaGreatDoor.Divs Go.Proofs.YtihdijkplmfhfaaGreatDoor.Grow Go.Proofs.YtihdijkplmfhfaaGreatDoor.Mol Go.Proofs.YtihdijkplmfhfaaGreatDoor.Hebrew
open Go.Proofs.YtihdijkplmfhfaaGreatDoor.Year (lh mh pt md mp p1 p2 po dl ny yl)
open Go.Proofs.YtihdijkplmfhfaaGreatDoor.Fe

attribute [local go_sem] Oper.semAt_some

theorem beyond_any (n t : Int) (w : World) :
    Calls Tryz.prog 238 #[.int .i64 n, .int .i64 t] w fun e w' => e = .returned (.func (.func 240) #[] #[.pointer (some ⟨w.heap.size, 0, none⟩), .pointer (some ⟨w.heap.size + 1, 0, none⟩)]) ∧ w' = (w.alloc (.cells #[.int .i64 n] 3)).alloc (.cells #[.int .i64 t] 3) := by
  go_enter Tryz.func238, Tryz.ntmps238
  go_wp2
  go_ret
  exact ⟨rfl, rfl⟩

set_option maxRecDepth 100000 in
set_option maxHeartbeats 2000000 in
/-- The walk without an end: it ends where the body must leave ahead of the round N. -/
theorem beyond1_in (n : Nat) (hn : 1 ≤ n) (s t : Int) (ht : t = 1 ∨ t = -1) (s0 : -20000000 ≤ s) (s1 : s ≤ 20000000) (lo B C N : Nat) (N0 : N ≤ 40000000) (J : Nat → World → Prop) (Jx : World → Prop) (W : World)
    (hN : ∀ k W, J k W → k < N)
    (hc : ∀ k W, J k W → W.cell? ⟨B, 0, none⟩ = some (.int .i64 s) ∧ W.cell? ⟨C, 0, none⟩ = some (.int .i64 t))
    (hY : ∀ (k : Nat) W, J k W → YieldAt Fence.wide (n - 1) Tryz.prog lo #[.int .i64 (s + t * (k + 1))] W fun e W' => (e = .returned (.bool true) ∧ J (k + 1) W') ∨ (e = .returned (.bool false) ∧ Jx W'))
    (h0 : J 0 W) :
    CallsIn Fence.wide n Tryz.prog 240 #[.func (.yield lo) #[] #[], .pointer (some ⟨B, 0, none⟩), .pointer (some ⟨C, 0, none⟩)] W fun e W' => (∃ v, e = .returned v) ∧ Jx W' := by
  obtain ⟨c1, c2⟩ := hc 0 W h0
  have HC := Lib.hid hc
  have HN := Lib.hid hN
  have HY := Lib.hid hY
  have H0 := Lib.hid h0
  clear hc hN hY h0
  have e1 : wrap64 (s + t) = s + t * ((0 : Nat) + 1) := by
    rw [IntWalk.wrap64_in _ (by omega)]
    simp
  refine callsIn_of_wp Tryz.func240 rfl trivial ?_ rfl
  simp only [Tryz.ntmps240, List.size_toArray, List.length_cons, List.length_nil, Nat.reduceAdd, Nat.reduceSub, Array.replicate_succ, Array.replicate_zero, List.push_toArray, List.append_toArray, List.nil_append, List.cons_append]
  gi_wp2
  gi_loopw [4] (fun i wr => ∃ k : Nat, i = .int .i64 (s + t * (k + 1)) ∧ J k wr) (fun i _ => (N + 1 - (intOf i - s) * t).toNat)
  case atStart => exact ⟨0, by first | rfl | (rw [e1]) | (congr 1; simp), H0.out⟩
  case round =>
    obtain ⟨k, rfl, hJ⟩ := hrel
    have kN := HN.out k _ hJ
    obtain ⟨fn, tmps, assign, body, hy, hR⟩ := HY.out k _ hJ
    have HJ := Lib.hid hJ
    clear hJ c1 c2
    gi_wp2
    refine hR.mono ?_
    rintro e W3 (⟨rfl, hJ3⟩ | ⟨rfl, hJx3⟩)
    · obtain ⟨c1, c2⟩ := HC.out _ _ hJ3
      have b0 : -9223372036854775808 ≤ s + t * (k + 1) + t ∧ s + t * (k + 1) + t ≤ 9223372036854775807 := by rcases ht with rfl | rfl <;> omega
      gi_wp2
      go_roundw
      case rel => exact ⟨k + 1, by congr 1; rcases ht with rfl | rfl <;> (push_cast; omega), hJ3⟩
      case measure => simp [intOf]; rcases ht with rfl | rfl <;> omega
    · gi_wp2
      go_end0
      exact ⟨⟨_, rfl⟩, hJx3⟩

/-- A loop over an iterator, met at its start: the iterator is called with yield, the loop's record lies at the end. -/
theorem range_start {P : Program} {n : Nat} {g : Operand} {ps : Array Tmp} {assign body : Code} {Q : Exit → Act → World → Prop} {a : Act} {w : World} {gf : Nat} {lb : Array Value}
    (hg : a.eval g = .func (.func gf) #[] lb) (eg : ∀ args w, (callFunc gf args).run P w = .ok (.enter gf args) w)
    (h : ∀ L : Loop, L.state = .ready → L.pending = none → L.params = ps → L.tmps = a.tmps → L.assign = assign → L.body = body →
      CallsIn Fence.wide (n - 1) P gf (#[.func (.yield (w.heap.size + 1)) #[] #[]] ++ lb) ((w.alloc (.deferred (some []))).alloc (.loop L))
        (rangePost Fence.wide n P (w.heap.size + 1) Q { a with defers := { target := .collected w.heap.size, args := #[] } :: a.defers })) :
    (Code.rangeFunc g ps assign body).wpIn Fence.wide n P Q a w := by
  refine wpIn_rangeFunc fun fn _ => ?_
  obtain ⟨L, hL⟩ : ∃ L : Loop, L = { state := .ready, pending := none, fn, tmps := a.tmps, params := ps, assign, body, defers := w.heap.size } := ⟨_, rfl⟩
  have k := h L (by rw [hL]) (by rw [hL]) (by rw [hL]) (by rw [hL]) (by rw [hL]) (by rw [hL])
  have e := run_enterLoop_outer (P := P) (w := w) fn a.tmps ps assign body
  rw [← hL] at e
  refine ⟨w.heap.size + 1, [{ target := .collected w.heap.size, args := #[] }], (w.alloc (.deferred (some []))).alloc (.loop L), { target := .fn (.func gf) lb, args := #[.func (.yield (w.heap.size + 1)) #[] #[]] }, (w.alloc (.deferred (some []))).alloc (.loop L), gf, #[.func (.yield (w.heap.size + 1)) #[] #[]] ++ lb, (w.alloc (.deferred (some []))).alloc (.loop L), e, ?_, ?_, ?_, ?_, ?_⟩
  · simp only [resolve, hg]
    simp [go_sem]
  · exact fun _ _ => trivial
  · simp [invoke, go_sem, eg]
  · intro hx
    cases hx
  · simp only [List.cons_append, List.nil_append]
    exact k

/-- One round, out of the walks of what it assigns and of its body. -/
theorem yield_of {P : Program} {m l : Nat} {args : Array Value} {W : World} {R : Ending → World → Prop} {L : Loop} (hl : W.heap[l]? = some (.loop L)) (hn : args.size = L.params.size)
    (h : L.assign.wpIn (Fence.wide.inRound l) m P (Exit.then (fun a1 w1 => ∃ w2, (Instr.beginRound l).run P w1 = .ok () w2 ∧ L.body.wpIn (Fence.wide.inRound l) m P (roundPost P l R) a1 w2) (fun _ _ _ => False))
      { tmps := (L.params.zip args).foldl (fun tmps (t, a) => tmps.setIfInBounds t a) L.tmps, defers := [] } W) : YieldAt Fence.wide m P l args W R :=
  ⟨L.fn, _, L.assign, L.body, run_yield hl hn, roundIn_of_wpIn trivial h⟩

/-- What the loop over the days keeps between two rounds, k days of rest having come. -/
def LW (w : World) (n t : Int) (r k0 : Nat) (L : Loop) (k : Nat) (W : World) : Prop :=
  k ≤ k0 ∧ W.cell? ⟨w.heap.size, 0, none⟩ = some (.func (.func 237) #[] #[.pointer (some ⟨r, 0, none⟩)]) ∧
  W.heap[w.heap.size + 1]? = some (.cells #[.int .i64 (n + t * k)] 3 (0, 0)) ∧
  W.cell? ⟨w.heap.size + 1 + 1, 0, none⟩ = some (.int .i64 n) ∧ W.cell? ⟨w.heap.size + 1 + 1 + 1, 0, none⟩ = some (.int .i64 t) ∧
  W.heap[w.heap.size + 1 + 1 + 1 + 1]? = some (.deferred (some [])) ∧ W.heap[w.heap.size + 1 + 1 + 1 + 1 + 1]? = some (.loop L) ∧ Below w.heap.size w W

theorem LW.put {w : World} {n t : Int} {r k0 : Nat} {L L' : Loop} {k : Nat} {W : World} (h : LW w n t r k0 L k W) : LW w n t r k0 L' k (W.putObj (w.heap.size + 1 + 1 + 1 + 1 + 1) (.loop L')) := by
  obtain ⟨x0, x1, x2, x3, x4, x5, x6, x7⟩ := h
  have o : ∀ b, b ≠ w.heap.size + 1 + 1 + 1 + 1 + 1 → (W.putObj (w.heap.size + 1 + 1 + 1 + 1 + 1) (.loop L')).heap[b]? = W.heap[b]? := fun b hb => World.putObj_heap_other (by omega)
  refine ⟨x0, (World.cell?_of_block (o _ (by dsimp only; omega))).trans x1, (o _ (by omega)).trans x2, (World.cell?_of_block (o _ (by dsimp only; omega))).trans x3, (World.cell?_of_block (o _ (by dsimp only; omega))).trans x4, (o _ (by omega)).trans x5, World.putObj_heap_same (Array.getElem?_eq_some_iff.1 x6).1, ?_⟩
  exact belowK_b (w := w) (Nat.le_refl _) W _ _ _ (by omega) x6 rfl rfl |> x7.trans

theorem LW.later {w : World} {n t : Int} {r k0 : Nat} {L : Loop} {k : Nat} {W W' : World} (h : LW w n t r k0 L k W) (g : Later W W') : LW w n t r k0 L k W' := by
  obtain ⟨x0, x1, x2, x3, x4, x5, x6, x7⟩ := h
  have o : ∀ b v, W.heap[b]? = some v → W'.heap[b]? = some v := fun b v e => (g.2.2.2 b (Array.getElem?_eq_some_iff.1 e).1).trans e
  exact ⟨x0, gsome g x1, o _ _ x2, gsome g x3, gsome g x4, o _ _ x5, o _ _ x6, x7.trans (g.below.mono x7.size)⟩

theorem LW.step {w : World} {n t : Int} {r k0 : Nat} {L : Loop} {k : Nat} {W : World} (h : LW w n t r k0 L k W) (hk : k < k0) : LW w n t r k0 L (k + 1) (W.setCell ⟨w.heap.size + 1, 0, none⟩ (.int .i64 (n + t * (k + 1)))) := by
  obtain ⟨x0, x1, x2, x3, x4, x5, x6, x7⟩ := h
  have o : ∀ b, b ≠ w.heap.size + 1 → (W.setCell ⟨w.heap.size + 1, 0, none⟩ (.int .i64 (n + t * (k + 1)))).heap[b]? = W.heap[b]? := fun b hb => Below.heap_setCell _ _ _ _ hb
  refine ⟨hk, (World.cell?_of_block (o _ (by dsimp only; omega))).trans x1, ?_, (World.cell?_of_block (o _ (by dsimp only; omega))).trans x3, (World.cell?_of_block (o _ (by dsimp only; omega))).trans x4, (o _ (by omega)).trans x5, (o _ (by omega)).trans x6, x7.setCell (by simp) _⟩
  have z := Boxed.set (.int .i64 (n + t * (k + 1))) (show Boxed W (w.heap.size + 1) 3 _ from x2)
  push_cast
  exact z

set_option maxRecDepth 100000 in
set_option maxHeartbeats 4000000 in
theorem lastwhile_any (n t : Int) (k0 r : Nat) (ab : Bool) (w : World) (ht : t = 1 ∨ t = -1) (n0 : ny 3762 ≤ n) (n1 : n < ny 10000)
    (hk : ∀ i : Nat, 1 ≤ i → i ≤ k0 → rst ab (n + t * i) = true) (hz : rst ab (n + t * (k0 + 1)) = false) (hr : RB w r ab) :
    Calls Tryz.prog 235 #[.func (.func 237) #[] #[.pointer (some ⟨r, 0, none⟩)], .int .i64 n, .int .i64 t] w fun e w' => e = .returned (.int .i64 (n + t * k0)) ∧ Later w w' := by
  have b1 := Year.ny_bd 3762 (by omega) (by omega)
  have b2 := Year.ny_bd 10000 (by omega) (by omega)
  have kb : k0 ≤ 30000000 := by
    by_cases c : k0 = 0
    · omega
    · have := (rst_iff ab _).1 (hk k0 (by omega) (Nat.le_refl _))
      rcases ht with rfl | rfl <;> omega
  have HK := Lib.hid hk
  have HZ := Lib.hid hz
  have HR := Lib.hid hr
  have NB := Lib.hid (show -10000000 ≤ n ∧ n ≤ 10000000 by omega)
  have M := Lib.hid (fun W => beyond_any n t W)
  clear hk hz hr n0 n1 b1 b2
  refine (callsIn_wide (n := 5)).1 ?_
  refine callsIn_of_wp_marks Tryz.func235 rfl trivial ?_ rfl
  simp only [Tryz.ntmps235, List.size_toArray, List.length_cons, List.length_nil, Nat.reduceAdd, Nat.reduceSub, Array.replicate_succ, Array.replicate_zero, List.push_toArray, List.append_toArray, List.nil_append, List.cons_append]
  gi_wp2_with (refine ⟨trivial, ?_⟩; gi_at_call 238; refine (callsIn_wide.2 (M.out _)).mono ?_; rintro e w1 ⟨rfl, rfl⟩)
  obtain ⟨W0, hW0⟩ : ∃ W0, ((((w.alloc (.cells #[.func (.func 237) #[] #[.pointer (some ⟨r, 0, none⟩)]] 79)).alloc (.cells #[.int .i64 n] 3)).alloc (.cells #[.int .i64 n] 3)).alloc (.cells #[.int .i64 t] 3)) = W0 := ⟨_, rfl⟩
  have hs0 : W0.heap.size = w.heap.size + 1 + 1 + 1 + 1 := by rw [← hW0]; simp
  have hB0 : Below w.heap.size w W0 := by
    rw [← hW0]
    exact ((((Below.refl _ w).alloc (Nat.le_refl _) _).alloc (by simp) _).alloc (by simp; omega) _).alloc (by simp; omega) _
  have l3 : Later ((((w.alloc (.cells #[.func (.func 237) #[] #[.pointer (some ⟨r, 0, none⟩)]] 79)).alloc (.cells #[.int .i64 n] 3)).alloc (.cells #[.int .i64 n] 3)).alloc (.cells #[.int .i64 t] 3)) W0 := by rw [hW0]; exact Later.refl _
  have l2 := gtrans ((Later.refl (((w.alloc (.cells #[.func (.func 237) #[] #[.pointer (some ⟨r, 0, none⟩)]] 79)).alloc (.cells #[.int .i64 n] 3)).alloc (.cells #[.int .i64 n] 3))).put (.cells #[.int .i64 t] 3)) l3
  have l1 := gtrans ((Later.refl ((w.alloc (.cells #[.func (.func 237) #[] #[.pointer (some ⟨r, 0, none⟩)]] 79)).alloc (.cells #[.int .i64 n] 3))).put (.cells #[.int .i64 n] 3)) l2
  have l0 := gtrans ((Later.refl (w.alloc (.cells #[.func (.func 237) #[] #[.pointer (some ⟨r, 0, none⟩)]] 79))).put (.cells #[.int .i64 n] 3)) l1
  have hq : ∀ L : Loop, LW w n t r k0 L 0 ((W0.alloc (.deferred (some []))).alloc (.loop L)) := by
    intro L
    have g1 : Later W0 ((W0.alloc (.deferred (some []))).alloc (.loop L)) := ((Later.refl W0).put _).put _
    refine ⟨Nat.zero_le _, cell4 (gtrans l0 g1) 0 rfl, ?_, cellN (gtrans l2 g1) (by simp) 0 rfl, cellN (gtrans l3 g1) (by simp) 0 rfl, ?_, ?_, ?_⟩
    · have := heap_late (gtrans l1 g1)
      simp only [World.size_alloc] at this
      simpa using this
    · rw [← hs0]
      exact (Below.heap_alloc _ _ _ (by simp)).trans (World.alloc_heap_new W0 _)
    · rw [← hs0]
      have := World.alloc_heap_new (W0.alloc (.deferred (some []))) (.loop L)
      rwa [World.size_alloc] at this
    · exact hB0.trans (g1.below.mono hB0.size)
  rw [hW0]
  clear hW0 l0 l1 l2 l3 hB0
  refine range_start (gf := 240) rfl (enters_of Tryz.func240 (by kernel_rfl) rfl) ?_
  intro L h1 h2 h3 h4 h5 h6
  have HQ := Lib.hid (hq L)
  clear hq
  rw [hs0]
  have step : ∀ (k : Nat) W, LW w n t r k0 L k W → YieldAt Fence.wide (5 - 1 - 1) Tryz.prog (w.heap.size + 1 + 1 + 1 + 1 + 1) #[.int .i64 (n + t * (k + 1))] W fun e W' =>
      (e = .returned (.bool true) ∧ LW w n t r k0 L (k + 1) W') ∨ (e = .returned (.bool false) ∧ ∃ L' : Loop, L'.state ≠ .busy ∧ L'.pending = some (.exit 0) ∧ LW w n t r k0 L' k0 W') := by
    intro k W hW
    refine yield_of hW.2.2.2.2.2.2.1 (by rw [h3]; rfl) ?_
    rw [h3, h4, h5, h6]
    have H1 := Lib.hid h1
    have H2 := Lib.hid h2
    have HW := Lib.hid hW
    clear h1 h2 h3 h4 h5 h6 hW HQ M
    gi_wp2
    refine ⟨_, run_beginRound HW.out.2.2.2.2.2.2.1 H1.out, ?_⟩
    obtain ⟨Wb, hWb⟩ : ∃ Wb, W.putObj (w.heap.size + 1 + 1 + 1 + 1 + 1) (.loop { L with state := .busy }) = Wb := ⟨_, rfl⟩
    rw [hWb]
    have HV := Lib.hid (show LW w n t r k0 { L with state := .busy } k Wb from hWb ▸ HW.out.put)
    clear hWb
    have hb := NB.out
    have kk := HV.out.1
    have db : -9223372036854775808 ≤ n + t * (k + 1) ∧ n + t * (k + 1) ≤ 9223372036854775807 := by rcases ht with rfl | rfl <;> omega
    have R := Lib.hid (rests1_any (n + t * (k + 1)) r ab Wb db.1 db.2 (HR.out.later (Later.of_below HV.out.2.2.2.2.2.2.2)))
    have c0 := HV.out.2.1
    by_cases hk : k < k0
    · have E := HK.out (k + 1) (by omega) (by omega)
      push_cast at E
      rw [E] at R
      clear E db hb kk
      gi_wp2_with (refine ⟨trivial, ?_⟩; gi_at_call 237; refine (CallsIn.inRound _ (callsIn_wide.2 R.out)).mono ?_; rintro e w3 ⟨rfl, hg3⟩; have HX := Lib.hid (HV.out.later hg3); have c1 := (show Boxed w3 (w.heap.size + 1) 3 _ from HX.out.2.2.1).cell; have f1 := (show Boxed w3 (w.heap.size + 1) 3 _ from HX.out.2.2.1).frozen; clear hg3 c0)
      refine ⟨_, _, run_endRound none ((HX.out.step hk).2.2.2.2.2.2.1), .inl ⟨rfl, ?_⟩⟩
      have := (HX.out.step hk).put (L' := L)
      have e : ({ { L with state := .busy } with state := if (none : Option Code).isNone then .ready else .done, pending := none } : Loop) = L := by
        have a1 := H1.out
        have a2 := H2.out
        cases L
        simp_all
      rw [e]
      exact this
    · obtain rfl : k = k0 := by omega
      rw [HZ.out] at R
      clear db hb kk
      gi_wp2_with (refine ⟨trivial, ?_⟩; gi_at_call 237; refine (CallsIn.inRound _ (callsIn_wide.2 R.out)).mono ?_; rintro e w3 ⟨rfl, hg3⟩; have HX := Lib.hid (HV.out.later hg3); clear hg3 c0)
      refine ⟨_, _, run_endRound (some (.exit 0)) HX.out.2.2.2.2.2.2.1, .inr ⟨rfl, _, ?_, ?_, HX.out.put⟩⟩
      · simp
      · rfl
  have STEP := Lib.hid step
  clear step
  have hb := NB.out
  refine (beyond1_in (5 - 1) (by omega) n t ht (by omega) (by omega) (w.heap.size + 1 + 1 + 1 + 1 + 1) (w.heap.size + 1 + 1) (w.heap.size + 1 + 1 + 1) (k0 + 1) (by omega) (LW w n t r k0 L) (fun W' => ∃ L' : Loop, L'.state ≠ .busy ∧ L'.pending = some (.exit 0) ∧ LW w n t r k0 L' k0 W') _
    (fun k W h => by have := h.1; omega) (fun k W h => ⟨h.2.2.2.1, h.2.2.2.2.1⟩) STEP.out HQ.out).mono ?_
  clear STEP HQ h1 h2 h3 h4 h5 h6
  rintro e W2 ⟨⟨v, rfl⟩, L', p1, p2, hX⟩
  refine ⟨_, _, run_endLoop hX.2.2.2.2.2.2.1 p1, ?_⟩
  obtain ⟨W3, hW3⟩ : ∃ W3, W2.putObj (w.heap.size + 1 + 1 + 1 + 1 + 1) (.loop { L' with state := .exhausted }) = W3 := ⟨_, rfl⟩
  rw [hW3, p2]
  have HV := Lib.hid (show LW w n t r k0 { L' with state := .exhausted } k0 W3 from hW3 ▸ hX.put)
  clear hW3 hX p1 p2
  have c1 := (show Boxed W3 (w.heap.size + 1) 3 _ from HV.out.2.2.1).cell
  show (Code.exit 0).wpIn Fence.wide 5 Tryz.prog _ _ W3
  gi_wp2
  refine ⟨by simp, .inl ⟨_, _, rfl, run_takeDeferred HV.out.2.2.2.2.2.1, ?_⟩⟩
  exact ⟨_, results_tmp rfl _ _ _, rfl, Later.of_below (HV.out.2.2.2.2.2.2.2.trans (belowK_b (w := w) (Nat.le_refl _) W3 _ _ _ (by omega) HV.out.2.2.2.2.2.1 rfl rfl))⟩

/-- The days of rest that touch day n. -/
def Row (ab : Bool) (n a b : Int) : Prop := a ≤ n ∧ n ≤ b ∧ (∀ d, a ≤ d → d ≤ b → rst ab d = true) ∧ rst ab (a - 1) = false ∧ rst ab (b + 1) = false

theorem row_len (ab : Bool) (n a b : Int) (h : Row ab n a b) : b - a ≤ 2 := by
  obtain ⟨h1, h2, h3, h4, h5⟩ := h
  by_cases c : b - a ≤ 2
  · exact c
  · exfalso
    exact no_four ab a (h3 _ (by omega) (by omega)) (h3 _ (by omega) (by omega)) (h3 _ (by omega) (by omega)) (h3 _ (by omega) (by omega))

theorem row_one (ab : Bool) (n n' a b a' b' : Int) (h : Row ab n a b) (h' : Row ab n' a' b') (x1 : a ≤ n') (x2 : n' ≤ b) : a' = a ∧ b' = b := by
  obtain ⟨h1, h2, h3, h4, h5⟩ := h
  obtain ⟨k1, k2, k3, k4, k5⟩ := h'
  refine ⟨?_, ?_⟩
  · by_cases c : a' < a
    · have := k3 (a - 1) (by omega) (by omega)
      rw [h4] at this
      cases this
    · by_cases c' : a < a'
      · have := h3 (a' - 1) (by omega) (by omega)
        rw [k4] at this
        cases this
      · omega
  · by_cases c : b < b'
    · have := k3 (b + 1) (by omega) (by omega)
      rw [h5] at this
      cases this
    · by_cases c' : b' < b
      · have := h3 (b' + 1) (by omega) (by omega)
        rw [k5] at this
        cases this
      · omega

theorem row_ex (ab : Bool) (n : Int) (h : rst ab n = true) : ∃ a b, Row ab n a b := by
  have up : ∃ b, n ≤ b ∧ (∀ d, n ≤ d → d ≤ b → rst ab d = true) ∧ rst ab (b + 1) = false := by
    cases e1 : rst ab (n + 1)
    · exact ⟨n, by omega, fun d _ _ => by rw [show d = n by omega]; exact h, e1⟩
    · cases e2 : rst ab (n + 2)
      · refine ⟨n + 1, by omega, fun d _ _ => ?_, by rw [show n + 1 + 1 = n + 2 by omega]; exact e2⟩
        rcases (show d = n ∨ d = n + 1 by omega) with rfl | rfl <;> assumption
      · cases e3 : rst ab (n + 3)
        · refine ⟨n + 2, by omega, fun d _ _ => ?_, by rw [show n + 2 + 1 = n + 3 by omega]; exact e3⟩
          rcases (show d = n ∨ d = n + 1 ∨ d = n + 2 by omega) with rfl | rfl | rfl <;> assumption
        · exact (no_four ab n h e1 e2 e3).elim
  have down : ∃ a, a ≤ n ∧ (∀ d, a ≤ d → d ≤ n → rst ab d = true) ∧ rst ab (a - 1) = false := by
    cases e1 : rst ab (n - 1)
    · exact ⟨n, by omega, fun d _ _ => by rw [show d = n by omega]; exact h, e1⟩
    · cases e2 : rst ab (n - 2)
      · refine ⟨n - 1, by omega, fun d _ _ => ?_, by rw [show n - 1 - 1 = n - 2 by omega]; exact e2⟩
        rcases (show d = n ∨ d = n - 1 by omega) with rfl | rfl <;> assumption
      · cases e3 : rst ab (n - 3)
        · refine ⟨n - 2, by omega, fun d _ _ => ?_, by rw [show n - 2 - 1 = n - 3 by omega]; exact e3⟩
          rcases (show d = n ∨ d = n - 1 ∨ d = n - 2 by omega) with rfl | rfl | rfl <;> assumption
        · exact (no_four ab (n - 3) e3 (by rw [show n - 3 + 1 = n - 2 by omega]; exact e2) (by rw [show n - 3 + 2 = n - 1 by omega]; exact e1) (by rw [show n - 3 + 3 = n by omega]; exact h)).elim
  obtain ⟨b, b1, b2, b3⟩ := up
  obtain ⟨a, a1, a2, a3⟩ := down
  refine ⟨a, b, a1, b1, fun d d1 d2 => ?_, a3, b3⟩
  by_cases c : d ≤ n
  · exact a2 d d1 c
  · exact b2 d (by omega) d2

theorem run_no (n : Int) (ab : Bool) (w : World) (h0 : -9223372036854775808 ≤ n) (h1 : n ≤ 9223372036854775807) (h : rst ab n = false) :
    Calls Tryz.prog 232 #[.int .i64 n, .bool ab] w fun e w' => e = .returned (.tuple #[.int .i64 0, .int .i64 0, .int .i64 51]) ∧ Later w w' := by
  have F := Lib.hid (fun W => rests_any ab W)
  have H := Lib.hid h
  clear h
  go_enter Tryz.func232, Tryz.ntmps232
  go_wp2_with fail
  refine (F.out _).mono ?_
  rintro e w1 ⟨r, rfl, _, hR, hg1⟩
  have HR := Lib.hid hR
  have HG := Lib.hid hg1
  clear hR hg1
  go_wp2_with fail
  have R := rests1_any n r ab w1 h0 h1 HR.out
  rw [H.out] at R
  refine R.mono ?_
  rintro e w2 ⟨rfl, hg2⟩
  go_wp2_with fail
  go_ret3
  exact ⟨rfl, gtrans HG.out hg2⟩

set_option maxHeartbeats 1000000 in
theorem run_yes (n a b : Int) (ab : Bool) (w : World) (h : Row ab n a b) :
    Calls Tryz.prog 232 #[.int .i64 n, .bool ab] w fun e w' => e = .returned (.tuple #[.int .i64 a, .int .i64 b, .int .i64 0]) ∧ Later w w' := by
  have F := Lib.hid (fun W => rests_any ab W)
  have rl := row_len ab n a b h
  obtain ⟨x1, x2, x3, x4, x5⟩ := h
  have hn := x3 n x1 x2
  obtain ⟨n0, n1, _⟩ := (rst_iff ab n).1 hn
  have b1 := Year.ny_bd 3762 (by omega) (by omega)
  have b2 := Year.ny_bd 10000 (by omega) (by omega)
  obtain ⟨i, hi⟩ : ∃ i : Nat, (i : Int) = n - a := ⟨(n - a).toNat, by omega⟩
  obtain ⟨j, hj⟩ : ∃ j : Nat, (j : Int) = b - n := ⟨(b - n).toNat, by omega⟩
  have D := Lib.hid (fun r W (hW : RB W r ab) => lastwhile_any n (-1) i r ab W (.inr rfl) n0 n1 (fun q q1 q2 => x3 _ (by omega) (by omega)) (by rw [show n + -1 * ((i : Int) + 1) = a - 1 by omega]; exact x4) hW)
  have U := Lib.hid (fun r W (hW : RB W r ab) => lastwhile_any n 1 j r ab W (.inl rfl) n0 n1 (fun q q1 q2 => x3 _ (by omega) (by omega)) (by rw [show n + 1 * ((j : Int) + 1) = b + 1 by omega]; exact x5) hW)
  rw [show n + -1 * (i : Int) = a by omega] at D
  rw [show n + 1 * (j : Int) = b by omega] at U
  have R := Lib.hid (fun r W (hW : RB W r ab) => rests1_any n r ab W (by omega) (by omega) hW)
  rw [hn] at R
  clear x1 x2 x3 x4 x5 hn n0 n1 b1 b2 hi hj rl
  go_enter Tryz.func232, Tryz.ntmps232
  go_wp2_with fail
  refine (F.out _).mono ?_
  rintro e w1 ⟨r, rfl, _, hR, hg1⟩
  have HR := Lib.hid hR
  have HG := Lib.hid hg1
  clear hR hg1
  go_wp2_with fail
  refine (R.out r _ HR.out).mono ?_
  rintro e w2 ⟨rfl, hg2⟩
  have HG2 := Lib.hid hg2
  clear hg2
  go_wp2_with fail
  refine (D.out r _ (HR.out.later HG2.out)).mono ?_
  rintro e w3 ⟨rfl, hg3⟩
  have HG3 := Lib.hid hg3
  clear hg3
  go_wp2_with fail
  refine (U.out r _ (HR.out.later (gtrans HG2.out HG3.out))).mono ?_
  rintro e w4 ⟨rfl, hg4⟩
  go_wp2_with fail
  go_ret3
  exact ⟨rfl, gtrans (gtrans (gtrans HG.out HG2.out) HG3.out) hg4⟩

end Go.Proofs.YtihdijkplmfhfaaGreatDoor.Feast

/- Slices of bytes and of numbers, wherever they lie: cut, appended, made, compared. No condition but those that each theorem states. -/
namespace Go.Proofs.YtihdijkplmfhfaaGreatDoor.By
set_option maxRecDepth 100000
open Go.ChangeShapes Go.WideShapes Go.ChangeAt Go.RowKit
open Go.Proofs.YtihdijkplmfhfaaGreatDoor.Divs Go.Proofs.YtihdijkplmfhfaaGreatDoor.Grow

theorem info_byte : (Tryz.prog.info? 5).map (fun i => (i.zero, i.size, i.bytes)) = some (some (.int .u8 0), 1, 1) := by kernel_rfl

theorem info_int : (Tryz.prog.info? 3).map (fun i => (i.zero, i.size, i.bytes)) = some (some (.int .i64 0), 1, 8) := by kernel_rfl

/-- v is a slice of these numbers. -/
def Sk (k : IntKind) (W : World) (v : Value) (xs : List Int) : Prop :=
  ∃ (ad : Option Addr) (cap : Nat), v = .slice ad xs.length cap ∧ xs.length ≤ cap ∧ cap ≤ 9223372036854775807 ∧ (ad = none → cap = 0) ∧
    ∀ (i : Nat) (x : Int), xs[i]? = some x → ∃ b off, ad = some ⟨b, off, none⟩ ∧ W.cell? ⟨b, off + i, none⟩ = some (.int k x)

theorem Sk.later {k : IntKind} {W W' : World} {v : Value} {xs : List Int} (h : Sk k W v xs) (g : Later W W') : Sk k W' v xs := by
  obtain ⟨ad, cap, rfl, h1, h2, h3, h4⟩ := h
  refine ⟨ad, cap, rfl, h1, h2, h3, fun i x hx => ?_⟩
  obtain ⟨b, off, e, c⟩ := h4 i x hx
  exact ⟨b, off, e, gsome g c⟩

/-- The cells of a slice that has some. -/
theorem Sk.has {k : IntKind} {W : World} {v : Value} {xs : List Int} (h : Sk k W v xs) (hp : 0 < xs.length) :
    ∃ b off cap, v = .slice (some ⟨b, off, none⟩) xs.length cap ∧ xs.length ≤ cap ∧ cap ≤ 9223372036854775807 ∧ b < W.heap.size ∧ ∀ i, i < xs.length → W.cell? ⟨b, off + i, none⟩ = some (.int k (xs.getD i 0)) := by
  obtain ⟨ad, cap, rfl, h1, h2, h3, h4⟩ := h
  obtain ⟨b, off, rfl, c0⟩ := h4 0 (xs.getD 0 0) (by simp [hp])
  refine ⟨b, off, cap, rfl, h1, h2, World.block_lt_of_cell? _ _ c0, fun i hi => ?_⟩
  obtain ⟨b', off', e, c⟩ := h4 i (xs.getD i 0) (by simp [hi])
  simp at e
  obtain ⟨rfl, rfl⟩ := e
  exact c

theorem Sk.bare {k : IntKind} {W : World} {v : Value} (h : Sk k W v []) : ∃ ad cap, v = .slice ad 0 cap ∧ cap ≤ 9223372036854775807 ∧ (ad = none → cap = 0) := by
  obtain ⟨ad, cap, rfl, _, h2, h3, _⟩ := h
  exact ⟨ad, cap, rfl, h2, h3⟩

theorem Sk.len {k : IntKind} {W : World} {v : Value} {xs : List Int} (h : Sk k W v xs) : ∃ ad cap, v = .slice ad xs.length cap ∧ xs.length ≤ 9223372036854775807 := by
  obtain ⟨ad, cap, rfl, h1, h2, _⟩ := h
  exact ⟨ad, cap, rfl, by omega⟩

/-- A row that lies whole. -/
theorem Sk.row {k : IntKind} {W : World} {g : Nat} {t : TypeId} {fr : Nat × Nat} {xs : List Int} {cap : Nat} {cs : Array Value} (h : W.heap[g]? = some (.cells cs t fr)) (hc : ∀ (i : Nat) (x : Int), xs[i]? = some x → cs[i]? = some (.int k x)) (h1 : xs.length ≤ cap) (h2 : cap ≤ 9223372036854775807) :
    Sk k W (.slice (some ⟨g, 0, none⟩) xs.length cap) xs := by
  refine ⟨_, cap, rfl, h1, h2, by simp, fun i x hx => ⟨g, 0, rfl, ?_⟩⟩
  rw [Nat.zero_add]
  have := hc i x hx
  simp [World.cell?, h, this]

/-- Bytes that are 0. -/
def zb (n : Nat) : List Value := List.replicate n (.int .u8 0)

theorem add_zero (g j : Nat) : (⟨g, 0, none⟩ : Addr).add j = ⟨g, j, none⟩ := by
  unfold Addr.add
  split
  · rename_i h
    rw [h]
  · simp

/-- v is a slice of these numbers, its cells laid since the world had b blocks. -/
def SL (k : IntKind) (e : TypeId) (W : World) (b : Nat) (v : Value) (xs : List Int) : Prop := W.ownsRow b e 1 v xs.length (xs.map (Value.int k))

theorem SL.later {k : IntKind} {e : TypeId} {W W' : World} {b : Nat} {v : Value} {xs : List Int} (h : SL k e W b v xs) (g : Later W W') : SL k e W' b v xs :=
  World.ownsRow.kept h g.grownBy (by cases v.ownBlock <;> simp)

theorem later_grown {k : IntKind} {e : TypeId} {w a b : World} {v : Value} {xs : List Int} (g : Later w a) (f : SL k e a w.heap.size v xs) (h : a.grownBy b v.ownBlock) : Later w b :=
  Later.of_below (g.below.grown h g.size (fun j e => (World.ownsRow.lt f j e).1))

theorem SL.sk {k : IntKind} {e : TypeId} {W : World} {b : Nat} {v : Value} {xs : List Int} (h : SL k e W b v xs) : Sk k W v xs := by
  rcases h.2 with ⟨hv, h0⟩ | ⟨g, cap, cur, rfl, _, _, h1, h2, _⟩
  · obtain rfl : xs = [] := List.length_eq_zero_iff.1 h0
    exact ⟨none, 0, hv, by simp, by omega, by simp, by simp⟩
  · refine ⟨_, cap, rfl, h1, by simpa [maxLen] using h2, by simp, fun i x hx => ⟨g, 0, rfl, ?_⟩⟩
    have c := World.ownsRow.cells h (g := g) rfl i (.int k x) (by rw [List.getElem?_map, hx]; rfl)
    rw [add_zero] at c
    rw [Nat.zero_add]
    exact c

theorem SL.nil (k : IntKind) (e : TypeId) (W : World) (b : Nat) : SL k e W b (.slice none 0 0) [] := World.ownsRow_nil _ _ _ _

theorem sk_nil (k : IntKind) (W : World) : Sk k W (.slice none 0 0) [] := ⟨none, 0, rfl, by simp, by omega, by simp, by simp⟩

/-- A slice that owns bytes begins somewhere. -/
theorem SL.has {k : IntKind} {e : TypeId} {W : World} {b : Nat} {v : Value} {xs : List Int} (h : SL k e W b v xs) (hp : 0 < xs.length) :
    ∃ g cap, v = .slice (some ⟨g, 0, none⟩) xs.length cap ∧ ∀ j u, (xs.map (Value.int k))[j]? = some u → W.cell? ((⟨g, 0, none⟩ : Addr).add j) = some u := by
  rcases h.2 with ⟨_, h0⟩ | ⟨g, cap, cur, rfl, _⟩
  · omega
  · exact ⟨g, cap, rfl, World.ownsRow.cells h (g := g) rfl⟩

theorem SL.base {k : IntKind} {e : TypeId} {W : World} {b c : Nat} {v : Value} {xs : List Int} (h : SL k e W b v xs) (hb : c ≤ b) : SL k e W c v xs := by
  refine ⟨h.1, ?_⟩
  rcases h.2 with h | ⟨g, cap, cur, hv, h1, h2⟩
  · exact .inl h
  · exact .inr ⟨g, cap, cur, hv, Nat.le_trans hb h1, h2⟩

def IRel (xs ys : List Int) (w : World) (x : Value) (wr : World) : Prop := ∃ i k : Nat, i ≤ xs.length ∧ x = .int .i64 (i : Int) ∧ xs.take i = ys.take i ∧ wr = w.drewN k

theorem take_all (xs ys : List Int) (n : Nat) (hx : n = xs.length) (hl : xs.length = ys.length) (h : xs.take n = ys.take n) : xs = ys := by
  rw [List.take_of_length_le (by omega), List.take_of_length_le (by omega)] at h
  exact h

theorem take_on (xs ys : List Int) (i : Nat) (a : Int) (hx : xs[i]? = some a) (hy : ys[i]? = some a) (h : xs.take i = ys.take i) : xs.take (i + 1) = ys.take (i + 1) := by
  rw [List.take_add_one, List.take_add_one, h, hx, hy]

theorem bool_no {b : Bool} (h : ¬ b = true) : Ending.returned (.bool false) = .returned (.bool b) := by
  cases b
  · rfl
  · exact absurd rfl h

theorem bool_yes {b : Bool} (h : b = true) : Ending.returned (.bool true) = .returned (.bool b) := by rw [h]

/-- A row that has just been laid. -/
theorem sk_new (k : IntKind) (t : TypeId) (xs : List Int) (w : World) (hn : xs.length ≤ 1000) : Sk k (w.alloc (.cells (xs.map (Value.int k)).toArray t)) (.slice (some ⟨w.heap.size, 0, none⟩) xs.length xs.length) xs :=
  Sk.row (heap_alloc_new _ _) (fun i x hx => by simp [hx]) (Nat.le_refl _) (by omega)

/-- A slice as a source of cells: none, or they lie one behind the other. -/
theorem Sk.src {k : IntKind} {W : World} {v : Value} {xs : List Int} (h : Sk k W v xs) :
    (v = .slice none 0 0 ∧ xs = []) ∨ ∃ a cap, v = .slice (some a) xs.length cap ∧ ∀ j u, (xs.map (Value.int k))[j]? = some u → W.cell? (a.add j) = some u := by
  obtain ⟨ad, cap, rfl, h1, h2, h3, h4⟩ := h
  cases ad with
  | none =>
    obtain rfl := h3 rfl
    obtain rfl := List.length_eq_zero_iff.1 (Nat.le_zero.1 h1)
    exact .inl ⟨rfl, rfl⟩
  | some a =>
    refine .inr ⟨a, cap, rfl, fun j u hu => ?_⟩
    rw [List.getElem?_map] at hu
    cases e : xs[j]? with
    | none => rw [e] at hu; simp at hu
    | some x =>
      obtain ⟨b, off, ea, c⟩ := h4 j x e
      simp only [Option.some.injEq] at ea
      rw [e] at hu
      rw [ea, Go.WideShapes.add_plain, c]
      exact hu

/-- An empty slice that has just been made. -/
theorem SL.made (W0 w : World) (h : Later W0 w) : SL .u8 5 (w.alloc (.cells #[] 5)) W0.heap.size (.slice (some ⟨w.heap.size, 0, none⟩) 0 0) [] := by
  refine ⟨rfl, .inr ⟨w.heap.size, 0, #[], rfl, h.size, heap_alloc_new _ _, by simp, by simp, by simp, by simp⟩⟩

/-- A slice that begins its block, one of its numbers turned. -/
theorem Sk.set {k : IntKind} {W : World} {g n cap : Nat} {xs : List Int} (h : Sk k W (.slice (some ⟨g, 0, none⟩) n cap) xs) (i : Nat) (x : Int) (hi : i < xs.length) : Sk k (W.setCell ⟨g, i, none⟩ (.int k x)) (.slice (some ⟨g, 0, none⟩) n cap) (xs.set i x) := by
  obtain ⟨ad, cap', e, h1, h2, h3, h4⟩ := h
  simp only [Value.slice.injEq] at e
  obtain ⟨rfl, rfl, rfl⟩ := e
  refine ⟨_, _, by rw [List.length_set], by rw [List.length_set]; exact h1, h2, by simp, fun j y hy => ?_⟩
  refine ⟨g, 0, rfl, ?_⟩
  rw [Nat.zero_add]
  by_cases hj : j = i
  · subst hj
    obtain ⟨b, off, e, c⟩ := h4 j (xs.getD j 0) (by simp [hi])
    simp only [Option.some.injEq, Addr.mk.injEq, and_true] at e
    obtain ⟨rfl, rfl⟩ := e
    rw [Nat.zero_add] at c
    rw [World.cell?_setCell_same (h := c)]
    rw [List.getElem?_set_self hi] at hy
    simpa using hy
  · rw [List.getElem?_set_ne (by omega)] at hy
    obtain ⟨b, off, e, c⟩ := h4 j y hy
    simp only [Option.some.injEq, Addr.mk.injEq, and_true] at e
    obtain ⟨rfl, rfl⟩ := e
    rw [Nat.zero_add] at c
    rw [World.cell?_setCell_other (h := by intro e; simp only [Addr.mk.injEq, and_true, true_and] at e; omega)]
    exact c

/-- Bytes that have just been made. -/
theorem sk_made (W : World) (n : Nat) (h : n ≤ 100000) : Sk .u8 (W.alloc (.cells (zb n).toArray 5)) (.slice (some ⟨W.heap.size, 0, none⟩) n n) (List.replicate n 0) := by
  have := Sk.row (k := .u8) (xs := List.replicate n 0) (cap := n) (heap_alloc_new W (.cells (zb n).toArray 5)) (fun i x hx => by
    rw [List.getElem?_replicate] at hx
    split at hx
    · rename_i hi
      simp at hx
      subst hx
      simp [zb, hi]
    · simp at hx) (by simp) (by omega)
  simpa using this

end Go.Proofs.YtihdijkplmfhfaaGreatDoor.By

/- Plain facts on tables of sunsets, in whole numbers: which may be, the minute of a day, its instant, and what clocks tell then. No condition but those that each theorem states. -/
namespace Go.Proofs.YtihdijkplmfhfaaGreatDoor.Su
set_option maxRecDepth 100000
open Go.Proofs.YtihdijkplmfhfaaGreatDoor.Cal (dm yr om od)
open Go.Proofs.YtihdijkplmfhfaaGreatDoor.Zo

/-- Each minute is from 900 to 1320. -/
def okM (s : Nat → Int) : Prop := ∀ i, i < 12 → 900 ≤ s i ∧ s i ≤ 1320

/-- Each differs from the next one by 120 at most. -/
def okS (s : Nat → Int) : Prop := ∀ i, i < 12 → -120 ≤ s ((i + 1) % 12) - s i ∧ s ((i + 1) % 12) - s i ≤ 120

instance (s : Nat → Int) : Decidable (okM s) := by unfold okM; infer_instance
instance (s : Nat → Int) : Decidable (okS s) := by unfold okS; infer_instance

/-- The error of a table, or 0. -/
def sk (s : Nat → Int) : Int := if okM s then (if okS s then 0 else 71) else 70

theorem sk_ok (s : Nat → Int) : sk s = 0 ↔ okM s ∧ okS s := by
  unfold sk
  by_cases h : okM s
  · rw [if_pos h]
    by_cases k : okS s
    · rw [if_pos k]; simp [h, k]
    · rw [if_neg k]; simp [k]
  · rw [if_neg h]; simp [h]

theorem sk_m (s : Nat → Int) (k : Nat) (hk : k < 12) (h : ¬ (900 ≤ s k ∧ s k ≤ 1320)) : sk s = 70 := by
  unfold sk; rw [if_neg (fun g => h (g k hk))]

theorem sk_s (s : Nat → Int) (k : Nat) (hk : k < 12) (hm : okM s) (h : ¬ (-120 ≤ s ((k + 1) % 12) - s k ∧ s ((k + 1) % 12) - s k ≤ 120)) : sk s = 71 := by
  unfold sk; rw [if_pos hm, if_neg (fun g => h (g k hk))]

/-- The minutes of a day's month, and of the next one. -/
def ta (s : Nat → Int) (n : Int) : Int := s ((om n).toNat - 1)
def tb (s : Nat → Int) (n : Int) : Int := s ((om n).toNat % 12)

/-- The minute of a day. -/
def sa (s : Nat → Int) (n : Int) : Int := ta s n + (tb s n - ta s n) * (od n - 1) / dm (yr n) (om n)

/-- The error of a table and a day, and the minute, or 0. -/
def aE (s : Nat → Int) (n : Int) : Int := if sk s = 0 then (if 1 ≤ n ∧ n ≤ 3652059 then 0 else 72) else sk s
def aV (s : Nat → Int) (n : Int) : Int := if aE s n = 0 then sa s n else 0

/-- The error of a zone, a table and a day, and the instant, or 0. -/
def mE (z : Zn) (s : Nat → Int) (n : Int) : Int := if ck z = 0 then (if sk s = 0 then (if 401 ≤ n ∧ n ≤ 3651998 then 0 else 72) else sk s) else ck z
def mV (z : Zn) (s : Nat → Int) (n : Int) : Int := if mE z s n = 0 then n * 1440 + sa s n - z.b else 0

theorem aE_ok (s : Nat → Int) (n : Int) : aE s n = 0 ↔ sk s = 0 ∧ 1 ≤ n ∧ n ≤ 3652059 := by
  unfold aE
  by_cases h : sk s = 0
  · rw [if_pos h]; split <;> omega
  · rw [if_neg h]; omega

theorem mE_ok (z : Zn) (s : Nat → Int) (n : Int) : mE z s n = 0 ↔ ck z = 0 ∧ sk s = 0 ∧ 401 ≤ n ∧ n ≤ 3651998 := by
  unfold mE
  by_cases h0 : ck z = 0
  · rw [if_pos h0]
    by_cases h : sk s = 0
    · rw [if_pos h]; split <;> omega
    · rw [if_neg h]; omega
  · rw [if_neg h0]; omega

theorem date_bd (n : Int) (h1 : 1 ≤ n) (h2 : n ≤ 3652059) : 1 ≤ yr n ∧ yr n ≤ 9999 ∧ 1 ≤ om n ∧ om n ≤ 12 ∧ 1 ≤ od n ∧ od n ≤ dm (yr n) (om n) := by
  obtain ⟨a, b, _, _, _, _, c, d, e, f⟩ := Cal.of_spec n h1 h2
  exact ⟨a, b, c, d, e, f⟩

/-- The months of a day's date are of the table, and the way that is gone fits. -/
theorem gone_bd (s : Nat → Int) (n : Int) (h : sk s = 0) (h1 : 1 ≤ n) (h2 : n ≤ 3652059) :
    900 ≤ ta s n ∧ ta s n ≤ 1320 ∧ 900 ≤ tb s n ∧ tb s n ≤ 1320 ∧ -120 ≤ tb s n - ta s n ∧ tb s n - ta s n ≤ 120 ∧ 0 ≤ od n - 1 ∧ od n - 1 ≤ 30 ∧ 28 ≤ dm (yr n) (om n) ∧ dm (yr n) (om n) ≤ 31 ∧
      -3600 ≤ (tb s n - ta s n) * (od n - 1) ∧ (tb s n - ta s n) * (od n - 1) ≤ 3600 := by
  obtain ⟨hm, hs⟩ := (sk_ok s).1 h
  obtain ⟨a, b, c, d, e, f⟩ := date_bd n h1 h2
  have g := Cal.dm_bd (yr n) (om n) a b c d
  have i0 := hm ((om n).toNat - 1) (by omega)
  have i1 := hm ((om n).toNat % 12) (by omega)
  have i2 := hs ((om n).toNat - 1) (by omega)
  have ei : ((om n).toNat - 1) + 1 = (om n).toNat := by omega
  rw [ei] at i2
  unfold ta tb
  generalize s ((om n).toNat % 12) = y at *
  generalize s ((om n).toNat - 1) = x at *
  generalize ho : od n - 1 = o at *
  have o0 : 0 ≤ o := by omega
  have o1 : o ≤ 30 := by omega
  have p0 : (y - x) * o ≤ 120 * o := Int.mul_le_mul_of_nonneg_right (by omega) o0
  have p1 : -120 * o ≤ (y - x) * o := Int.mul_le_mul_of_nonneg_right (by omega) o0
  omega

theorem sa_bd (s : Nat → Int) (n : Int) (h : sk s = 0) (h1 : 1 ≤ n) (h2 : n ≤ 3652059) : 700 ≤ sa s n ∧ sa s n ≤ 1500 := by
  obtain ⟨a0, a1, b0, b1, c0, c1, o0, o1, d0, d1, p0, p1⟩ := gone_bd s n h h1 h2
  unfold sa
  generalize (tb s n - ta s n) * (od n - 1) = p at *
  generalize dm (yr n) (om n) = d at *
  have q0 : -180 ≤ p / d := by
    rw [Int.le_ediv_iff_mul_le (by omega)]; omega
  have q1 : p / d ≤ 180 := by
    have := (Int.ediv_lt_iff_lt_mul (a := p) (b := 181) (c := d) (by omega)).2 (by omega)
    omega
  omega

end Go.Proofs.YtihdijkplmfhfaaGreatDoor.Su

/- Plain facts on configurations, in whole numbers: which windows, and which configurations, may be, and which are the same. No condition but those that each theorem states. -/
namespace Go.Proofs.YtihdijkplmfhfaaGreatDoor.Cf
set_option maxRecDepth 100000
set_option maxRecDepth 100000
open Go.Proofs.YtihdijkplmfhfaaGreatDoor.Zo Go.Proofs.YtihdijkplmfhfaaGreatDoor.Su

/-- A window: kind, mode, weight, argument, shift, minute, length. -/
structure Wn where
  k : Int
  m : Int
  p : Int
  a : Int
  h : Int
  u : Int
  l : Int

/-- A configuration: floors, cars, park; stops; travel, level, open, dwell, lead, close, hold; rest, pater; zone, sunsets, abroad; windows. -/
structure Cg where
  f : Int
  n : Int
  p : Int
  st : List Int
  t : Int
  l : Int
  o : Int
  d : Int
  e : Int
  c : Int
  h : Int
  r : Int
  q : Int
  z : Zn
  s : Nat → Int
  ab : Bool
  ws : List Wn

/-- From a to b. -/
def bt (n a b : Int) : Bool := decide (a ≤ n) && decide (n ≤ b)

theorem bt_iff (n a b : Int) : bt n a b = true ↔ a ≤ n ∧ n ≤ b := by simp [bt]

/-- The ends of what goes by a window's kind: argument, shift, minute, length. -/
structure Ru where
  a0 : Int
  a1 : Int
  h0 : Int
  h1 : Int
  u0 : Int
  u1 : Int
  l0 : Int
  l1 : Int

def rz : Ru := ⟨0, 0, 0, 0, 0, 0, 0, 0⟩

def ru (k : Int) : Ru :=
  if k = 1 then ⟨1, 127, 0, 0, 0, 1439, 1, 10080⟩ else if k = 2 then ⟨401, 3651998, 0, 0, 0, 1439, 1, 10080⟩ else if k = 3 then ⟨1, 7, -7, 7, 0, 1439, 1, 10080⟩ else if k = 4 then ⟨0, 0, 0, 0, 0, 180, 0, 180⟩ else rz

def kn (k : Int) : Bool := bt k 1 4

/-- Does a window keep to a rule? -/
def al (r : Ru) (x : Wn) : Bool := bt x.a r.a0 r.a1 && (bt x.h r.h0 r.h1 && (bt x.u r.u0 r.u1 && bt x.l r.l0 r.l1))

/-- May a window be? -/
def wo (x : Wn) : Bool := kn x.k && (bt x.m 0 5 && (bt x.p 0 99 && al (ru x.k) x))

/-- The error of a window, or 0. -/
def we (x : Wn) : Int := if wo x = true then 0 else 104

theorem we_ok (x : Wn) : we x = 0 ↔ wo x = true := by
  unfold we
  split <;> simp_all

theorem we_two (x : Wn) : we x = 0 ∨ we x = 104 := by
  unfold we
  split <;> simp

/-- Is the size one that may be? -/
def so (c : Cg) : Bool := bt c.f 2 64 && (bt c.n 1 8 && bt c.p 0 (c.f - 1))

/-- The least that a stop may be, by the one ahead of it. -/
def lo (st : List Int) (i : Nat) : Int := if i = 0 then 0 else st.getD (i - 1) 0 + 1

def sg (f : Int) (st : List Int) (i : Nat) : Prop := lo st i ≤ st.getD i 0 ∧ st.getD i 0 ≤ f - 1

instance (f : Int) (st : List Int) (i : Nat) : Decidable (sg f st i) := by unfold sg; infer_instance

/-- Do the first k stops rise, each one a floor? -/
def su (f : Int) (st : List Int) (k : Nat) : Prop := ∀ i, i < k → sg f st i

instance (f : Int) (st : List Int) (k : Nat) : Decidable (su f st k) := by unfold su; infer_instance

/-- May the stops be? -/
def to (c : Cg) : Bool := decide (2 ≤ c.st.length ∧ su c.f c.st c.st.length)

theorem to_iff (c : Cg) : to c = true ↔ 2 ≤ c.st.length ∧ su c.f c.st c.st.length := by simp [to]

theorem su_zero (f : Int) (st : List Int) : su f st 0 := fun i h => absurd h (by omega)

theorem su_on {f : Int} {st : List Int} {k : Nat} (h : su f st k) (g : sg f st k) : su f st (k + 1) := by
  intro i hi
  by_cases e : i = k
  · rw [e]; exact g
  · exact h i (by omega)

theorem lo_succ (st : List Int) (i : Nat) : lo st (i + 1) = st.getD i 0 + 1 := by simp [lo]

theorem su_pos {f : Int} {st : List Int} {k : Nat} (h : su f st k) : ∀ i, i < k → 0 ≤ st.getD i 0 ∧ st.getD i 0 ≤ f - 1 := by
  intro i
  induction i with
  | zero =>
    intro hi
    have := h 0 hi
    simp only [sg, lo, if_true] at this
    exact this
  | succ j ih =>
    intro hi
    have a := ih (by omega)
    have b := h (j + 1) hi
    rw [sg, lo_succ] at b
    omega

theorem lo_pos {f : Int} {st : List Int} {k : Nat} (h : su f st k) : 0 ≤ lo st k := by
  cases k with
  | zero => simp [lo]
  | succ j =>
    rw [lo_succ]
    have := su_pos h j (by omega)
    omega

/-- May the times be? -/
def ti (c : Cg) : Bool :=
  (bt c.t 1 60 && (bt c.l 1 60 && (bt c.o 1 60 && (bt c.d 1 60 && bt c.c 1 60)))) && (bt c.h 0 60 && ((bt c.r 1 300 && bt c.q 1 300) && bt c.e 1 (min (min c.d c.r) c.q)))

/-- May the windows be? -/
def wa (ws : List Wn) : Bool := ws.all wo

/-- The error of a configuration, or 0. -/
def ce (c : Cg) : Int :=
  if so c = true then (if to c = true then (if ti c = true then (if ck c.z = 0 then (if sk c.s = 0 then (if c.ws.length ≤ 16 then (if wa c.ws = true then 0 else 104) else 103) else sk c.s) else ck c.z) else 102) else 101) else 100

/-- Are two windows the same? -/
def ws (x y : Wn) : Bool := x.k == y.k && (x.m == y.m && (x.p == y.p && (x.a == y.a && (x.h == y.h && (x.u == y.u && x.l == y.l)))))

theorem ws_iff (x y : Wn) : ws x y = true ↔ x = y := by
  cases x; cases y
  simp [ws]

end Go.Proofs.YtihdijkplmfhfaaGreatDoor.Cf

/- What the program's sunset answers of months: the minutes of some, and of a month and the next one. Conditions: the month is from 1 to 12. -/
namespace Go.Proofs.YtihdijkplmfhfaaGreatDoor.Sun
set_option maxRecDepth 100000
open Go.ChangeShapes Go.WideShapes Go.ChangeAt Go.RowKit
open Go.Proofs.YtihdijkplmfhfaaGreatDoor.Divs Go.Proofs.YtihdijkplmfhfaaGreatDoor.Grow Go.Proofs.YtihdijkplmfhfaaGreatDoor.Zone
open Go.Proofs.YtihdijkplmfhfaaGreatDoor.Greg (Laid)
open Go.Proofs.YtihdijkplmfhfaaGreatDoor.Zo Go.Proofs.YtihdijkplmfhfaaGreatDoor.Su
def sc (s : Nat → Int) : Array Value := #[.int .i64 (s 0), .int .i64 (s 1), .int .i64 (s 2), .int .i64 (s 3), .int .i64 (s 4), .int .i64 (s 5), .int .i64 (s 6), .int .i64 (s 7), .int .i64 (s 8), .int .i64 (s 9), .int .i64 (s 10), .int .i64 (s 11)]

theorem sc_get (s : Nat → Int) (i : Nat) (h : i < 12) : (sc s)[i]? = some (.int .i64 (s i)) := by
  obtain rfl | rfl | rfl | rfl | rfl | rfl | rfl | rfl | rfl | rfl | rfl | rfl : i = 0 ∨ i = 1 ∨ i = 2 ∨ i = 3 ∨ i = 4 ∨ i = 5 ∨ i = 6 ∨ i = 7 ∨ i = 8 ∨ i = 9 ∨ i = 10 ∨ i = 11 := by omega
  all_goals rfl

theorem make_two : ∀ W : World, (Instr.makeSlice 22 (.int .i64 0) (.int .i64 2)).run Tryz.prog W = .ok (.slice (some ⟨W.heap.size, 0, none⟩) 0 2) (W.alloc (.cells #[.int .i64 0, .int .i64 0] 3)) := by
  intro W
  obtain ⟨i0, hi, hz0, hz1, hz2⟩ := info_parts info_int
  have := run_make (P := Tryz.prog) W 22 3 i0 (.int .i64 0) Tryz.underlying22 hi hz0 .i64 .i64 0 2 (by omega) (by omega) (by rw [hz2]; decide) (by decide)
  rw [hz1] at this
  have e : madeCells (Value.int .i64 0).cells (Int.toNat 2 * 1) = #[.int .i64 0, .int .i64 0] := by kernel_rfl
  rw [e] at this
  exact this

def MRel (s : Nat → Int) (m : Int) (w : World) (v i : Value) (wr : World) : Prop :=
  ∃ k : Nat, k ≤ 2 ∧ i = .int .i64 (k : Int) ∧ SL wr (w.alloc (.cells (sc s) 30)).heap.size v ([s (m.toNat - 1), s (m.toNat % 12)].take k) ∧ Later (w.alloc (.cells (sc s) 30)) wr

set_option maxHeartbeats 1000000 in
theorem minutes_any (s : Nat → Int) (m : Int) (g : Nat) (w : World) (h1 : 1 ≤ m) (h2 : m ≤ 12) (c0 : w.cell? ⟨g, 0, none⟩ = some (.int .i64 m)) (c1 : w.cell? ⟨g, 1, none⟩ = some (.int .i64 (m + 1))) :
    Calls Tryz.prog 151 #[.agg (sc s), .slice (some ⟨g, 0, none⟩) 2 2] w fun e w' => ∃ v, e = .returned v ∧ Sl w' v [s (m.toNat - 1), s (m.toNat % 12)] ∧ Later w w' := by
  have mk := make_two
  obtain ⟨i0, hi, hz0, hz1, hz2⟩ := info_parts info_int
  have HI := Lib.hid hi
  have HZ0 := Lib.hid hz0
  have HZ1 := Lib.hid hz1
  have HZ2 := Lib.hid hz2
  clear hi hz0 hz1 hz2
  have HC0 := Lib.hid c0
  have HC1 := Lib.hid c1
  clear c0 c1
  have HS : Hid (sc s = #[.int .i64 (s 0), .int .i64 (s 1), .int .i64 (s 2), .int .i64 (s 3), .int .i64 (s 4), .int .i64 (s 5), .int .i64 (s 6), .int .i64 (s 7), .int .i64 (s 8), .int .i64 (s 9), .int .i64 (s 10), .int .i64 (s 11)]) := Lib.hid (rfl : sc s = _)
  rw [HS.out]
  go_enter Tryz.func151, Tryz.ntmps151
  go_wp2
  go_loopw [5, 13] (fun v i wr => MRel s m w v i wr) (fun _ i _ => 2 - (intOf i).toNat)
  case atStart =>
    refine ⟨0, by omega, rfl, ?_, (Later.refl _).alloc _ _⟩
    have := World.ownsRow_made (base := (w.alloc (.cells (sc s) 30)).heap.size) (e := 3) (size := 1) (w.alloc (.cells (sc s) 30)) #[.int .i64 0, .int .i64 0] 2 (Nat.le_refl _) (by decide) rfl
    simpa [SL, HS.out] using this
  case round =>
    obtain ⟨k, hk, rfl, hs, hg⟩ := hrel
    clear mk
    have HG := Lib.hid hg
    have HO := Lib.hid hs
    clear hs hg
    obtain rfl | rfl | rfl : k = 0 ∨ k = 1 ∨ k = 2 := by omega
    · have c0 := gsome HG.out (gsome ((Later.refl w).alloc (sc s) 30) HC0.out)
      have x0 : wr.cell? ⟨w.heap.size, ((m - 1) % 12).toNat, none⟩ = some (.int .i64 (s (m.toNat - 1))) := by
        refine gsome HG.out ?_
        rw [World.cell?_alloc_new, show ((m - 1) % 12).toNat = m.toNat - 1 by omega]
        exact sc_get s _ (by omega)
      go_wp2_with (at_builtin; go_loud (refine wpList_append_own _ rfl _ _ 22 rfl (w.alloc (.cells (sc s) 30)).heap.size 3 i0 (.int .i64 0) 1 8 Tryz.underlying22 HI.out HZ0.out HZ1.out HZ2.out rfl (by decide) _ _ _ rfl (World.ownsRow.alloc HO.out _) ⟨wr.heap.size, 0, none⟩ 1 1 [.int .i64 (s (m.toNat - 1))] rfl rfl (cell_one_new _ _ _) (by simp [Value.oneCell']) (by simp only [maxLen]; simp) (by simp) (by have := HG.out.size; simp only [World.size_alloc] at this ⊢; omega) ?_); go_loud (intro v' w4 hown' hgrow _; have HG4 := Lib.hid (later_grown (HG.out.put _) (HO.out.later ((Later.refl _).put _)) hgrow); have HO4 : Hid (SL w4 (w.alloc (.cells (sc s) 30)).heap.size v' (List.take 1 [s (m.toNat - 1), s (m.toNat % 12)])) := Lib.hid (by unfold SL; exact hown'); clear hown' hgrow))
      go_roundw
      case rel => exact ⟨1, by omega, by go_num, HO4.out, HG4.out⟩
      case measure => simp [intOf]
    · have c1 := gsome HG.out (gsome ((Later.refl w).alloc (sc s) 30) HC1.out)
      have x1 : wr.cell? ⟨w.heap.size, (m % 12).toNat, none⟩ = some (.int .i64 (s (m.toNat % 12))) := by
        refine gsome HG.out ?_
        rw [World.cell?_alloc_new, show (m % 12).toNat = m.toNat % 12 by omega]
        exact sc_get s _ (by omega)
      go_wp2_with (at_builtin; go_loud (refine wpList_append_own _ rfl _ _ 22 rfl (w.alloc (.cells (sc s) 30)).heap.size 3 i0 (.int .i64 0) 1 8 Tryz.underlying22 HI.out HZ0.out HZ1.out HZ2.out rfl (by decide) _ _ _ rfl (World.ownsRow.alloc HO.out _) ⟨wr.heap.size, 0, none⟩ 1 1 [.int .i64 (s (m.toNat % 12))] rfl rfl (cell_one_new _ _ _) (by simp [Value.oneCell']) (by simp only [maxLen]; simp) (by simp) (by have := HG.out.size; simp only [World.size_alloc] at this ⊢; omega) ?_); go_loud (intro v' w4 hown' hgrow _; have HG4 := Lib.hid (later_grown (HG.out.put _) (HO.out.later ((Later.refl _).put _)) hgrow); have HO4 : Hid (SL w4 (w.alloc (.cells (sc s) 30)).heap.size v' (List.take 2 [s (m.toNat - 1), s (m.toNat % 12)])) := Lib.hid (by unfold SL; exact hown'); clear hown' hgrow))
      go_roundw
      case rel => exact ⟨2, by omega, by go_num, HO4.out, HG4.out⟩
      case measure => simp [intOf]
    · have HO2 : Hid (Sl wr _ [s (m.toNat - 1), s (m.toNat % 12)]) := Lib.hid HO.out.sl
      go_wp2
      go_ret
      exact ⟨_, rfl, HO2.out, gtrans ((Later.refl w).alloc _ _) HG.out⟩

theorem within_any (n a b : Int) (w : World) : Calls Tryz.prog 134 #[.int .i64 n, .int .i64 a, .int .i64 b] w fun e w' => e = .returned (.bool (wiB n a b)) ∧ w = w' := by
  by_cases h : a ≤ n
  · have t : decide (a ≤ n) = true := by simpa using h
    have HV : Hid (wiB n a b = decide (n ≤ b)) := by
      have : wiB n a b = decide (n ≤ b) := by unfold wiB; rw [t]; rfl
      exact this
    clear h
    go_enter Tryz.func134, Tryz.ntmps134
    go_wp2
    go_ret
    exact ⟨retb HV.out.symm, rfl⟩
  · have t : decide (a ≤ n) = false := by simpa using h
    have HV : Hid (wiB n a b = false) := by
      have : wiB n a b = false := by unfold wiB; rw [t]; rfl
      exact this
    clear h
    go_enter Tryz.func134, Tryz.ntmps134
    go_wp2
    go_ret
    exact ⟨retb HV.out.symm, rfl⟩
end Go.Proofs.YtihdijkplmfhfaaGreatDoor.Sun

/- Whether a table of sunsets may be, by the program's Check. No condition. -/
namespace Go.Proofs.YtihdijkplmfhfaaGreatDoor.Sun
set_option maxRecDepth 100000
open Go.ChangeShapes Go.WideShapes Go.ChangeAt Go.RowKit
open Go.Proofs.YtihdijkplmfhfaaGreatDoor.Divs Go.Proofs.YtihdijkplmfhfaaGreatDoor.Grow Go.Proofs.YtihdijkplmfhfaaGreatDoor.Zone
open Go.Proofs.YtihdijkplmfhfaaGreatDoor.Greg (Laid)
open Go.Proofs.YtihdijkplmfhfaaGreatDoor.Zo Go.Proofs.YtihdijkplmfhfaaGreatDoor.Su

theorem sl_two {W : World} {v : Value} {a b : Int} (h : Sl W v [a, b]) : ∃ g cap, v = .slice (some ⟨g, 0, none⟩) 2 cap ∧ W.cell? ⟨g, 0, none⟩ = some (.int .i64 a) ∧ W.cell? ⟨g, 1, none⟩ = some (.int .i64 b) := by
  rcases h with ⟨h, _⟩ | ⟨g, cap, e, h⟩
  · exact absurd h (by simp)
  · exact ⟨g, cap, e, h 0 a rfl, h 1 b rfl⟩

theorem next_any (s : Nat → Int) (m : Int) (w : World) (h1 : 1 ≤ m) (h2 : m ≤ 12) :
    Calls Tryz.prog 135 #[.agg (sc s), .int .i64 m] w fun e w' => e = .returned (.tuple #[.int .i64 (s (m.toNat - 1)), .int .i64 (s (m.toNat % 12))]) ∧ Later w w' := by
  have M := Lib.hid (fun g W c0 c1 => minutes_any s m g W h1 h2 c0 c1)
  unfold sc
  go_enter Tryz.func135, Tryz.ntmps135
  go_wp2_with fail
  refine (M.out _ _ (by simp) (by simp)).mono ?_
  rintro e w1 ⟨v, rfl, hv, hg1⟩
  obtain ⟨g, cap, rfl, c0, c1⟩ := sl_two hv
  have HG1 := Lib.hid (gtrans (((Later.refl w).alloc _ _).alloc _ _) hg1)
  clear hg1 hv
  go_wp2_with fail
  go_quiet (fail)
  go_wp2_with fail
  go_ret2
  exact ⟨rfl, HG1.out⟩

/-- A table lies in the block a. -/
def Sat (w : World) (a : Nat) (s : Nat → Int) : Prop := ∀ i, i < 12 → w.cell? ⟨a, i, none⟩ = some (.int .i64 (s i))

theorem Sat.new (w : World) (s : Nat → Int) : Sat (w.alloc (.cells (sc s) 30)) w.heap.size s := by
  intro i hi
  rw [World.cell?_alloc_new]
  exact sc_get s i hi

theorem Sat.later {w w1 : World} {a : Nat} {s : Nat → Int} (h : Sat w a s) (g : Later w w1) : Sat w1 a s := fun i hi => gsome g (h i hi)

theorem Sat.all {w : World} {a : Nat} {s : Nat → Int} (h : Sat w a s) : w.cell? ⟨a, 0, none⟩ = some (.int .i64 (s 0)) ∧ w.cell? ⟨a, 1, none⟩ = some (.int .i64 (s 1)) ∧ w.cell? ⟨a, 2, none⟩ = some (.int .i64 (s 2)) ∧ w.cell? ⟨a, 3, none⟩ = some (.int .i64 (s 3)) ∧ w.cell? ⟨a, 4, none⟩ = some (.int .i64 (s 4)) ∧ w.cell? ⟨a, 5, none⟩ = some (.int .i64 (s 5)) ∧ w.cell? ⟨a, 6, none⟩ = some (.int .i64 (s 6)) ∧ w.cell? ⟨a, 7, none⟩ = some (.int .i64 (s 7)) ∧ w.cell? ⟨a, 8, none⟩ = some (.int .i64 (s 8)) ∧ w.cell? ⟨a, 9, none⟩ = some (.int .i64 (s 9)) ∧ w.cell? ⟨a, 10, none⟩ = some (.int .i64 (s 10)) ∧ w.cell? ⟨a, 11, none⟩ = some (.int .i64 (s 11)) :=
  ⟨h 0 (by omega), h 1 (by omega), h 2 (by omega), h 3 (by omega), h 4 (by omega), h 5 (by omega), h 6 (by omega), h 7 (by omega), h 8 (by omega), h 9 (by omega), h 10 (by omega), h 11 (by omega)⟩

/-- A table's minute, by its place. -/
theorem index_any (s : Nat → Int) (k : Nat) (hk : k < 12) : ∀ W : World, (Instr.index 30 (.agg (sc s)) (.int .i64 (k : Int))).run Tryz.prog W = .ok (.int .i64 (s k)) W := by
  intro W
  obtain rfl | rfl | rfl | rfl | rfl | rfl | rfl | rfl | rfl | rfl | rfl | rfl : k = 0 ∨ k = 1 ∨ k = 2 ∨ k = 3 ∨ k = 4 ∨ k = 5 ∨ k = 6 ∨ k = 7 ∨ k = 8 ∨ k = 9 ∨ k = 10 ∨ k = 11 := by omega
  all_goals kernel_rfl

/-- The minutes of k months are from 900 to 1320. -/
def CRel (s : Nat → Int) (i : Value) : Prop := ∃ k : Nat, k ≤ 12 ∧ i = .int .i64 (k : Int) ∧ ∀ j, j < k → 900 ≤ s j ∧ s j ≤ 1320

/-- The steps of k months are so. -/
def DRel (s : Nat → Int) (w : World) (i : Value) (wr : World) : Prop := ∃ k : Nat, k ≤ 12 ∧ i = .int .i64 ((k : Int) + 1) ∧ (∀ j, j < k → -120 ≤ s ((j + 1) % 12) - s j ∧ s ((j + 1) % 12) - s j ≤ 120) ∧ Later w wr

theorem reti {a b : Int} (h : a = b) : Ending.returned (.int .i64 a) = .returned (.int .i64 b) := by rw [h]

set_option maxHeartbeats 1000000 in
theorem check_any (s : Nat → Int) (w : World) : Calls Tryz.prog 112 #[.agg (sc s)] w fun e w' => e = .returned (.int .i64 (sk s)) ∧ Later w w' := by
  have K := Lib.hid (fun n a b W => within_any n a b W)
  have X := Lib.hid (next_any s)
  have IX := Lib.hid (index_any s)
  have HN := Lib.hid (Sat.new w s)
  have HG := Lib.hid ((Later.refl w).alloc (sc s) 30)
  unfold sc at *
  go_enter Tryz.func112, Tryz.ntmps112
  go_wp2
  go_loop [9] (fun i => CRel s i) (fun i => 12 - (intOf i).toNat)
  case atStart => exact ⟨0, by omega, rfl, by omega⟩
  case round =>
    obtain ⟨k, hk, rfl, hj⟩ := hrel
    by_cases hlt : k < 12
    · have ix := IX.out k hlt
      cases hw : wiB (s k) 900 1320 with
      | false =>
        have HV := Lib.hid (sk_m s k hlt (mt (wiB_iff _ _ _).2 (by rw [hw]; simp)))
        clear hj
        go_wp2_with (go_at_call 134; refine (K.out _ _ _ _).mono ?_; rintro e w1 ⟨rfl, rfl⟩)
        go_ret
        exact ⟨reti HV.out.symm, HG.out⟩
      | true =>
        have hin := (wiB_iff _ _ _).1 hw
        have HJ : Hid (∀ j, j < k + 1 → 900 ≤ s j ∧ s j ≤ 1320) := Lib.hid (fun j h => by
          by_cases e : j = k
          · rw [e]; exact hin
          · exact hj j (by omega))
        clear hj hin
        go_wp2_with (go_at_call 134; refine (K.out _ _ _ _).mono ?_; rintro e w1 ⟨rfl, rfl⟩)
        go_round
        case rel => exact ⟨k + 1, by omega, by go_num, HJ.out⟩
        case measure => simp [intOf]; omega
    · obtain rfl : k = 12 := by omega
      have HM : Hid (okM s) := Lib.hid hj
      clear hj hlt hk
      go_wp2
      go_loopw [5] (fun i wr => DRel s (w.alloc (.cells #[.int .i64 (s 0), .int .i64 (s 1), .int .i64 (s 2), .int .i64 (s 3), .int .i64 (s 4), .int .i64 (s 5), .int .i64 (s 6), .int .i64 (s 7), .int .i64 (s 8), .int .i64 (s 9), .int .i64 (s 10), .int .i64 (s 11)] 30)) i wr) (fun i _ => 13 - (intOf i).toNat)
      case atStart => exact ⟨0, by omega, rfl, by omega, Later.refl _⟩
      case round =>
        obtain ⟨k, hk, rfl, hj, hg⟩ := hrel
        have HGR := Lib.hid hg
        clear hg
        by_cases hlt : k < 12
        · obtain ⟨k0, k1, k2, k3, k4, k5, k6, k7, k8, k9, k10, k11⟩ := (HN.out.later HGR.out).all
          have b0 := HM.out k hlt
          have b1 := HM.out ((k + 1) % 12) (by omega)
          go_wp2_with fail
          refine (X.out _ _ (by omega) (by omega)).mono ?_
          rintro e w1 ⟨rfl, hg1⟩
          have HG1 := Lib.hid (gtrans HGR.out hg1)
          clear hg1 k0 k1 k2 k3 k4 k5 k6 k7 k8 k9 k10 k11
          rw [show ((k : Int) + 1).toNat - 1 = k by omega, show ((k : Int) + 1).toNat = k + 1 by omega]
          cases hw : wiB (s ((k + 1) % 12) - s k) (-120) 120 with
          | false =>
            have HV := Lib.hid (sk_s s k hlt HM.out (mt (wiB_iff _ _ _).2 (by rw [hw]; simp)))
            clear hj
            go_wp2_with (go_at_call 134; refine (K.out _ _ _ _).mono ?_; rintro e w1 ⟨rfl, rfl⟩)
            go_ret
            exact ⟨reti HV.out.symm, gtrans HG.out HG1.out⟩
          | true =>
            have hin := (wiB_iff _ _ _).1 hw
            have HJ : Hid (∀ j, j < k + 1 → -120 ≤ s ((j + 1) % 12) - s j ∧ s ((j + 1) % 12) - s j ≤ 120) := Lib.hid (fun j h => by
              by_cases e : j = k
              · rw [e]; exact hin
              · exact hj j (by omega))
            clear hj hin
            go_wp2_with (go_at_call 134; refine (K.out _ _ _ _).mono ?_; rintro e w1 ⟨rfl, rfl⟩)
            go_roundw
            case rel => exact ⟨k + 1, by omega, by go_num, HJ.out, HG1.out⟩
            case measure => simp [intOf]; omega
        · obtain rfl : k = 12 := by omega
          have HV := Lib.hid ((sk_ok s).2 ⟨HM.out, hj⟩)
          clear hj hlt hk
          go_wp2
          go_ret
          exact ⟨reti HV.out.symm, gtrans HG.out HGR.out⟩

end Go.Proofs.YtihdijkplmfhfaaGreatDoor.Sun
