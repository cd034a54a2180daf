/-
  The last day of rest in a row, by the program: its walk over days without an end, that the loop's body must leave. Conditions: the day lies among those that have Hebrew dates; the row's length is named ahead.
-/
import Derived.Test.YtdoahnkjkbpdaaaFk
import Derived.Test.YtdoahnkjkbpdaaaAh
namespace Go.Proofs.Ytdoahnkjkbpdaaa.Feast
open Go.ChangeShapes Go.WideShapes Go.ChangeAt Go.RowKit Go.Shelf
open Go.Proofs.Ytdoahnkjkbpdaaa.Divs Go.Proofs.Ytdoahnkjkbpdaaa.Grow Go.Proofs.Ytdoahnkjkbpdaaa.Mol Go.Proofs.Ytdoahnkjkbpdaaa.Hebrew
open Go.Proofs.Ytdoahnkjkbpdaaa.Year (lh mh pt md mp p1 p2 po dl ny yl)
open Go.Proofs.Ytdoahnkjkbpdaaa.Fe

attribute [local go_sem] Oper.semAt_some

theorem beyond_any (n t : Int) (w : World) :
    Calls Try.prog 57 #[.int .i64 n, .int .i64 t] w fun e w' => e = .returned (.func (.func 71) #[] #[.pointer (some ⟨w.heap.size, 0, none⟩), .pointer (some ⟨w.heap.size + 1, 0, none⟩)]) ∧ w' = (w.alloc (.cells #[.int .i64 n] 3)).alloc (.cells #[.int .i64 t] 3) := by
  go_enter Try.func57, Try.ntmps57
  go_wp2
  go_ret
  exact ⟨rfl, rfl⟩

set_option maxRecDepth 100000 in
set_option maxHeartbeats 2000000 in
/-- The walk without an end: it ends where the body must leave ahead of the round N. -/
theorem beyond1_in (n : Nat) (hn : 1 ≤ n) (s t : Int) (ht : t = 1 ∨ t = -1) (s0 : -20000000 ≤ s) (s1 : s ≤ 20000000) (lo B C N : Nat) (N0 : N ≤ 40000000) (J : Nat → World → Prop) (Jx : World → Prop) (W : World)
    (hN : ∀ k W, J k W → k < N)
    (hc : ∀ k W, J k W → W.cell? ⟨B, 0, none⟩ = some (.int .i64 s) ∧ W.cell? ⟨C, 0, none⟩ = some (.int .i64 t))
    (hY : ∀ (k : Nat) W, J k W → YieldAt Fence.wide (n - 1) Try.prog lo #[.int .i64 (s + t * (k + 1))] W fun e W' => (e = .returned (.bool true) ∧ J (k + 1) W') ∨ (e = .returned (.bool false) ∧ Jx W'))
    (h0 : J 0 W) :
    CallsIn Fence.wide n Try.prog 71 #[.func (.yield lo) #[] #[], .pointer (some ⟨B, 0, none⟩), .pointer (some ⟨C, 0, none⟩)] W fun e W' => (∃ v, e = .returned v) ∧ Jx W' := by
  obtain ⟨c1, c2⟩ := hc 0 W h0
  have HC := Lib.hid hc
  have HN := Lib.hid hN
  have HY := Lib.hid hY
  have H0 := Lib.hid h0
  clear hc hN hY h0
  have e1 : wrap64 (s + t) = s + t * ((0 : Nat) + 1) := by
    rw [IntWalk.wrap64_in _ (by omega)]
    simp
  refine callsIn_of_wp Try.func71 rfl trivial ?_ rfl
  simp only [Try.ntmps71, List.size_toArray, List.length_cons, List.length_nil, Nat.reduceAdd, Nat.reduceSub, Array.replicate_succ, Array.replicate_zero, List.push_toArray, List.append_toArray, List.nil_append, List.cons_append]
  gi_wp2
  gi_loopw [4] (fun i wr => ∃ k : Nat, i = .int .i64 (s + t * (k + 1)) ∧ J k wr) (fun i _ => (N + 1 - (intOf i - s) * t).toNat)
  case atStart => exact ⟨0, by first | rfl | (rw [e1]) | (congr 1; simp), H0.out⟩
  case round =>
    obtain ⟨k, rfl, hJ⟩ := hrel
    have kN := HN.out k _ hJ
    obtain ⟨fn, tmps, assign, body, hy, hR⟩ := HY.out k _ hJ
    have HJ := Lib.hid hJ
    clear hJ c1 c2
    gi_wp2
    refine hR.mono ?_
    rintro e W3 (⟨rfl, hJ3⟩ | ⟨rfl, hJx3⟩)
    · obtain ⟨c1, c2⟩ := HC.out _ _ hJ3
      have b0 : -9223372036854775808 ≤ s + t * (k + 1) + t ∧ s + t * (k + 1) + t ≤ 9223372036854775807 := by rcases ht with rfl | rfl <;> omega
      gi_wp2
      go_roundw
      case rel => exact ⟨k + 1, by congr 1; rcases ht with rfl | rfl <;> (push_cast; omega), hJ3⟩
      case measure => simp [intOf]; rcases ht with rfl | rfl <;> omega
    · gi_wp2
      go_end0
      exact ⟨⟨_, rfl⟩, hJx3⟩

/-- A loop over an iterator, met at its start: the iterator is called with yield, the loop's record lies at the end. -/
theorem range_start {P : Program} {n : Nat} {g : Operand} {ps : Array Tmp} {assign body : Code} {Q : Exit → Act → World → Prop} {a : Act} {w : World} {gf : Nat} {lb : Array Value}
    (hg : a.eval g = .func (.func gf) #[] lb) (eg : ∀ args w, (callFunc gf args).run P w = .ok (.enter gf args) w)
    (h : ∀ L : Loop, L.state = .ready → L.pending = none → L.params = ps → L.tmps = a.tmps → L.assign = assign → L.body = body →
      CallsIn Fence.wide (n - 1) P gf (#[.func (.yield (w.heap.size + 1)) #[] #[]] ++ lb) ((w.alloc (.deferred (some []))).alloc (.loop L))
        (rangePost Fence.wide n P (w.heap.size + 1) Q { a with defers := { target := .collected w.heap.size, args := #[] } :: a.defers })) :
    (Code.rangeFunc g ps assign body).wpIn Fence.wide n P Q a w := by
  refine wpIn_rangeFunc fun fn _ => ?_
  obtain ⟨L, hL⟩ : ∃ L : Loop, L = { state := .ready, pending := none, fn, tmps := a.tmps, params := ps, assign, body, defers := w.heap.size } := ⟨_, rfl⟩
  have k := h L (by rw [hL]) (by rw [hL]) (by rw [hL]) (by rw [hL]) (by rw [hL]) (by rw [hL])
  have e := run_enterLoop_outer (P := P) (w := w) fn a.tmps ps assign body
  rw [← hL] at e
  refine ⟨w.heap.size + 1, [{ target := .collected w.heap.size, args := #[] }], (w.alloc (.deferred (some []))).alloc (.loop L), { target := .fn (.func gf) lb, args := #[.func (.yield (w.heap.size + 1)) #[] #[]] }, (w.alloc (.deferred (some []))).alloc (.loop L), gf, #[.func (.yield (w.heap.size + 1)) #[] #[]] ++ lb, (w.alloc (.deferred (some []))).alloc (.loop L), e, ?_, ?_, ?_, ?_, ?_⟩
  · simp only [resolve, hg]
    simp [go_sem]
  · exact fun _ _ => trivial
  · simp [invoke, go_sem, eg]
  · intro hx
    cases hx
  · simp only [List.cons_append, List.nil_append]
    exact k

/-- One round, out of the walks of what it assigns and of its body. -/
theorem yield_of {P : Program} {m l : Nat} {args : Array Value} {W : World} {R : Ending → World → Prop} {L : Loop} (hl : W.heap[l]? = some (.loop L)) (hn : args.size = L.params.size)
    (h : L.assign.wpIn (Fence.wide.inRound l) m P (Exit.then (fun a1 w1 => ∃ w2, (Instr.beginRound l).run P w1 = .ok () w2 ∧ L.body.wpIn (Fence.wide.inRound l) m P (roundPost P l R) a1 w2) (fun _ _ _ => False))
      { tmps := (L.params.zip args).foldl (fun tmps (t, a) => tmps.setIfInBounds t a) L.tmps, defers := [] } W) : YieldAt Fence.wide m P l args W R :=
  ⟨L.fn, _, L.assign, L.body, run_yield hl hn, roundIn_of_wpIn trivial h⟩

/-- What the loop over the days keeps between two rounds, k days of rest having come. -/
def LW (w : World) (n t : Int) (r k0 : Nat) (L : Loop) (k : Nat) (W : World) : Prop :=
  k ≤ k0 ∧ W.cell? ⟨w.heap.size, 0, none⟩ = some (.func (.func 49) #[] #[.pointer (some ⟨r, 0, none⟩)]) ∧
  W.heap[w.heap.size + 1]? = some (.cells #[.int .i64 (n + t * k)] 3 (0, 0)) ∧
  W.cell? ⟨w.heap.size + 1 + 1, 0, none⟩ = some (.int .i64 n) ∧ W.cell? ⟨w.heap.size + 1 + 1 + 1, 0, none⟩ = some (.int .i64 t) ∧
  W.heap[w.heap.size + 1 + 1 + 1 + 1]? = some (.deferred (some [])) ∧ W.heap[w.heap.size + 1 + 1 + 1 + 1 + 1]? = some (.loop L) ∧ Below w.heap.size w W

theorem LW.put {w : World} {n t : Int} {r k0 : Nat} {L L' : Loop} {k : Nat} {W : World} (h : LW w n t r k0 L k W) : LW w n t r k0 L' k (W.putObj (w.heap.size + 1 + 1 + 1 + 1 + 1) (.loop L')) := by
  obtain ⟨x0, x1, x2, x3, x4, x5, x6, x7⟩ := h
  have o : ∀ b, b ≠ w.heap.size + 1 + 1 + 1 + 1 + 1 → (W.putObj (w.heap.size + 1 + 1 + 1 + 1 + 1) (.loop L')).heap[b]? = W.heap[b]? := fun b hb => World.putObj_heap_other (by omega)
  refine ⟨x0, (World.cell?_of_block (o _ (by dsimp only; omega))).trans x1, (o _ (by omega)).trans x2, (World.cell?_of_block (o _ (by dsimp only; omega))).trans x3, (World.cell?_of_block (o _ (by dsimp only; omega))).trans x4, (o _ (by omega)).trans x5, World.putObj_heap_same (Array.getElem?_eq_some_iff.1 x6).1, ?_⟩
  exact belowK_b (w := w) (Nat.le_refl _) W _ _ _ (by omega) x6 rfl rfl |> x7.trans

theorem LW.later {w : World} {n t : Int} {r k0 : Nat} {L : Loop} {k : Nat} {W W' : World} (h : LW w n t r k0 L k W) (g : Later W W') : LW w n t r k0 L k W' := by
  obtain ⟨x0, x1, x2, x3, x4, x5, x6, x7⟩ := h
  have o : ∀ b v, W.heap[b]? = some v → W'.heap[b]? = some v := fun b v e => (g.2.2.2 b (Array.getElem?_eq_some_iff.1 e).1).trans e
  exact ⟨x0, gsome g x1, o _ _ x2, gsome g x3, gsome g x4, o _ _ x5, o _ _ x6, x7.trans (g.below.mono x7.size)⟩

theorem LW.step {w : World} {n t : Int} {r k0 : Nat} {L : Loop} {k : Nat} {W : World} (h : LW w n t r k0 L k W) (hk : k < k0) : LW w n t r k0 L (k + 1) (W.setCell ⟨w.heap.size + 1, 0, none⟩ (.int .i64 (n + t * (k + 1)))) := by
  obtain ⟨x0, x1, x2, x3, x4, x5, x6, x7⟩ := h
  have o : ∀ b, b ≠ w.heap.size + 1 → (W.setCell ⟨w.heap.size + 1, 0, none⟩ (.int .i64 (n + t * (k + 1)))).heap[b]? = W.heap[b]? := fun b hb => Below.heap_setCell _ _ _ _ hb
  refine ⟨hk, (World.cell?_of_block (o _ (by dsimp only; omega))).trans x1, ?_, (World.cell?_of_block (o _ (by dsimp only; omega))).trans x3, (World.cell?_of_block (o _ (by dsimp only; omega))).trans x4, (o _ (by omega)).trans x5, (o _ (by omega)).trans x6, x7.setCell (by simp) _⟩
  have z := Boxed.set (.int .i64 (n + t * (k + 1))) (show Boxed W (w.heap.size + 1) 3 _ from x2)
  push_cast
  exact z

set_option maxRecDepth 100000 in
set_option maxHeartbeats 4000000 in
theorem lastwhile_any (n t : Int) (k0 r : Nat) (ab : Bool) (w : World) (ht : t = 1 ∨ t = -1) (n0 : ny 3762 ≤ n) (n1 : n < ny 10000)
    (hk : ∀ i : Nat, 1 ≤ i → i ≤ k0 → rst ab (n + t * i) = true) (hz : rst ab (n + t * (k0 + 1)) = false) (hr : RB w r ab) :
    Calls Try.prog 33 #[.func (.func 49) #[] #[.pointer (some ⟨r, 0, none⟩)], .int .i64 n, .int .i64 t] w fun e w' => e = .returned (.int .i64 (n + t * k0)) ∧ Later w w' := by
  have b1 := Year.ny_bd 3762 (by omega) (by omega)
  have b2 := Year.ny_bd 10000 (by omega) (by omega)
  have kb : k0 ≤ 30000000 := by
    by_cases c : k0 = 0
    · omega
    · have := (rst_iff ab _).1 (hk k0 (by omega) (Nat.le_refl _))
      rcases ht with rfl | rfl <;> omega
  have HK := Lib.hid hk
  have HZ := Lib.hid hz
  have HR := Lib.hid hr
  have NB := Lib.hid (show -10000000 ≤ n ∧ n ≤ 10000000 by omega)
  have M := Lib.hid (fun W => beyond_any n t W)
  clear hk hz hr n0 n1 b1 b2
  refine (callsIn_wide (n := 5)).1 ?_
  refine callsIn_of_wp_marks Try.func33 rfl trivial ?_ rfl
  simp only [Try.ntmps33, List.size_toArray, List.length_cons, List.length_nil, Nat.reduceAdd, Nat.reduceSub, Array.replicate_succ, Array.replicate_zero, List.push_toArray, List.append_toArray, List.nil_append, List.cons_append]
  gi_wp2_with (refine ⟨trivial, ?_⟩; gi_at_call 57; refine (callsIn_wide.2 (M.out _)).mono ?_; rintro e w1 ⟨rfl, rfl⟩)
  obtain ⟨W0, hW0⟩ : ∃ W0, ((((w.alloc (.cells #[.func (.func 49) #[] #[.pointer (some ⟨r, 0, none⟩)]] 29)).alloc (.cells #[.int .i64 n] 3)).alloc (.cells #[.int .i64 n] 3)).alloc (.cells #[.int .i64 t] 3)) = W0 := ⟨_, rfl⟩
  have hs0 : W0.heap.size = w.heap.size + 1 + 1 + 1 + 1 := by rw [← hW0]; simp
  have hB0 : Below w.heap.size w W0 := by
    rw [← hW0]
    exact ((((Below.refl _ w).alloc (Nat.le_refl _) _).alloc (by simp) _).alloc (by simp; omega) _).alloc (by simp; omega) _
  have l3 : Later ((((w.alloc (.cells #[.func (.func 49) #[] #[.pointer (some ⟨r, 0, none⟩)]] 29)).alloc (.cells #[.int .i64 n] 3)).alloc (.cells #[.int .i64 n] 3)).alloc (.cells #[.int .i64 t] 3)) W0 := by rw [hW0]; exact Later.refl _
  have l2 := gtrans ((Later.refl (((w.alloc (.cells #[.func (.func 49) #[] #[.pointer (some ⟨r, 0, none⟩)]] 29)).alloc (.cells #[.int .i64 n] 3)).alloc (.cells #[.int .i64 n] 3))).put (.cells #[.int .i64 t] 3)) l3
  have l1 := gtrans ((Later.refl ((w.alloc (.cells #[.func (.func 49) #[] #[.pointer (some ⟨r, 0, none⟩)]] 29)).alloc (.cells #[.int .i64 n] 3))).put (.cells #[.int .i64 n] 3)) l2
  have l0 := gtrans ((Later.refl (w.alloc (.cells #[.func (.func 49) #[] #[.pointer (some ⟨r, 0, none⟩)]] 29))).put (.cells #[.int .i64 n] 3)) l1
  have hq : ∀ L : Loop, LW w n t r k0 L 0 ((W0.alloc (.deferred (some []))).alloc (.loop L)) := by
    intro L
    have g1 : Later W0 ((W0.alloc (.deferred (some []))).alloc (.loop L)) := ((Later.refl W0).put _).put _
    refine ⟨Nat.zero_le _, cell4 (gtrans l0 g1) 0 rfl, ?_, cellN (gtrans l2 g1) (by simp) 0 rfl, cellN (gtrans l3 g1) (by simp) 0 rfl, ?_, ?_, ?_⟩
    · have := heap_late (gtrans l1 g1)
      simp only [World.size_alloc] at this
      simpa using this
    · rw [← hs0]
      exact (Below.heap_alloc _ _ _ (by simp)).trans (World.alloc_heap_new W0 _)
    · rw [← hs0]
      have := World.alloc_heap_new (W0.alloc (.deferred (some []))) (.loop L)
      rwa [World.size_alloc] at this
    · exact hB0.trans (g1.below.mono hB0.size)
  rw [hW0]
  clear hW0 l0 l1 l2 l3 hB0
  refine range_start (gf := 71) rfl (enters_of Try.func71 (by kernel_rfl) rfl) ?_
  intro L h1 h2 h3 h4 h5 h6
  have HQ := Lib.hid (hq L)
  clear hq
  rw [hs0]
  have step : ∀ (k : Nat) W, LW w n t r k0 L k W → YieldAt Fence.wide (5 - 1 - 1) Try.prog (w.heap.size + 1 + 1 + 1 + 1 + 1) #[.int .i64 (n + t * (k + 1))] W fun e W' =>
      (e = .returned (.bool true) ∧ LW w n t r k0 L (k + 1) W') ∨ (e = .returned (.bool false) ∧ ∃ L' : Loop, L'.state ≠ .busy ∧ L'.pending = some (.exit 0) ∧ LW w n t r k0 L' k0 W') := by
    intro k W hW
    refine yield_of hW.2.2.2.2.2.2.1 (by rw [h3]; rfl) ?_
    rw [h3, h4, h5, h6]
    have H1 := Lib.hid h1
    have H2 := Lib.hid h2
    have HW := Lib.hid hW
    clear h1 h2 h3 h4 h5 h6 hW HQ M
    gi_wp2
    refine ⟨_, run_beginRound HW.out.2.2.2.2.2.2.1 H1.out, ?_⟩
    obtain ⟨Wb, hWb⟩ : ∃ Wb, W.putObj (w.heap.size + 1 + 1 + 1 + 1 + 1) (.loop { L with state := .busy }) = Wb := ⟨_, rfl⟩
    rw [hWb]
    have HV := Lib.hid (show LW w n t r k0 { L with state := .busy } k Wb from hWb ▸ HW.out.put)
    clear hWb
    have hb := NB.out
    have kk := HV.out.1
    have db : -9223372036854775808 ≤ n + t * (k + 1) ∧ n + t * (k + 1) ≤ 9223372036854775807 := by rcases ht with rfl | rfl <;> omega
    have R := Lib.hid (rests1_any (n + t * (k + 1)) r ab Wb db.1 db.2 (HR.out.later (Later.of_below HV.out.2.2.2.2.2.2.2)))
    have c0 := HV.out.2.1
    by_cases hk : k < k0
    · have E := HK.out (k + 1) (by omega) (by omega)
      push_cast at E
      rw [E] at R
      clear E db hb kk
      gi_wp2_with (refine ⟨trivial, ?_⟩; gi_at_call 49; refine (CallsIn.inRound _ (callsIn_wide.2 R.out)).mono ?_; rintro e w3 ⟨rfl, hg3⟩; have HX := Lib.hid (HV.out.later hg3); have c1 := (show Boxed w3 (w.heap.size + 1) 3 _ from HX.out.2.2.1).cell; have f1 := (show Boxed w3 (w.heap.size + 1) 3 _ from HX.out.2.2.1).frozen; clear hg3 c0)
      refine ⟨_, _, run_endRound none ((HX.out.step hk).2.2.2.2.2.2.1), .inl ⟨rfl, ?_⟩⟩
      have := (HX.out.step hk).put (L' := L)
      have e : ({ { L with state := .busy } with state := if (none : Option Code).isNone then .ready else .done, pending := none } : Loop) = L := by
        have a1 := H1.out
        have a2 := H2.out
        cases L
        simp_all
      rw [e]
      exact this
    · obtain rfl : k = k0 := by omega
      rw [HZ.out] at R
      clear db hb kk
      gi_wp2_with (refine ⟨trivial, ?_⟩; gi_at_call 49; refine (CallsIn.inRound _ (callsIn_wide.2 R.out)).mono ?_; rintro e w3 ⟨rfl, hg3⟩; have HX := Lib.hid (HV.out.later hg3); clear hg3 c0)
      refine ⟨_, _, run_endRound (some (.exit 0)) HX.out.2.2.2.2.2.2.1, .inr ⟨rfl, _, ?_, ?_, HX.out.put⟩⟩
      · simp
      · rfl
  have STEP := Lib.hid step
  clear step
  have hb := NB.out
  refine (beyond1_in (5 - 1) (by omega) n t ht (by omega) (by omega) (w.heap.size + 1 + 1 + 1 + 1 + 1) (w.heap.size + 1 + 1) (w.heap.size + 1 + 1 + 1) (k0 + 1) (by omega) (LW w n t r k0 L) (fun W' => ∃ L' : Loop, L'.state ≠ .busy ∧ L'.pending = some (.exit 0) ∧ LW w n t r k0 L' k0 W') _
    (fun k W h => by have := h.1; omega) (fun k W h => ⟨h.2.2.2.1, h.2.2.2.2.1⟩) STEP.out HQ.out).mono ?_
  clear STEP HQ h1 h2 h3 h4 h5 h6
  rintro e W2 ⟨⟨v, rfl⟩, L', p1, p2, hX⟩
  refine ⟨_, _, run_endLoop hX.2.2.2.2.2.2.1 p1, ?_⟩
  obtain ⟨W3, hW3⟩ : ∃ W3, W2.putObj (w.heap.size + 1 + 1 + 1 + 1 + 1) (.loop { L' with state := .exhausted }) = W3 := ⟨_, rfl⟩
  rw [hW3, p2]
  have HV := Lib.hid (show LW w n t r k0 { L' with state := .exhausted } k0 W3 from hW3 ▸ hX.put)
  clear hW3 hX p1 p2
  have c1 := (show Boxed W3 (w.heap.size + 1) 3 _ from HV.out.2.2.1).cell
  show (Code.exit 0).wpIn Fence.wide 5 Try.prog _ _ W3
  gi_wp2
  refine ⟨by simp, .inl ⟨_, _, rfl, run_takeDeferred HV.out.2.2.2.2.2.1, ?_⟩⟩
  exact ⟨_, results_tmp rfl _ _ _, rfl, Later.of_below (HV.out.2.2.2.2.2.2.2.trans (belowK_b (w := w) (Nat.le_refl _) W3 _ _ _ (by omega) HV.out.2.2.2.2.2.1 rfl rfl))⟩

/-- The days of rest that touch day n. -/
def Row (ab : Bool) (n a b : Int) : Prop := a ≤ n ∧ n ≤ b ∧ (∀ d, a ≤ d → d ≤ b → rst ab d = true) ∧ rst ab (a - 1) = false ∧ rst ab (b + 1) = false

theorem row_len (ab : Bool) (n a b : Int) (h : Row ab n a b) : b - a ≤ 2 := by
  obtain ⟨h1, h2, h3, h4, h5⟩ := h
  by_cases c : b - a ≤ 2
  · exact c
  · exfalso
    exact no_four ab a (h3 _ (by omega) (by omega)) (h3 _ (by omega) (by omega)) (h3 _ (by omega) (by omega)) (h3 _ (by omega) (by omega))

theorem row_one (ab : Bool) (n n' a b a' b' : Int) (h : Row ab n a b) (h' : Row ab n' a' b') (x1 : a ≤ n') (x2 : n' ≤ b) : a' = a ∧ b' = b := by
  obtain ⟨h1, h2, h3, h4, h5⟩ := h
  obtain ⟨k1, k2, k3, k4, k5⟩ := h'
  refine ⟨?_, ?_⟩
  · by_cases c : a' < a
    · have := k3 (a - 1) (by omega) (by omega)
      rw [h4] at this
      cases this
    · by_cases c' : a < a'
      · have := h3 (a' - 1) (by omega) (by omega)
        rw [k4] at this
        cases this
      · omega
  · by_cases c : b < b'
    · have := k3 (b + 1) (by omega) (by omega)
      rw [h5] at this
      cases this
    · by_cases c' : b' < b
      · have := h3 (b' + 1) (by omega) (by omega)
        rw [k5] at this
        cases this
      · omega

theorem row_ex (ab : Bool) (n : Int) (h : rst ab n = true) : ∃ a b, Row ab n a b := by
  have up : ∃ b, n ≤ b ∧ (∀ d, n ≤ d → d ≤ b → rst ab d = true) ∧ rst ab (b + 1) = false := by
    cases e1 : rst ab (n + 1)
    · exact ⟨n, by omega, fun d _ _ => by rw [show d = n by omega]; exact h, e1⟩
    · cases e2 : rst ab (n + 2)
      · refine ⟨n + 1, by omega, fun d _ _ => ?_, by rw [show n + 1 + 1 = n + 2 by omega]; exact e2⟩
        rcases (show d = n ∨ d = n + 1 by omega) with rfl | rfl <;> assumption
      · cases e3 : rst ab (n + 3)
        · refine ⟨n + 2, by omega, fun d _ _ => ?_, by rw [show n + 2 + 1 = n + 3 by omega]; exact e3⟩
          rcases (show d = n ∨ d = n + 1 ∨ d = n + 2 by omega) with rfl | rfl | rfl <;> assumption
        · exact (no_four ab n h e1 e2 e3).elim
  have down : ∃ a, a ≤ n ∧ (∀ d, a ≤ d → d ≤ n → rst ab d = true) ∧ rst ab (a - 1) = false := by
    cases e1 : rst ab (n - 1)
    · exact ⟨n, by omega, fun d _ _ => by rw [show d = n by omega]; exact h, e1⟩
    · cases e2 : rst ab (n - 2)
      · refine ⟨n - 1, by omega, fun d _ _ => ?_, by rw [show n - 1 - 1 = n - 2 by omega]; exact e2⟩
        rcases (show d = n ∨ d = n - 1 by omega) with rfl | rfl <;> assumption
      · cases e3 : rst ab (n - 3)
        · refine ⟨n - 2, by omega, fun d _ _ => ?_, by rw [show n - 2 - 1 = n - 3 by omega]; exact e3⟩
          rcases (show d = n ∨ d = n - 1 ∨ d = n - 2 by omega) with rfl | rfl | rfl <;> assumption
        · exact (no_four ab (n - 3) e3 (by rw [show n - 3 + 1 = n - 2 by omega]; exact e2) (by rw [show n - 3 + 2 = n - 1 by omega]; exact e1) (by rw [show n - 3 + 3 = n by omega]; exact h)).elim
  obtain ⟨b, b1, b2, b3⟩ := up
  obtain ⟨a, a1, a2, a3⟩ := down
  refine ⟨a, b, a1, b1, fun d d1 d2 => ?_, a3, b3⟩
  by_cases c : d ≤ n
  · exact a2 d d1 c
  · exact b2 d (by omega) d2

theorem run_no (n : Int) (ab : Bool) (w : World) (h0 : -9223372036854775808 ≤ n) (h1 : n ≤ 9223372036854775807) (h : rst ab n = false) :
    Calls Try.prog 19 #[.int .i64 n, .bool ab] w fun e w' => e = .returned (.tuple #[.int .i64 0, .int .i64 0, .int .i64 51]) ∧ Later w w' := by
  have F := Lib.hid (fun W => rests_any ab W)
  have H := Lib.hid h
  clear h
  go_enter Try.func19, Try.ntmps19
  go_wp2_with fail
  refine (F.out _).mono ?_
  rintro e w1 ⟨r, rfl, _, hR, hg1⟩
  have HR := Lib.hid hR
  have HG := Lib.hid hg1
  clear hR hg1
  go_wp2_with fail
  have R := rests1_any n r ab w1 h0 h1 HR.out
  rw [H.out] at R
  refine R.mono ?_
  rintro e w2 ⟨rfl, hg2⟩
  go_wp2_with fail
  go_ret3
  exact ⟨rfl, gtrans HG.out hg2⟩

set_option maxHeartbeats 1000000 in
theorem run_yes (n a b : Int) (ab : Bool) (w : World) (h : Row ab n a b) :
    Calls Try.prog 19 #[.int .i64 n, .bool ab] w fun e w' => e = .returned (.tuple #[.int .i64 a, .int .i64 b, .int .i64 0]) ∧ Later w w' := by
  have F := Lib.hid (fun W => rests_any ab W)
  have rl := row_len ab n a b h
  obtain ⟨x1, x2, x3, x4, x5⟩ := h
  have hn := x3 n x1 x2
  obtain ⟨n0, n1, _⟩ := (rst_iff ab n).1 hn
  have b1 := Year.ny_bd 3762 (by omega) (by omega)
  have b2 := Year.ny_bd 10000 (by omega) (by omega)
  obtain ⟨i, hi⟩ : ∃ i : Nat, (i : Int) = n - a := ⟨(n - a).toNat, by omega⟩
  obtain ⟨j, hj⟩ : ∃ j : Nat, (j : Int) = b - n := ⟨(b - n).toNat, by omega⟩
  have D := Lib.hid (fun r W (hW : RB W r ab) => lastwhile_any n (-1) i r ab W (.inr rfl) n0 n1 (fun q q1 q2 => x3 _ (by omega) (by omega)) (by rw [show n + -1 * ((i : Int) + 1) = a - 1 by omega]; exact x4) hW)
  have U := Lib.hid (fun r W (hW : RB W r ab) => lastwhile_any n 1 j r ab W (.inl rfl) n0 n1 (fun q q1 q2 => x3 _ (by omega) (by omega)) (by rw [show n + 1 * ((j : Int) + 1) = b + 1 by omega]; exact x5) hW)
  rw [show n + -1 * (i : Int) = a by omega] at D
  rw [show n + 1 * (j : Int) = b by omega] at U
  have R := Lib.hid (fun r W (hW : RB W r ab) => rests1_any n r ab W (by omega) (by omega) hW)
  rw [hn] at R
  clear x1 x2 x3 x4 x5 hn n0 n1 b1 b2 hi hj rl
  go_enter Try.func19, Try.ntmps19
  go_wp2_with fail
  refine (F.out _).mono ?_
  rintro e w1 ⟨r, rfl, _, hR, hg1⟩
  have HR := Lib.hid hR
  have HG := Lib.hid hg1
  clear hR hg1
  go_wp2_with fail
  refine (R.out r _ HR.out).mono ?_
  rintro e w2 ⟨rfl, hg2⟩
  have HG2 := Lib.hid hg2
  clear hg2
  go_wp2_with fail
  refine (D.out r _ (HR.out.later HG2.out)).mono ?_
  rintro e w3 ⟨rfl, hg3⟩
  have HG3 := Lib.hid hg3
  clear hg3
  go_wp2_with fail
  refine (U.out r _ (HR.out.later (gtrans HG2.out HG3.out))).mono ?_
  rintro e w4 ⟨rfl, hg4⟩
  go_wp2_with fail
  go_ret3
  exact ⟨rfl, gtrans (gtrans (gtrans HG.out HG2.out) HG3.out) hg4⟩

end Go.Proofs.Ytdoahnkjkbpdaaa.Feast
