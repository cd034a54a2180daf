/-
  What the program's Resolve answers.  Conditions: the spans lie in a slice.
-/
import Derived.Test.YtmjedpaiccaddaaXp
import Derived.Test.YtmjedpaiccaddaaXl
import Derived.Test.YtmjedpaiccaddaaXo
import Derived.Laws.EntriesVeiled
namespace Go.Proofs.Ytmjedpaiccaddaa.Span
set_option maxRecDepth 100000
open Go.ChangeShapes Go.WideShapes Go.ChangeAt Go.RowKit Go.Shelf
open Go.Proofs.Ytmjedpaiccaddaa.Divs Go.Proofs.Ytmjedpaiccaddaa.Grow
open Go.Proofs.Ytmjedpaiccaddaa.By (Sk SL)
open Go.Proofs.Ytmjedpaiccaddaa.Sp

attribute [local go_sem] Oper.semAt_some

theorem cell4 {w w1 : World} {c : Array Value} {t : TypeId} (hg : Later (w.alloc (.cells c t)) w1) (i : Nat) {v : Value} (hc : c[i]? = some v) : w1.cell? ⟨w.heap.size, i, none⟩ = some v :=
  gsome hg (by rw [World.cell?_alloc_new]; exact hc)

/-- A range over a function, begun: the loop and the rounds' deferred calls laid, the function called with the loop for its yield. -/
theorem range_start {P : Program} {n : Nat} {g : Operand} {ps : Array Tmp} {assign body : Code} {Q : Exit → Act → World → Prop} {a : Act} {w : World} {gf : Nat} {lb : Array Value}
    (hg : a.eval g = .func (.func gf) #[] lb) (eg : ∀ args w, (callFunc gf args).run P w = .ok (.enter gf args) w)
    (h : ∀ L : Loop, L.state = .ready → L.pending = none → L.params = ps → L.tmps = a.tmps → L.assign = assign → L.body = body →
      CallsIn Fence.wide (n - 1) P gf (#[.func (.yield (w.heap.size + 1)) #[] #[]] ++ lb) ((w.alloc (.deferred (some []))).alloc (.loop L))
        (rangePost Fence.wide n P (w.heap.size + 1) Q { a with defers := { target := .collected w.heap.size, args := #[] } :: a.defers })) :
    (Code.rangeFunc g ps assign body).wpIn Fence.wide n P Q a w := by
  refine wpIn_rangeFunc fun fn _ => ?_
  obtain ⟨L, hL⟩ : ∃ L : Loop, L = { state := .ready, pending := none, fn, tmps := a.tmps, params := ps, assign, body, defers := w.heap.size } := ⟨_, rfl⟩
  have k := h L (by rw [hL]) (by rw [hL]) (by rw [hL]) (by rw [hL]) (by rw [hL]) (by rw [hL])
  have e := run_enterLoop_outer (P := P) (w := w) fn a.tmps ps assign body
  rw [← hL] at e
  refine ⟨w.heap.size + 1, [{ target := .collected w.heap.size, args := #[] }], (w.alloc (.deferred (some []))).alloc (.loop L), { target := .fn (.func gf) lb, args := #[.func (.yield (w.heap.size + 1)) #[] #[]] }, (w.alloc (.deferred (some []))).alloc (.loop L), gf, #[.func (.yield (w.heap.size + 1)) #[] #[]] ++ lb, (w.alloc (.deferred (some []))).alloc (.loop L), e, ?_, ?_, ?_, ?_, ?_⟩
  · simp only [resolve, hg]
    simp [go_sem]
  · exact fun _ _ => trivial
  · simp [invoke, go_sem, eg]
  · intro hx
    cases hx
  · simp only [List.cons_append, List.nil_append]
    exact k

/-- One round, out of the walks of what it assigns and of its body. -/
theorem yield_of {P : Program} {m l : Nat} {args : Array Value} {W : World} {R : Ending → World → Prop} {L : Loop} (hl : W.heap[l]? = some (.loop L)) (hn : args.size = L.params.size)
    (h : L.assign.wpIn (Fence.wide.inRound l) m P (Exit.then (fun a1 w1 => ∃ w2, (Instr.beginRound l).run P w1 = .ok () w2 ∧ L.body.wpIn (Fence.wide.inRound l) m P (roundPost P l R) a1 w2) (fun _ _ _ => False))
      { tmps := (L.params.zip args).foldl (fun tmps (t, a) => tmps.setIfInBounds t a) L.tmps, defers := [] } W) : YieldAt Fence.wide m P l args W R :=
  ⟨L.fn, _, L.assign, L.body, run_yield hl hn, roundIn_of_wpIn trivial h⟩

theorem es_len (l : List Sp) : (Es l).length ≤ 2 * l.length := by
  have : (Lib.compact (so l)).length ≤ (so l).length := by
    unfold Lib.compact Lib.compactUpTo
    rw [List.length_map]
    refine Nat.le_trans (List.length_filter_le _ _) ?_
    simp
  rw [so_len] at this
  exact this

theorem stays_own {W w1 : World} {b : Nat} {v : Value} {xs : List Sp} (h : WL W b v xs) (g : W.grownBy w1 v.ownBlock) : Stays W w1 := by
  intro c cs r
  refine (g.block c r.lt ?_).trans r
  rcases h.2 with ⟨rfl, _⟩ | ⟨d, cap, cur, rfl, _, hgb, _⟩
  · simp [Value.ownBlock]
  · intro e'
    obtain rfl : c = d := by simpa [Value.ownBlock] using e'
    unfold RA at r
    rw [hgb] at r
    have := Option.some.inj r
    injection this with _ h2
    exact absurd h2 (by decide)

theorem stays_box {W : World} {p : Nat} {v : Value} (h : Boxed W p 22 v) (v' : Value) : Stays W (W.setCell ⟨p, 0, none⟩ v') := by
  intro c cs r
  refine (Below.heap_setCell _ _ _ _ ?_).trans r
  intro e
  subst e
  unfold RA at r
  have := h.symm.trans r
  have := Option.some.inj this
  injection this with _ h2
  exact absurd h2 (by decide)

/-- What the loop over the instants keeps between two rounds, k rounds having come. -/
def LI (wA : World) (p : Nat) (lv : Value) (l : List Sp) (L : Loop) (k : Nat) (W : World) : Prop :=
  Later wA W ∧ (∃ v, Boxed W p 22 v ∧ WL W p v (rk l k)) ∧ Boxed W (p + 1) 22 lv ∧
  W.heap[p + 1 + 1]? = some (.deferred (some [])) ∧ W.heap[p + 1 + 1 + 1]? = some (.loop L)

theorem LI.later {wA : World} {p : Nat} {lv : Value} {l : List Sp} {L : Loop} {k : Nat} {W W' : World} (x : LI wA p lv l L k W) (g : Later W W') : LI wA p lv l L k W' := by
  obtain ⟨x0, ⟨v, x1, x2⟩, x3, x5, x6⟩ := x
  have o : ∀ b u, W.heap[b]? = some u → W'.heap[b]? = some u := fun b u e => (g.2.2.2 b (Array.getElem?_eq_some_iff.1 e).1).trans e
  exact ⟨gtrans x0 g, ⟨v, o _ _ x1, x2.later g⟩, o _ _ x3, o _ _ x5, o _ _ x6⟩

theorem LI.put {wA : World} {p : Nat} {lv : Value} {l : List Sp} {L L' : Loop} {k : Nat} {W : World} (x : LI wA p lv l L k W) (hp : wA.heap.size = p) : LI wA p lv l L' k (W.putObj (p + 1 + 1 + 1) (.loop L')) := by
  obtain ⟨x0, ⟨v, x1, x2⟩, x3, x5, x6⟩ := x
  have o : ∀ b, b ≠ p + 1 + 1 + 1 → (W.putObj (p + 1 + 1 + 1) (.loop L')).heap[b]? = W.heap[b]? := fun b hb => World.putObj_heap_other (by omega)
  refine ⟨?_, ⟨v, (o _ (by omega)).trans x1, ownsRow_putObj x2 _ x6 rfl⟩, (o _ (by omega)).trans x3, (o _ (by omega)).trans x5, World.putObj_heap_same (Array.getElem?_eq_some_iff.1 x6).1⟩
  exact Later.of_below (x0.below.trans (belowK_b (w := wA) (Nat.le_refl _) W _ _ _ (by omega) x6 rfl rfl))

/-- A round that lays nothing. -/
theorem LI.miss {wA : World} {p : Nat} {lv : Value} {l : List Sp} {L : Loop} {k : Nat} {W : World} (x : LI wA p lv l L k W) (h0 : best l (ei l k) = none) : LI wA p lv l L (k + 1) W := by
  unfold LI
  rw [show rk l (k + 1) = rk l k from st_none h0]
  exact x

/-- One that lays a piece: behind the call and the store. -/
theorem LI.hit {wA : World} {p : Nat} {lv : Value} {l : List Sp} {L : Loop} {k : Nat} {W w1 : World} {v v' : Value} (x : LI wA p lv l L k W) (hp : wA.heap.size = p)
    (hv : Boxed W p 22 v) (hrow : WL W p v (rk l k)) (hown : WL w1 p v' (rk l (k + 1))) (hgrow : W.grownBy w1 v.ownBlock) :
    LI wA p lv l L (k + 1) (w1.setCell ⟨p, 0, none⟩ v') := by
  obtain ⟨x0, _, x3, x5, x6⟩ := x
  have hs := x0.size
  have hv1 := hv.kept hgrow (hv.not_row (by decide) hrow)
  have y3 := x3.kept hgrow (x3.not_row (by decide) hrow)
  have o : ∀ b, b ≠ p → (w1.setCell ⟨p, 0, none⟩ v').heap[b]? = w1.heap[b]? := fun b hb => Below.heap_setCell _ _ _ _ hb
  have ot : ∀ (b : Nat) (u : Obj), W.heap[b]? = some u → u.isCells = false → w1.heap[b]? = some u := by
    intro b u hb hu
    refine (hgrow.block b (Array.getElem?_eq_some_iff.1 hb).1 ?_).trans hb
    rcases hrow.2 with ⟨rfl, _⟩ | ⟨g, cap, cur, rfl, _, hgb, _⟩
    · simp [Value.ownBlock]
    · intro e'
      obtain rfl : b = g := by simpa [Value.ownBlock] using e'
      rw [hgb] at hb; cases hb; cases hu
  have bl : Below p W (w1.setCell ⟨p, 0, none⟩ v') := ((Below.refl p W).grown hgrow (by omega) (fun j e => (World.ownsRow.lt hrow j e).1)).setCell (p := ⟨p, 0, none⟩) (Nat.le_refl _) v'
  refine ⟨Later.of_below (x0.below.trans (bl.mono (by omega))), ⟨v', hv1.set v', ?_⟩, (o _ (by omega)).trans y3, (o _ (by omega)).trans (ot _ _ x5 rfl), (o _ (by omega)).trans (ot _ _ x6 rfl)⟩
  exact World.ownsRow.kept hown (grownBy_setCell' w1 p v') (.inr (hv1.not_row (by decide) hown).symm)

theorem resolve_no (v : Value) (l : List Sp) (w : World) (h : Ws w v l) (hm : mb l = false) :
    Calls Try.prog 10 #[v] w fun e w' => e = .returned (.tuple #[.slice none 0 0, .int .i64 130]) ∧ Later w w' := by
  have M := Lib.hid (maybe_any v l w h)
  rw [hm] at M
  obtain ⟨ad, cap, rfl, _⟩ := h.form
  clear h hm
  go_enter Try.func10, Try.ntmps10
  go_wp2_with fail
  refine (M.out).mono ?_
  rintro e w1 ⟨rfl, hg1⟩
  go_wp2_with fail
  go_ret2
  exact ⟨rfl, hg1⟩

set_option maxRecDepth 100000 in
set_option maxHeartbeats 2000000 in
theorem resolve_yes (v : Value) (l : List Sp) (w : World) (h : Ws w v l) (hm : mb l = true) (hl : l.length ≤ 500) :
    Calls Try.prog 10 #[v] w fun e w' => ∃ v', e = .returned (.tuple #[v', .int .i64 0]) ∧ IsRow l w w' v' ∧ Later w w' := by
  have M := Lib.hid (maybe_any v l w h)
  rw [hm] at M
  have G := Lib.hid (fun W (g : Later w W) => weigh_any v l W (h.later g) hl)
  have HS := Lib.hid h
  obtain ⟨ad, cap, rfl, _⟩ := h.form
  have BD := Lib.hid (fun W => bounds_any ad l.length cap W)
  have EL := Lib.hid (es_len l)
  have HN := Lib.hid hl
  clear h hm hl
  refine (callsIn_wide (n := 5)).1 ?_
  refine callsIn_of_wp_marks Try.func10 rfl trivial ?_ rfl
  simp only [Try.ntmps10, List.size_toArray, List.length_cons, List.length_nil, Nat.reduceAdd, Nat.reduceSub, Array.replicate_succ, Array.replicate_zero, List.push_toArray, List.append_toArray, List.nil_append, List.cons_append]
  gi_wp2_with (first
    | (refine ⟨trivial, ?_⟩; gi_at_call 20; refine (callsIn_wide.2 M.out).mono ?_; rintro e w1 ⟨rfl, hg1⟩; have HG := Lib.hid hg1; clear hg1)
    | (refine ⟨trivial, ?_⟩; gi_at_call 21; refine (callsIn_wide.2 (G.out _ HG.out)).mono ?_; rintro e w2 ⟨⟨q, rfl, hwt⟩, hg2⟩; have HWT := Lib.hid hwt; have HG2 := Lib.hid (gtrans HG.out hg2); clear hg2 hwt)
    | (refine ⟨trivial, ?_⟩; gi_at_call 22; refine (callsIn_wide.2 (BD.out _)).mono ?_; rintro e w3 ⟨rfl, rfl⟩))
  obtain ⟨wA, hwA⟩ : ∃ wA, w2.alloc (.cells #[.func (.func 35) #[] #[.pointer (some ⟨q, 0, none⟩)]] 41) = wA := ⟨_, rfl⟩
  have hp : wA.heap.size = w2.heap.size + 1 := by rw [← hwA]; simp
  have HP := Lib.hid hp
  have HLA := Lib.hid (show Later w2 wA from hwA ▸ (Later.refl w2).put _)
  have hcq : wA.cell? ⟨w2.heap.size, 0, none⟩ = some (.func (.func 35) #[] #[.pointer (some ⟨q, 0, none⟩)]) := by rw [← hwA]; exact cell4 (Later.refl _) 0 rfl
  rw [hwA]
  clear hwA
  have hq : ∀ L : Loop, LI wA (w2.heap.size + 1) (.slice ad l.length cap) l L 0 ((((wA.alloc (.cells #[.slice none 0 0] 22)).alloc (.cells #[.slice ad l.length cap] 22)).alloc (.deferred (some []))).alloc (.loop L)) := by
    intro L
    have e0 := Boxed.new wA 22 (.slice none 0 0)
    have e1 := Boxed.new (wA.alloc (.cells #[.slice none 0 0] 22)) 22 (.slice ad l.length cap)
    simp only [World.size_alloc, hp] at e0 e1
    refine ⟨((((Later.refl wA).put _).put _).put _).put _, ⟨.slice none 0 0, ((e0.alloc _).alloc _).alloc _, WL.nil _ _⟩, (e1.alloc _).alloc _, ?_, ?_⟩
    · have := World.alloc_heap_new ((wA.alloc (.cells #[.slice none 0 0] 22)).alloc (.cells #[.slice ad l.length cap] 22)) (.deferred (some []))
      simp only [World.size_alloc, hp] at this
      exact (Below.heap_alloc _ _ _ (by simp; omega)).trans this
    · have := World.alloc_heap_new (((wA.alloc (.cells #[.slice none 0 0] 22)).alloc (.cells #[.slice ad l.length cap] 22)).alloc (.deferred (some []))) (.loop L)
      simp only [World.size_alloc, hp] at this
      exact this
  refine range_start (gf := 36) rfl (enters_of Try.func36 (by kernel_rfl) rfl) ?_
  intro L l1 l2 l3 l4 l5 l6
  have HQ := Lib.hid (hq L)
  clear hq
  simp only [World.size_alloc, hp]
  have step : ∀ (k : Nat) W, LI wA (w2.heap.size + 1) (.slice ad l.length cap) l L k W → k + 1 < (Es l).length → YieldAt Fence.wide (5 - 1 - 1) Try.prog (w2.heap.size + 1 + 1 + 1 + 1) #[.int .i64 (ei l k), .int .i64 (ei l (k + 1))] W fun e W' =>
      e = .returned (.bool true) ∧ LI wA (w2.heap.size + 1) (.slice ad l.length cap) l L (k + 1) W' ∧ Stays W W' := by
    intro k W hW hk
    have kl : (rk l k).length ≤ 50000 := by
      have a1 := rk_len l k
      have a2 := EL.out
      have a3 := HN.out
      omega
    refine yield_of hW.2.2.2.2 (by rw [l3]; rfl) ?_
    rw [l3, l4, l5, l6]
    have H1 := Lib.hid l1
    have H2 := Lib.hid l2
    have HW := Lib.hid hW
    have KL := Lib.hid kl
    clear l1 l2 l3 l4 l5 l6 hW HQ M hk kl
    gi_wp2
    refine ⟨_, run_beginRound HW.out.2.2.2.2 H1.out, ?_⟩
    obtain ⟨Wb, hWb⟩ : ∃ Wb, W.putObj (w2.heap.size + 1 + 1 + 1 + 1) (.loop { L with state := .busy }) = Wb := ⟨_, rfl⟩
    rw [hWb]
    have HV := Lib.hid (show LI wA (w2.heap.size + 1) (.slice ad l.length cap) l { L with state := .busy } k Wb from hWb ▸ HW.out.put hp)
    have ST : Hid (Stays W Wb) := Lib.hid (by
      intro g cs r
      rw [← hWb]
      refine (World.putObj_heap_other ?_).trans r
      intro e
      subst e
      have := HW.out.2.2.2.2
      unfold RA at r
      rw [r] at this
      cases this)
    clear hWb HW
    have c0 := gsome HV.out.1 hcq
    have HWT2 : Wt Wb q l := by
      obtain ⟨v0, o0, y1, y2, y3⟩ := HWT.out
      have g := gtrans HLA.out HV.out.1
      exact ⟨v0, o0, gsome g y1, y2.later g, y3⟩
    have R := Lib.hid (ask_any l q (ei l k) Wb HWT2)
    clear HWT2
    have lend : ∀ W4, LI wA (w2.heap.size + 1) (.slice ad l.length cap) l { L with state := .busy } (k + 1) W4 → Stays Wb W4 → LI wA (w2.heap.size + 1) (.slice ad l.length cap) l L (k + 1) (W4.putObj (w2.heap.size + 1 + 1 + 1 + 1) (.loop { { L with state := .busy } with state := if (none : Option Code).isNone then .ready else .done, pending := none })) ∧ Stays W (W4.putObj (w2.heap.size + 1 + 1 + 1 + 1) (.loop { { L with state := .busy } with state := if (none : Option Code).isNone then .ready else .done, pending := none })) := by
      intro W4 hx hs
      have e : ({ { L with state := .busy } with state := if (none : Option Code).isNone then .ready else .done, pending := none } : Loop) = L := by
        have a1 := H1.out
        have a2 := H2.out
        cases L
        simp_all
      rw [e]
      refine ⟨hx.put hp, (ST.out.trans hs).trans ?_⟩
      intro g cs r
      refine (World.putObj_heap_other ?_).trans r
      intro e
      subst e
      have := hx.2.2.2.2
      unfold RA at r
      rw [r] at this
      cases this
    have LEND := Lib.hid lend
    clear lend
    cases hb : best l (ei l k) with
    | none =>
      have e1 : bv l (ei l k) = z4 := by unfold bv; rw [hb]; rfl
      have e2 : bb l (ei l k) = false := by unfold bb; rw [hb]; rfl
      rw [e1, e2] at R
      unfold sc z4 at R
      have HB := Lib.hid hb
      clear hb e1 e2
      gi_wp2_with (refine ⟨trivial, ?_⟩; gi_at_call 35; refine (CallsIn.inRound _ (callsIn_wide.2 R.out)).mono ?_; rintro e w3 ⟨rfl, hg3⟩; have HX := Lib.hid ((HV.out.later (hg3.put (.cells #[.int .i64 0, .int .i64 0, .int .i64 0, .int .i64 0] 31))).miss HB.out); have HS3 := Lib.hid (stays_later (hg3.put (.cells #[.int .i64 0, .int .i64 0, .int .i64 0, .int .i64 0] 31))); clear hg3 c0)
      exact ⟨_, _, run_endRound none HX.out.2.2.2.2, rfl, LEND.out _ HX.out HS3.out⟩
    | some x =>
      have e1 : bv l (ei l k) = x := by unfold bv; rw [hb]; rfl
      have e2 : bb l (ei l k) = true := by unfold bb; rw [hb]; rfl
      rw [e1, e2] at R
      unfold sc at R
      have HB := Lib.hid (show rk l (k + 1) = push (rk l k) (ei l k) (ei l (k + 1)) x.m from st_some hb)
      clear hb e1 e2
      obtain ⟨v, bv, fv⟩ := HV.out.2.1
      obtain ⟨ad5, cap5, hv5, _⟩ := fv.ws.len
      subst hv5
      have BV := Lib.hid bv
      have FV := Lib.hid fv
      clear bv fv
      gi_wp2_with (first
        | (refine ⟨trivial, ?_⟩; gi_at_call 35; refine (CallsIn.inRound _ (callsIn_wide.2 R.out)).mono ?_; rintro e w3 ⟨rfl, hg3⟩; have hg4 := hg3.put (.cells #[.int .i64 x.f, .int .i64 x.t, .int .i64 x.m, .int .i64 x.p] 31); have HX := Lib.hid (HV.out.later hg4); have HS3 := Lib.hid (stays_later hg4); have BX := Lib.hid (BV.out.kept hg4.grownBy (by simp)); have FX := Lib.hid (FV.out.later hg4); have c1 := BX.out.cell; have Y := Lib.hid (lay_any (.slice ad5 (rk l k).length cap5) (rk l k) (ei l k) (ei l (k + 1)) x.m wA _ HX.out.1 (hp.symm ▸ FX.out) KL.out); unfold sc at Y; clear hg3 hg4 c0)
        | (refine ⟨trivial, ?_⟩; gi_at_call 23; refine (CallsIn.inRound _ (callsIn_wide.2 Y.out)).mono ?_; rintro e w5 ⟨v', rfl, hown, hgrow⟩; have HN1 := Lib.hid (HX.out.hit hp BX.out FX.out (by rw [HB.out, ← HP.out]; exact hown) hgrow); obtain ⟨ad7, cap7, rfl, _⟩ := hown.ws.len; have hv1 := BX.out.kept hgrow (BX.out.not_row (by decide) FX.out); have c2 := hv1.cell; have f2 := hv1.frozen; have HS5 := Lib.hid ((HS3.out.trans (stays_own FX.out hgrow)).trans (stays_box hv1 (.slice ad7 (push (rk l k) (ei l k) (ei l (k + 1)) x.m).length cap7))); clear hown hgrow hv1 c1))
      exact ⟨_, _, run_endRound none HN1.out.2.2.2.2, rfl, LEND.out _ HN1.out HS5.out⟩
  have STEP := Lib.hid step
  clear step
  refine (bounds1_in (5 - 1) (by omega) l HN.out (w2.heap.size + 1 + 1 + 1 + 1) (w2.heap.size + 1 + 1) (.slice ad l.length cap) (LI wA (w2.heap.size + 1) (.slice ad l.length cap) l L) _ (fun k W W' x g => x.later g) HQ.out.2.2.1.cell (HS.out.later (gtrans (gtrans HG2.out HLA.out) HQ.out.1)) STEP.out HQ.out).mono ?_
  have LP := Lib.hid l2
  have LST : L.state ≠ .busy := by rw [l1]; simp
  clear STEP HQ l1 l2 l3 l4 l5 l6
  rintro e W2 ⟨⟨v, rfl⟩, hX⟩
  refine ⟨_, _, run_endLoop hX.2.2.2.2 LST, ?_⟩
  obtain ⟨W3, hW3⟩ : ∃ W3, W2.putObj (w2.heap.size + 1 + 1 + 1 + 1) (.loop { L with state := .exhausted }) = W3 := ⟨_, rfl⟩
  rw [hW3, LP.out]
  have HV := Lib.hid (show LI wA (w2.heap.size + 1) (.slice ad l.length cap) l { L with state := .exhausted } ((Es l).length - 1) W3 from hW3 ▸ hX.put hp)
  clear hW3 hX
  obtain ⟨u, bu, fu⟩ := HV.out.2.1
  have c1 := bu.cell
  have FU := Lib.hid fu
  clear bu fu
  dsimp only
  gi_wp2
  refine ⟨by simp, .inl ⟨_, _, rfl, run_takeDeferred HV.out.2.2.2.1, ?_⟩⟩
  refine ⟨_, results_tmp2 rfl _ _ _, u, rfl, ?_, ?_⟩
  · have x : WL _ _ _ _ := ownsRow_putObj FU.out (.deferred none) HV.out.2.2.2.1 rfl
    have hs := HG2.out.size
    exact ⟨_, rk_full l, x.base (by omega)⟩
  · have hs := HG2.out.size
    exact gtrans (gtrans HG2.out HLA.out) (Later.of_below (HV.out.1.below.trans (belowK_b (w := wA) (Nat.le_refl _) W3 _ _ _ (by omega) HV.out.2.2.2.1 rfl rfl)))

end Go.Proofs.Ytmjedpaiccaddaa.Span
