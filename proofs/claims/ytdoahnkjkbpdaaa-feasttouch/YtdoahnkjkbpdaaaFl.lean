/-
  All days of a year's feasts, by the program: its loop over the days of the year, whose body appends. Conditions: the year is from 3762 to 9999, or it is not, as each theorem says.
-/
import Derived.Test.YtdoahnkjkbpdaaaFd
import Derived.Maps.AppendAt
namespace Go.Proofs.Ytdoahnkjkbpdaaa.Feast
open Go.ChangeShapes Go.WideShapes Go.ChangeAt Go.RowKit Go.Shelf
open Go.Proofs.Ytdoahnkjkbpdaaa.Divs Go.Proofs.Ytdoahnkjkbpdaaa.Grow Go.Proofs.Ytdoahnkjkbpdaaa.Mol Go.Proofs.Ytdoahnkjkbpdaaa.Hebrew
open Go.Proofs.Ytdoahnkjkbpdaaa.Year (lh mh pt md mp p1 p2 po dl ny yl)
open Go.Proofs.Ytdoahnkjkbpdaaa.Heb (hd ha ups)
open Go.Proofs.Ytdoahnkjkbpdaaa.Fe

attribute [local go_sem] Oper.semAt_some

/-- The cells of a row of feasts. -/
def cl (xs : List (Int × Int)) : List Value := xs.flatMap fun x => [Value.int .i64 x.1, Value.int .i64 x.2]

theorem cl_snoc (xs : List (Int × Int)) (a b : Int) : cl (xs ++ [(a, b)]) = cl xs ++ [.int .i64 a, .int .i64 b] := by simp [cl]

theorem info_feast : (Try.prog.info? 40).map (fun i => (i.zero, i.size, i.bytes)) = some (some (.agg #[.int .i64 0, .int .i64 0]), 2, 16) := by kernel_rfl

/-- v is a slice of these feasts, its cells laid since the world had b blocks. -/
def FL (W : World) (b : Nat) (v : Value) (xs : List (Int × Int)) : Prop := W.ownsRow b 40 2 v xs.length (cl xs)

theorem FL.grown {W W' : World} {b : Nat} {v : Value} {xs : List (Int × Int)} (h : FL W b v xs) (g : W.grownBy W' none) : FL W' b v xs :=
  World.ownsRow.kept h g (by cases v.ownBlock <;> simp)

theorem FL.later {W W' : World} {b : Nat} {v : Value} {xs : List (Int × Int)} (h : FL W b v xs) (g : Later W W') : FL W' b v xs := h.grown g.grownBy

/-- What the loop over a year's days keeps between two rounds, k days having come. -/
def LI (wA : World) (p : Nat) (h : Int) (ab : Bool) (L : Loop) (k : Nat) (W : World) : Prop :=
  Later wA W ∧ (∃ v, Boxed W p 25 v ∧ FL W p v (ls ab (ny h) k)) ∧ Boxed W (p + 1) 3 (.int .i64 h) ∧ Boxed W (p + 1 + 1) 3 (.int .i64 (ny h)) ∧
  W.heap[p + 1 + 1 + 1]? = some (.deferred (some [])) ∧ W.heap[p + 1 + 1 + 1 + 1]? = some (.loop L)

theorem LI.later {wA : World} {p : Nat} {h : Int} {ab : Bool} {L : Loop} {k : Nat} {W W' : World} (x : LI wA p h ab L k W) (g : Later W W') : LI wA p h ab L k W' := by
  obtain ⟨x0, ⟨v, x1, x2⟩, x3, x4, x5, x6⟩ := x
  have o : ∀ b u, W.heap[b]? = some u → W'.heap[b]? = some u := fun b u e => (g.2.2.2 b (Array.getElem?_eq_some_iff.1 e).1).trans e
  exact ⟨gtrans x0 g, ⟨v, o _ _ x1, x2.later g⟩, o _ _ x3, o _ _ x4, o _ _ x5, o _ _ x6⟩

theorem LI.put {wA : World} {p : Nat} {h : Int} {ab : Bool} {L L' : Loop} {k : Nat} {W : World} (x : LI wA p h ab L k W) (hp : wA.heap.size = p) : LI wA p h ab L' k (W.putObj (p + 1 + 1 + 1 + 1) (.loop L')) := by
  obtain ⟨x0, ⟨v, x1, x2⟩, x3, x4, x5, x6⟩ := x
  have o : ∀ b, b ≠ p + 1 + 1 + 1 + 1 → (W.putObj (p + 1 + 1 + 1 + 1) (.loop L')).heap[b]? = W.heap[b]? := fun b hb => World.putObj_heap_other (by omega)
  refine ⟨?_, ⟨v, (o _ (by omega)).trans x1, ownsRow_putObj x2 _ x6 rfl⟩, (o _ (by omega)).trans x3, (o _ (by omega)).trans x4, (o _ (by omega)).trans x5, World.putObj_heap_same (Array.getElem?_eq_some_iff.1 x6).1⟩
  exact Later.of_below (x0.below.trans (belowK_b (w := wA) (Nat.le_refl _) W _ _ _ (by omega) x6 rfl rfl))

/-- A day that is no feast's. -/
theorem LI.miss {wA : World} {p : Nat} {h : Int} {ab : Bool} {L : Loop} {k : Nat} {W : World} (x : LI wA p h ab L k W) (h0 : kd ab (ny h + k) = 0) : LI wA p h ab L (k + 1) W := by
  unfold LI
  rw [ls_miss ab (ny h) k h0]
  exact x

/-- A day that is one's: behind the append and the store. -/
theorem LI.hit {wA : World} {p : Nat} {h : Int} {ab : Bool} {L : Loop} {k : Nat} {W w1 : World} {v v' : Value} {tmp : Obj} (x : LI wA p h ab L k W) (hp : wA.heap.size = p) (h0 : kd ab (ny h + k) ≠ 0)
    (hv : Boxed W p 25 v) (hrow : W.ownsRow p 40 2 v (ls ab (ny h) k).length (cl (ls ab (ny h) k)))
    (hown : w1.ownsRow p 40 2 v' ((ls ab (ny h) k).length + 1) (cl (ls ab (ny h) k) ++ [.int .i64 (kd ab (ny h + k)), .int .i64 (ny h + k)])) (hgrow : (W.alloc tmp).grownBy w1 v.ownBlock) :
    LI wA p h ab L (k + 1) (w1.setCell ⟨p, 0, none⟩ v') := by
  obtain ⟨x0, _, x3, x4, x5, x6⟩ := x
  have hs := x0.size
  obtain ⟨hv1, hv2, hr2, hk2, hb2⟩ := hv.appended (by decide) hrow (by omega) (Nat.le_refl _) hown hgrow
  have y3 := (x3.alloc tmp).kept hgrow (x3.not_row (by decide) hrow)
  have y4 := (x4.alloc tmp).kept hgrow (x4.not_row (by decide) hrow)
  have o : ∀ b, b ≠ p → (w1.setCell ⟨p, 0, none⟩ v').heap[b]? = w1.heap[b]? := fun b hb => Below.heap_setCell _ _ _ _ hb
  refine ⟨Later.of_below (x0.below.trans (hb2.mono (by omega))), ⟨v', hv2, ?_⟩, (o _ (by omega)).trans y3, (o _ (by omega)).trans y4, hk2.same _ _ x5 rfl, hk2.same _ _ x6 rfl⟩
  unfold FL
  rw [ls_hit ab (ny h) k h0, cl_snoc, List.length_append]
  exact hr2

theorem cells_two (W : World) (x y : Value) (t : TypeId) : ∀ j u, [x, y][j]? = some u → (W.alloc (.cells #[x, y] t)).cell? ((⟨W.heap.size, 0, none⟩ : Addr).add j) = some u := by
  intro j u hu
  match j, hu with
  | 0, hu => exact cell4 (Later.refl _) 0 (by simpa using hu)
  | 1, hu => exact cell4 (Later.refl _) 1 (by simpa using hu)

theorem list_no (h : Int) (ab : Bool) (w : World) (hb : h < 3762 ∨ 9999 < h) :
    Calls Try.prog 15 #[.int .i64 h, .bool ab] w fun e w' => e = .returned (.tuple #[.slice none 0 0, .int .i64 50]) ∧ Later w w' := by
  have D := Lib.hid (fun W => day_year h 1 1 W hb)
  clear hb
  go_enter Try.func15, Try.ntmps15
  go_wp2_with fail
  refine (D.out _).mono ?_
  rintro e w1 ⟨rfl, hg1⟩
  go_wp2_with fail
  go_ret2
  exact ⟨rfl, hg1⟩

set_option maxRecDepth 100000 in
set_option maxHeartbeats 4000000 in
theorem list_yes (h : Int) (ab : Bool) (w : World) (h1 : 3762 ≤ h) (h2 : h ≤ 9999) :
    Calls Try.prog 15 #[.int .i64 h, .bool ab] w fun e w' => ∃ v, e = .returned (.tuple #[v, .int .i64 0]) ∧ FL w' w.heap.size v (fl ab (ny h) (ny h + yl h - 163)) ∧ Later w w' := by
  have D := Lib.hid (fun W => day_yes h 1 1 W h1 h2 (by omega) (by simp [hd]))
  rw [show ny h + ha (yl h) (lh h) 1 + 1 - 1 = ny h by rw [Heb.ha_one]; omega] at D
  have K := Lib.hid (fun W => kinds_any ab W)
  have M := Lib.hid (fun W => daysof_any h (ny h) W)
  obtain ⟨i0, hi, hz0, hz1, hz2⟩ := info_parts info_feast
  have HI := Lib.hid hi
  have HZ0 := Lib.hid hz0
  have HZ1 := Lib.hid hz1
  have HZ2 := Lib.hid hz2
  clear hi hz0 hz1 hz2
  have nb := Year.ny_bd h (by omega) (by omega)
  have yb := Heb.yl_bd h
  refine (callsIn_wide (n := 5)).1 ?_
  refine callsIn_of_wp_marks Try.func15 rfl trivial ?_ rfl
  simp only [Try.ntmps15, List.size_toArray, List.length_cons, List.length_nil, Nat.reduceAdd, Nat.reduceSub, Array.replicate_succ, Array.replicate_zero, List.push_toArray, List.append_toArray, List.nil_append, List.cons_append]
  gi_wp2_with (refine ⟨trivial, ?_⟩; gi_at_call 30; refine (callsIn_wide.2 (D.out _)).mono ?_; rintro e w1 ⟨rfl, hg1⟩; have HG := Lib.hid hg1; clear hg1)
  gi_wp2_with (refine ⟨trivial, ?_⟩; gi_at_call 24; refine (callsIn_wide.2 (K.out _)).mono ?_; rintro e w2 ⟨b, rfl, hb, hK, hg2⟩; have HK := Lib.hid hK; have HG2 := Lib.hid (gtrans HG.out hg2); clear hg2 hK)
  gi_wp2_with (refine ⟨trivial, ?_⟩; gi_at_call 31; refine (callsIn_wide.2 (M.out _)).mono ?_; rintro e w3 ⟨rfl, rfl⟩)
  obtain ⟨wA, hwA⟩ : ∃ wA, w2.alloc (.cells #[.func (.func 43) #[] #[.pointer (some ⟨b, 0, none⟩)]] 46) = wA := ⟨_, rfl⟩
  have hp : wA.heap.size = w2.heap.size + 1 := by rw [← hwA]; simp
  have HLA := Lib.hid (show Later w2 wA from hwA ▸ (Later.refl w2).put _)
  have hcq : wA.cell? ⟨w2.heap.size, 0, none⟩ = some (.func (.func 43) #[] #[.pointer (some ⟨b, 0, none⟩)]) := by rw [← hwA]; exact cell4 (Later.refl _) 0 rfl
  rw [hwA]
  clear hwA
  have hq : ∀ L : Loop, LI wA (w2.heap.size + 1) h ab L 0 (((((wA.alloc (.cells #[.slice none 0 0] 25)).alloc (.cells #[.int .i64 h] 3)).alloc (.cells #[.int .i64 (ny h)] 3)).alloc (.deferred (some []))).alloc (.loop L)) := by
    intro L
    have e0 := Boxed.new wA 25 (.slice none 0 0)
    have e1 := Boxed.new (wA.alloc (.cells #[.slice none 0 0] 25)) 3 (.int .i64 h)
    have e2 := Boxed.new ((wA.alloc (.cells #[.slice none 0 0] 25)).alloc (.cells #[.int .i64 h] 3)) 3 (.int .i64 (ny h))
    simp only [World.size_alloc, hp] at e0 e1 e2
    refine ⟨(((((Later.refl wA).put _).put _).put _).put _).put _, ⟨.slice none 0 0, (((e0.alloc _).alloc _).alloc _).alloc _, World.ownsRow_nil _ _ _ _⟩, ((e1.alloc _).alloc _).alloc _, (e2.alloc _).alloc _, ?_, ?_⟩
    · have := World.alloc_heap_new (((wA.alloc (.cells #[.slice none 0 0] 25)).alloc (.cells #[.int .i64 h] 3)).alloc (.cells #[.int .i64 (ny h)] 3)) (.deferred (some []))
      simp only [World.size_alloc, hp] at this
      exact (Below.heap_alloc _ _ _ (by simp; omega)).trans this
    · have := World.alloc_heap_new ((((wA.alloc (.cells #[.slice none 0 0] 25)).alloc (.cells #[.int .i64 h] 3)).alloc (.cells #[.int .i64 (ny h)] 3)).alloc (.deferred (some []))) (.loop L)
      simp only [World.size_alloc, hp] at this
      exact this
  refine range_start (gf := 53) rfl (enters_of Try.func53 (by kernel_rfl) rfl) ?_
  intro L l1 l2 l3 l4 l5 l6
  have HQ := Lib.hid (hq L)
  clear hq
  simp only [World.size_alloc, hp]
  have step : ∀ (k : Nat) (m d : Int) W, LI wA (w2.heap.size + 1) h ab L k W → Dt (ny h + k) h m d → YieldAt Fence.wide (5 - 1 - 1) Try.prog (w2.heap.size + 1 + 1 + 1 + 1 + 1) #[.int .i64 (ny h + k), .agg #[.int .i64 h, .int .i64 m, .int .i64 d]] W fun e W' =>
      e = .returned (.bool true) ∧ LI wA (w2.heap.size + 1) h ab L (k + 1) W' := by
    intro k m d W hW hdt
    have din := dt_in _ _ _ _ hdt
    have kdn := Lib.hid (kd_dt ab _ _ _ _ hdt)
    have nn := Heb.ny_next h
    have kk : (k : Int) < 385 := by omega
    refine yield_of hW.2.2.2.2.2 (by rw [l3]; rfl) ?_
    rw [l3, l4, l5, l6]
    have H1 := Lib.hid l1
    have H2 := Lib.hid l2
    have HW := Lib.hid (hW.later ((Later.refl W).put (.cells #[.int .i64 h, .int .i64 m, .int .i64 d] 43)))
    have HW0 := Lib.hid hW
    clear l1 l2 l3 l4 l5 l6 hW HQ M din nn hdt
    gi_wp2
    refine ⟨_, run_beginRound HW.out.2.2.2.2.2 H1.out, ?_⟩
    obtain ⟨Wb, hWb⟩ : ∃ Wb, (W.alloc (.cells #[.int .i64 h, .int .i64 m, .int .i64 d] 43)).putObj (w2.heap.size + 1 + 1 + 1 + 1 + 1) (.loop { L with state := .busy }) = Wb := ⟨_, rfl⟩
    rw [hWb]
    have HV := Lib.hid (show LI wA (w2.heap.size + 1) h ab { L with state := .busy } k Wb from hWb ▸ HW.out.put hp)
    have lt := (Array.getElem?_eq_some_iff.1 HW0.out.2.2.2.2.2).1
    have dd : ∀ i : Nat, Wb.cell? ⟨W.heap.size, i, none⟩ = (W.alloc (.cells #[.int .i64 h, .int .i64 m, .int .i64 d] 43)).cell? ⟨W.heap.size, i, none⟩ := fun i => by rw [← hWb]; exact World.cell?_of_block (World.putObj_heap_other (by dsimp only; omega))
    have d0 : Wb.cell? ⟨W.heap.size, 0, none⟩ = some (.int .i64 h) := (dd 0).trans (cell4 (Later.refl _) 0 rfl)
    have d1 : Wb.cell? ⟨W.heap.size, 1, none⟩ = some (.int .i64 m) := (dd 1).trans (cell4 (Later.refl _) 1 rfl)
    have d2 : Wb.cell? ⟨W.heap.size, 2, none⟩ = some (.int .i64 d) := (dd 2).trans (cell4 (Later.refl _) 2 rfl)
    clear hWb dd lt HW HW0
    have c0 := gsome HV.out.1 hcq
    have R := Lib.hid (kinds1_any h m d b ab Wb ((HK.out.later HLA.out).later HV.out.1))
    rw [← kdn.out] at R
    clear kdn
    by_cases hz : kd ab (ny h + k) = 0
    · have t : (kd ab (ny h + k) != 0) = false := by simp [hz]
      have HZ := Lib.hid hz
      clear hz
      gi_wp2_with (refine ⟨trivial, ?_⟩; gi_at_call 43; refine (CallsIn.inRound _ (callsIn_wide.2 R.out)).mono ?_; rintro e w3 ⟨rfl, hg3⟩; have HX := Lib.hid ((HV.out.later hg3).miss HZ.out); clear hg3 c0 d0 d1 d2)
      refine ⟨_, _, run_endRound none HX.out.2.2.2.2.2, rfl, ?_⟩
      have this := HX.out.put (L' := L) hp
      have e : ({ { L with state := .busy } with state := if (none : Option Code).isNone then .ready else .done, pending := none } : Loop) = L := by
        have a1 := H1.out
        have a2 := H2.out
        cases L
        simp_all
      rw [e]
      exact this
    · have t : (kd ab (ny h + k) != 0) = true := by simpa using hz
      have HZ := Lib.hid hz
      obtain ⟨v, bv, fv⟩ := HV.out.2.1
      have BV := Lib.hid bv
      have FV := Lib.hid fv
      have ll := ls_length ab (ny h) k
      clear hz bv fv
      gi_wp2_with (first | (refine ⟨trivial, ?_⟩; gi_at_call 43; refine (CallsIn.inRound _ (callsIn_wide.2 R.out)).mono ?_; rintro e w3 ⟨rfl, hg3⟩; have HX := Lib.hid (HV.out.later hg3); have BX := Lib.hid (BV.out.kept hg3.grownBy (by simp)); have FX := Lib.hid (FV.out.later hg3); have c1 := BX.out.cell; clear hg3 c0 d0 d1 d2) | (gi_at_builtin; refine wpListIn_append_own _ rfl _ _ 25 rfl (w2.heap.size + 1) 40 i0 (.agg #[.int .i64 0, .int .i64 0]) 2 16 Try.underlying25 HI.out HZ0.out HZ1.out HZ2.out rfl (by decide) _ _ _ rfl (World.ownsRow.alloc FX.out _) ⟨w3.heap.size, 0, none⟩ 1 1 [.int .i64 (kd ab (ny h + k)), .int .i64 (ny h + k)] rfl rfl (cells_two _ _ _ _) (by simp [Value.oneCell']) (by simp only [maxLen]; omega) (by omega) (by have := HX.out.1.size; simp; omega) ?_; intro v' w4 hown' hgrow _; obtain ⟨g', cap', rfl⟩ := ownsRow_succ hown'; have HN := Lib.hid (HX.out.hit hp HZ.out BX.out FX.out hown' hgrow); have hv1 := (BX.out.alloc _).kept hgrow (BX.out.not_row (by decide) FX.out); have c2 := hv1.cell; have f2 := hv1.frozen; clear hown' hgrow hv1 c1))
      refine ⟨_, _, run_endRound none HN.out.2.2.2.2.2, rfl, ?_⟩
      have this := HN.out.put (L' := L) hp
      have e : ({ { L with state := .busy } with state := if (none : Option Code).isNone then .ready else .done, pending := none } : Loop) = L := by
        have a1 := H1.out
        have a2 := H2.out
        cases L
        simp_all
      rw [e]
      exact this
  have STEP := Lib.hid step
  clear step
  refine (daysof1_in (5 - 1) (by omega) h h1 h2 (w2.heap.size + 1 + 1 + 1 + 1 + 1) (w2.heap.size + 1 + 1 + 1) (w2.heap.size + 1 + 1) (LI wA (w2.heap.size + 1) h ab L) _ (fun k W W' x g => x.later g) (fun k W x => x.2.2.1.cell) HQ.out.2.2.2.1.cell STEP.out HQ.out).mono ?_
  have LP := Lib.hid l2
  have LST : L.state ≠ .busy := by rw [l1]; simp
  clear STEP HQ l1 l2 l3 l4 l5 l6
  rintro e W2 ⟨⟨v, rfl⟩, hX⟩
  refine ⟨_, _, run_endLoop hX.2.2.2.2.2 LST, ?_⟩
  obtain ⟨W3, hW3⟩ : ∃ W3, W2.putObj (w2.heap.size + 1 + 1 + 1 + 1 + 1) (.loop { L with state := .exhausted }) = W3 := ⟨_, rfl⟩
  rw [hW3, LP.out]
  have HV := Lib.hid (show LI wA (w2.heap.size + 1) h ab { L with state := .exhausted } (yl h).toNat W3 from hW3 ▸ hX.put hp)
  clear hW3 hX
  obtain ⟨u, bu, fu⟩ := HV.out.2.1
  have c1 := bu.cell
  have FU := Lib.hid fu
  clear bu fu
  dsimp only
  gi_wp2
  refine ⟨by simp, .inl ⟨_, _, rfl, run_takeDeferred HV.out.2.2.2.2.1, ?_⟩⟩
  refine ⟨_, results_tmp2 rfl _ _ _, u, rfl, ?_, ?_⟩
  · have x := ownsRow_putObj FU.out (.deferred none) HV.out.2.2.2.2.1 rfl
    rw [ls_all ab h (yl h).toNat h1 h2 (by omega) (by omega)] at x
    have hs := HG2.out.size
    exact ⟨x.1, x.2.imp id (fun ⟨g, cap, cur, y1, y2, y3⟩ => ⟨g, cap, cur, y1, by omega, y3⟩)⟩
  · have hs := HG2.out.size
    exact gtrans (gtrans HG2.out HLA.out) (Later.of_below (HV.out.1.below.trans (belowK_b (w := wA) (Nat.le_refl _) W3 _ _ _ (by omega) HV.out.2.2.2.2.1 rfl rfl)))

end Go.Proofs.Ytdoahnkjkbpdaaa.Feast
