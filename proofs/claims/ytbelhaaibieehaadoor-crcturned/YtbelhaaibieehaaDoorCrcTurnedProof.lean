/-
  Layer 9: with a byte turned, or two side by side, the sum's too, it is not opened (newellaw09.CrcTurned answers true for every input, and leaves its arguments as they were). Condition: the table of half bytes starts as the program's text lays it, which the card ties.
-/
import Derived.Test.YtbelhaaibieehaaDoorLift
namespace Go.Proofs.YtbelhaaibieehaaDoor.crcTurned
open Go.ChangeShapes Go.WideShapes Go.ChangeAt Go.RowKit Go.Joins
open Go.Proofs.YtbelhaaibieehaaDoor.Divs Go.Proofs.YtbelhaaibieehaaDoor.Grow Go.Proofs.YtbelhaaibieehaaDoor.By Go.Proofs.YtbelhaaibieehaaDoor.Crc
open Go.Proofs.YtbelhaaibieehaaDoor.Cr
set_option linter.unusedVariables false

theorem xor_u8 (x a : Int) (hx : 0 ≤ x ∧ x ≤ 255) (ha : 0 ≤ a ∧ a ≤ 255) : ∃ y : Int, bits .xor .u8 x a = y ∧ 0 ≤ y ∧ y ≤ 255 ∧ up y = up x ^^^ up a := by
  obtain ⟨x0, x1⟩ := hx
  obtain ⟨a0, a1⟩ := ha
  obtain ⟨n, rfl⟩ := Int.eq_ofNat_of_zero_le x0
  obtain ⟨m, rfl⟩ := Int.eq_ofNat_of_zero_le a0
  have hb : n ^^^ m < 2 ^ 8 := Nat.xor_lt_two_pow (by omega) (by omega)
  exact ⟨((n ^^^ m : Nat) : Int), u8_xor_nat n m (by omega) (by omega), by omega, by omega, up_xor n m⟩

set_option maxHeartbeats 1000000 in
theorem early (w : World) (hL : Laid w) (l0 : List Int) (v0 : Value) (hs0 : Sk .u8 w v0 l0) (a1 : Int) (h1 : -9223372036854775808 ≤ a1 ∧ a1 ≤ 9223372036854775807) (a2 b2 : Int) (h : 300 < l0.length ∨ a1 < 0 ∨ (l0.length : Int) < a1 ∨ (a2 = 0 ∧ b2 = 0)) :
    Calls Tryd.prog 7 #[v0, .int .i64 a1, .agg #[.int .u8 a2, .int .u8 b2]] w fun e w' => e = .returned (.bool true) ∧ Later w w' := by
  have A := Lib.hid (awake_any (w.alloc (.cells #[.int .u8 a2, .int .u8 b2] 34)) (hL.grown ((Later.refl w).put _)))
  have HG := Lib.hid ((Later.refl w).put (.cells #[.int .u8 a2, .int .u8 b2] 34))
  obtain ⟨ad, cap, rfl, hm⟩ := hs0.len
  clear hs0 hL
  by_cases hlen : 300 < l0.length
  · clear h
    go_enter Tryd.func7, Tryd.ntmps7
    go_wp2_with fail
    refine A.out.mono ?_
    rintro e w1 ⟨rfl, hg1⟩
    go_wp2_with fail
    go_ret
    exact ⟨rfl, gtrans HG.out hg1⟩
  · by_cases hneg : a1 < 0
    · clear h
      go_enter Tryd.func7, Tryd.ntmps7
      go_wp2_with fail
      refine A.out.mono ?_
      rintro e w1 ⟨rfl, hg1⟩
      go_wp2_with fail
      go_ret
      exact ⟨rfl, gtrans HG.out hg1⟩
    · by_cases hgt : (l0.length : Int) < a1
      · clear h
        go_enter Tryd.func7, Tryd.ntmps7
        go_wp2_with fail
        refine A.out.mono ?_
        rintro e w1 ⟨rfl, hg1⟩
        go_wp2_with fail
        go_ret
        exact ⟨rfl, gtrans HG.out hg1⟩
      · obtain ⟨rfl, rfl⟩ : a2 = 0 ∧ b2 = 0 := by
          rcases h with h | h | h | h
          · exact absurd h hlen
          · exact absurd h hneg
          · exact absurd h hgt
          · exact h
        clear h
        go_enter Tryd.func7, Tryd.ntmps7
        go_wp2_with fail
        refine A.out.mono ?_
        rintro e w1 ⟨rfl, hg1⟩
        go_wp2_with fail
        go_ret
        exact ⟨rfl, gtrans HG.out hg1⟩

set_option maxHeartbeats 1000000 in
theorem core (w : World) (hL : Laid w) (l0 : List Int) (v0 : Value) (hs0 : Sk .u8 w v0 l0) (hl0 : ∀ n ∈ l0, 0 ≤ n ∧ n ≤ 255) (a1 : Int) (h1 : -9223372036854775808 ≤ a1 ∧ a1 ≤ 9223372036854775807) (a2 b2 : Int) (h2 : 0 ≤ a2 ∧ a2 ≤ 255) (k2 : 0 ≤ b2 ∧ b2 ≤ 255) :
    Calls Tryd.prog 7 #[v0, .int .i64 a1, .agg #[.int .u8 a2, .int .u8 b2]] w fun e w' => e = .returned (.bool true) ∧ Later w w' := by
  by_cases hearly : 300 < l0.length ∨ a1 < 0 ∨ (l0.length : Int) < a1 ∨ (a2 = 0 ∧ b2 = 0)
  · exact early w hL l0 v0 hs0 a1 h1 a2 b2 hearly
  · have hlen : ¬ 300 < l0.length := fun h => hearly (.inl h)
    have hneg : ¬ a1 < 0 := fun h => hearly (.inr (.inl h))
    have hgt : ¬ (l0.length : Int) < a1 := fun h => hearly (.inr (.inr (.inl h)))
    have hz : ¬ (a2 = 0 ∧ b2 = 0) := fun h => hearly (.inr (.inr (.inr h)))
    obtain ⟨i, rfl⟩ := Int.eq_ofNat_of_zero_le (show 0 ≤ a1 by omega)
    have hi : i ≤ l0.length := by omega
    have sl := se_len l0
    obtain ⟨x, hx⟩ : ∃ x, (se l0)[i]? = some x := ⟨_, List.getElem?_eq_getElem (by omega)⟩
    obtain ⟨y, hy⟩ : ∃ y, (se l0)[i + 1]? = some y := ⟨_, List.getElem?_eq_getElem (by omega)⟩
    have bx := se_byte l0 hl0 x (List.mem_of_getElem? hx)
    have by' := se_byte l0 hl0 y (List.mem_of_getElem? hy)
    obtain ⟨x', ex, x0, x1, ux⟩ := xor_u8 x a2 bx h2
    obtain ⟨y', ey, y0, y1, uy⟩ := xor_u8 y b2 by' k2
    have ot := op_turned (se l0) i x y x' y' a2 b2 (mo_se l0) hx hy h2 k2 hz ux uy
    obtain ⟨ts, hts⟩ : ∃ ts, ((se l0).set i x').set (i + 1) y' = ts := ⟨_, rfl⟩
    have hbt : ∀ n ∈ ts, 0 ≤ n ∧ n ≤ 255 := by
      intro n hn
      rw [← hts] at hn
      rcases List.mem_or_eq_of_mem_set hn with h | rfl
      · rcases List.mem_or_eq_of_mem_set h with h | rfl
        · exact se_byte l0 hl0 n h
        · exact ⟨x0, x1⟩
      · exact ⟨y0, y1⟩
    have hnt : ts.length ≤ 1000 := by rw [← hts]; simp; omega
    have A := Lib.hid (fun W (h : Later w W) => awake_any W (hL.grown h))
    have S := Lib.hid (fun W (h : Later w W) => seal_any l0 v0 W (hs0.later h) hl0 (by omega) (hL.grown h))
    have O := Lib.hid (fun u W (h : Later w W) (hu : Sk .u8 W u ts) => open_any ts u W hu hbt hnt (hL.grown h))
    rw [← hts, ot, hts] at O
    have HT := Lib.hid hts
    have HX := Lib.hid hx
    have HY := Lib.hid hy
    have HSL := Lib.hid sl
    have HG0 := Lib.hid ((Later.refl w).put (.cells #[.int .u8 a2, .int .u8 b2] 34))
    obtain ⟨ad, cap, rfl, hm⟩ := hs0.len
    have t1 : decide (300 < (l0.length : Int)) = false := by simp; omega
    have t2 : decide ((i : Int) < 0) = false := by simp
    have t3 : decide ((l0.length : Int) < (i : Int)) = false := by simp; omega
    clear hs0 hL hearly hts hbt hnt ot ux uy hx hy bx by' sl hneg hgt
    by_cases hz2 : a2 = 0
    · have t4 : (a2 == 0) = true := by simpa using hz2
      have t5 : (b2 == 0) = false := by simpa using fun h => hz ⟨hz2, h⟩
      clear hz hz2
      go_enter Tryd.func7, Tryd.ntmps7
      go_wp2_with fail
      refine (S.out _ HG0.out).mono ?_
      rintro e w2 ⟨u, rfl, hu, hg2⟩
      have HU := Lib.hid hu
      obtain ⟨g, cp, rfl, hcell⟩ := hu.has (by have := HSL.out; omega)
      have hbase : w.heap.size + 1 ≤ g := by
        rcases HU.out.2 with ⟨e, _⟩ | ⟨g', _, _, e, hb, _⟩
        · simp at e
        · simp only [Value.slice.injEq, Option.some.injEq, Addr.mk.injEq, and_true, true_and] at e
          have := e.1
          simp at hb
          omega
      have c1 : w2.cell? ⟨g, i, none⟩ = some (.int .u8 x) := by
        have := hcell i (.int .u8 x) (by rw [List.getElem?_map, HX.out]; rfl)
        rwa [add_zero] at this
      have c2 : w2.cell? ⟨g, i + 1, none⟩ = some (.int .u8 y) := by
        have := hcell (i + 1) (.int .u8 y) (by rw [List.getElem?_map, HY.out]; rfl)
        rwa [add_zero] at this
      have f1 : w2.frozen? ⟨g, i, none⟩ = false := World.ownsRow.frozenAt HU.out i
      have f2 : w2.frozen? ⟨g, i + 1, none⟩ = false := World.ownsRow.frozenAt HU.out (i + 1)
      have d1 : w2.cell? ⟨w.heap.size, 0, none⟩ = some (.int .u8 a2) := gsome hg2 (by rw [World.cell?_alloc_new]; rfl)
      have d2 : w2.cell? ⟨w.heap.size, 1, none⟩ = some (.int .u8 b2) := gsome hg2 (by rw [World.cell?_alloc_new]; rfl)
      have HG2 := Lib.hid (gtrans HG0.out hg2)
      have sl := HSL.out
      have ne1 : ¬ g = w.heap.size := by omega
      clear hu hcell hg2
      have t6 : (((se l0).length : Int) != (l0.length : Int) + 2) = false := by rw [sl]; simp
      go_wp2_with fail
      go_region
      have q1 : Hid (Sk .u8 (w2.setCell ⟨g, i, none⟩ (.int .u8 x')).drew (.slice (some ⟨g, 0, none⟩) (l0.length + 2) cp) ((se l0).set i x')) := by
        have h := HU.out.sk
        rw [HSL.out] at h
        exact Lib.hid (h.set i x' (by rw [HSL.out]; omega))
      have q2 : Hid (Later w (w2.setCell ⟨g, i, none⟩ (.int .u8 x')).drew) := Lib.hid (HG2.out.setCell (p := ⟨g, i, none⟩) (by simp; omega) _)
      have q3 : (w2.setCell ⟨g, i, none⟩ (.int .u8 x')).drew.cell? ⟨g, i + 1, none⟩ = some (.int .u8 y) := by
        show (w2.setCell ⟨g, i, none⟩ (.int .u8 x')).cell? ⟨g, i + 1, none⟩ = _
        rw [World.cell?_setCell_other (h := by intro e; simp only [Addr.mk.injEq, and_true, true_and] at e; omega)]
        exact c2
      have q4 : (w2.setCell ⟨g, i, none⟩ (.int .u8 x')).drew.frozen? ⟨g, i + 1, none⟩ = false := by
        show (w2.setCell ⟨g, i, none⟩ (.int .u8 x')).frozen? ⟨g, i + 1, none⟩ = _
        rw [World.frozen?_setCell]
        exact f2
      have q5 : (w2.setCell ⟨g, i, none⟩ (.int .u8 x')).drew.cell? ⟨w.heap.size, 1, none⟩ = some (.int .u8 b2) := by
        show (w2.setCell ⟨g, i, none⟩ (.int .u8 x')).cell? ⟨w.heap.size, 1, none⟩ = _
        rw [World.cell?_setCell_other (h := by intro e; simp only [Addr.mk.injEq, and_true] at e; omega)]
        exact d2
      generalize (w2.setCell ⟨g, i, none⟩ (.int .u8 x')).drew = w3 at *
      clear c1 c2 f1 f2 d1 d2 HG2 HU
      go_wp2_with fail
      go_region
      have r1 : Hid (Sk .u8 (w3.setCell ⟨g, i + 1, none⟩ (.int .u8 y')).drew (.slice (some ⟨g, 0, none⟩) (l0.length + 2) cp) ts) := by
        have h := q1.out.set (i + 1) y' (by rw [List.length_set, HSL.out]; omega)
        rw [HT.out] at h
        exact Lib.hid h
      have r2 : Hid (Later w (w3.setCell ⟨g, i + 1, none⟩ (.int .u8 y')).drew) := Lib.hid (q2.out.setCell (p := ⟨g, i + 1, none⟩) (by simp; omega) _)
      generalize (w3.setCell ⟨g, i + 1, none⟩ (.int .u8 y')).drew = w4 at *
      clear q3 q4 q5
      go_wp2_with fail
      refine (O.out _ _ r2.out r1.out).mono ?_
      rintro e w5 ⟨z, rfl, _, hg5⟩
      have HG5 := Lib.hid (gtrans r2.out hg5)
      clear hg5
      go_wp2_with fail
      refine (A.out _ HG5.out).mono ?_
      rintro e w6 ⟨rfl, hg6⟩
      go_wp2_with fail
      go_ret
      exact ⟨rfl, gtrans HG5.out hg6⟩
    · have t4 : (a2 == 0) = false := by simpa using hz2
      clear hz hz2
      go_enter Tryd.func7, Tryd.ntmps7
      go_wp2_with fail
      refine (S.out _ HG0.out).mono ?_
      rintro e w2 ⟨u, rfl, hu, hg2⟩
      have HU := Lib.hid hu
      obtain ⟨g, cp, rfl, hcell⟩ := hu.has (by have := HSL.out; omega)
      have hbase : w.heap.size + 1 ≤ g := by
        rcases HU.out.2 with ⟨e, _⟩ | ⟨g', _, _, e, hb, _⟩
        · simp at e
        · simp only [Value.slice.injEq, Option.some.injEq, Addr.mk.injEq, and_true, true_and] at e
          have := e.1
          simp at hb
          omega
      have c1 : w2.cell? ⟨g, i, none⟩ = some (.int .u8 x) := by
        have := hcell i (.int .u8 x) (by rw [List.getElem?_map, HX.out]; rfl)
        rwa [add_zero] at this
      have c2 : w2.cell? ⟨g, i + 1, none⟩ = some (.int .u8 y) := by
        have := hcell (i + 1) (.int .u8 y) (by rw [List.getElem?_map, HY.out]; rfl)
        rwa [add_zero] at this
      have f1 : w2.frozen? ⟨g, i, none⟩ = false := World.ownsRow.frozenAt HU.out i
      have f2 : w2.frozen? ⟨g, i + 1, none⟩ = false := World.ownsRow.frozenAt HU.out (i + 1)
      have d1 : w2.cell? ⟨w.heap.size, 0, none⟩ = some (.int .u8 a2) := gsome hg2 (by rw [World.cell?_alloc_new]; rfl)
      have d2 : w2.cell? ⟨w.heap.size, 1, none⟩ = some (.int .u8 b2) := gsome hg2 (by rw [World.cell?_alloc_new]; rfl)
      have HG2 := Lib.hid (gtrans HG0.out hg2)
      have sl := HSL.out
      have ne1 : ¬ g = w.heap.size := by omega
      clear hu hcell hg2
      have t6 : (((se l0).length : Int) != (l0.length : Int) + 2) = false := by rw [sl]; simp
      go_wp2_with fail
      go_region
      have q1 : Hid (Sk .u8 (w2.setCell ⟨g, i, none⟩ (.int .u8 x')).drew (.slice (some ⟨g, 0, none⟩) (l0.length + 2) cp) ((se l0).set i x')) := by
        have h := HU.out.sk
        rw [HSL.out] at h
        exact Lib.hid (h.set i x' (by rw [HSL.out]; omega))
      have q2 : Hid (Later w (w2.setCell ⟨g, i, none⟩ (.int .u8 x')).drew) := Lib.hid (HG2.out.setCell (p := ⟨g, i, none⟩) (by simp; omega) _)
      have q3 : (w2.setCell ⟨g, i, none⟩ (.int .u8 x')).drew.cell? ⟨g, i + 1, none⟩ = some (.int .u8 y) := by
        show (w2.setCell ⟨g, i, none⟩ (.int .u8 x')).cell? ⟨g, i + 1, none⟩ = _
        rw [World.cell?_setCell_other (h := by intro e; simp only [Addr.mk.injEq, and_true, true_and] at e; omega)]
        exact c2
      have q4 : (w2.setCell ⟨g, i, none⟩ (.int .u8 x')).drew.frozen? ⟨g, i + 1, none⟩ = false := by
        show (w2.setCell ⟨g, i, none⟩ (.int .u8 x')).frozen? ⟨g, i + 1, none⟩ = _
        rw [World.frozen?_setCell]
        exact f2
      have q5 : (w2.setCell ⟨g, i, none⟩ (.int .u8 x')).drew.cell? ⟨w.heap.size, 1, none⟩ = some (.int .u8 b2) := by
        show (w2.setCell ⟨g, i, none⟩ (.int .u8 x')).cell? ⟨w.heap.size, 1, none⟩ = _
        rw [World.cell?_setCell_other (h := by intro e; simp only [Addr.mk.injEq, and_true] at e; omega)]
        exact d2
      generalize (w2.setCell ⟨g, i, none⟩ (.int .u8 x')).drew = w3 at *
      clear c1 c2 f1 f2 d1 d2 HG2 HU
      go_wp2_with fail
      go_region
      have r1 : Hid (Sk .u8 (w3.setCell ⟨g, i + 1, none⟩ (.int .u8 y')).drew (.slice (some ⟨g, 0, none⟩) (l0.length + 2) cp) ts) := by
        have h := q1.out.set (i + 1) y' (by rw [List.length_set, HSL.out]; omega)
        rw [HT.out] at h
        exact Lib.hid h
      have r2 : Hid (Later w (w3.setCell ⟨g, i + 1, none⟩ (.int .u8 y')).drew) := Lib.hid (q2.out.setCell (p := ⟨g, i + 1, none⟩) (by simp; omega) _)
      generalize (w3.setCell ⟨g, i + 1, none⟩ (.int .u8 y')).drew = w4 at *
      clear q3 q4 q5
      go_wp2_with fail
      refine (O.out _ _ r2.out r1.out).mono ?_
      rintro e w5 ⟨z, rfl, _, hg5⟩
      have HG5 := Lib.hid (gtrans r2.out hg5)
      clear hg5
      go_wp2_with fail
      refine (A.out _ HG5.out).mono ?_
      rintro e w6 ⟨rfl, hg6⟩
      go_wp2_with fail
      go_ret
      exact ⟨rfl, gtrans HG5.out hg6⟩

set_option maxHeartbeats 1000000 in
set_option maxRecDepth 100000 in
theorem lifted (os : Os) (started : os.Started) (H : Type) (enc : TypeId × Value → H) :
    ReturnsInHanded {} Tryd.checked os 7 .any (fun w args => (Rows.crcTurnedSpec.pre enc Tryd.prog Tryd.f7 [] false w args ∧ laidMetH Tryd.prog laidL w) ∧ sizedMet enc Tryd.prog Tryd.f7 (OpenSpec.ofChange Rows.crcTurnedSpec) false w args)
      (Rows.crcTurnedSpec.post enc Tryd.prog Tryd.f7 false true false false) := by
  refine returnsInHanded_of_change_and (C := Tryd.checked) (X := fun w _ => laidMetH Tryd.prog laidL w) (fun _ _ _ hh h => h.of_heap hh) own started (by kernel_rfl) Tryd.func7
    (ChangeSpec.witness_shaped (enc := enc) (C := Tryd.checked) (os := os) (X := fun w _ => laidMetH Tryd.prog laidL w) false (World.doorLaid Tryd.prog 400 os) #[.slice none 0 0, .int .i64 0, .agg #[.int .u8 0, .int .u8 0]] 8 rfl (World.shaped_of_RefB (by kernel_rfl) (by kernel_rfl)) (by kernel_rfl) (by kernel_rfl) (by kernel_rfl) (door_met os _)) ?_
  intro W base args ds gs before hval0 hW _ _ hL _
  have hval : ∀ (j : Nat) t v, Tryd.f7.params[j]? = some t → args[j]? = some v → Value.okWide Tryd.prog W .any base t v := hval0
  have hW' := hW
  obtain ⟨p, q, hA0, hV, rfl, hfz, hnd⟩ := hW
  have hA : DataW.TrodAll enc Tryd.prog W 0 (fun _ => true) true Tryd.f7.params.toList args.toList ds p := hA0
  rw [Tryd.params7] at hA hval
  obtain ⟨v0, vs0, d0, ds0, p0, q0, hargs, rfl, rfl, h0, r0⟩ := trodAll_cons hA
  obtain ⟨v1, vs1, d1, ds1, p1, q1, rfl, rfl, rfl, h1, r1⟩ := trodAll_cons r0
  obtain ⟨v2, vs2, d2, ds2, p2, q2, rfl, rfl, rfl, h2, r2⟩ := trodAll_cons r1
  obtain ⟨rfl, rfl, rfl⟩ := trodAll_nil r2
  obtain rfl : args = #[v0, v1, v2] := by cases args; simp_all
  obtain ⟨rfl, rfl⟩ := trodVars_none hV
  obtain ⟨l0, s0, w0⟩ := open_bytes (hval 0 22 v0 rfl rfl) h0
  have lt0 : ∀ x ∈ p0, x.block < W.heap.size := by obtain ⟨m, hm⟩ := h0; exact DataW.trod_lt m _ _ _ hm
  obtain ⟨a1, rfl, rfl, rfl, w1⟩ := open_int Tryd.underlying3 (hval 1 3 v1 rfl rfl) h1
  obtain ⟨a2, b2, rfl, rfl, rfl, w2, y2⟩ := open_two (hval 2 34 v2 rfl rfl) h2
  clear hA0 hval0
  refine (core W (of_laid hL) l0 _ s0 w0 a1 (bounds_i64 w1) a2 b2 (bounds_u8 w2) (bounds_u8 y2)).mono fun e W' ⟨he, hg⟩ => ?_
  subst he
  have bel := hg.below
  exact ⟨_, rfl, _, _, _, [], _, [], hW', trodAll_mk1 (shut_bool Tryd.underlying4 _), (trodAll_cons_mk (Below.trod laidOut (by kernel_rfl) (of_decide_eq_true (by kernel_rfl)) h0 bel lt0) (trodAll_cons_mk (shut_int Tryd.underlying3 w1) (trodAll_cons_mk (shut_two a2 b2 w2 y2) trodAll_mk0))), rfl, bel.frame _, fun h => by cases h⟩

theorem over : Rows.crcTurnedRow.holds Tryd.pinned (OpenSpec.ofChange Rows.crcTurnedSpec) :=
  OpenClaim.holds_of_wide 7 Tryd.f7 rfl rfl rfl rfl rfl rfl rfl ⟨rfl, rfl, rfl, rfl, rfl⟩ rfl rfl rfl rfl rfl (by kernel_rfl) Tryd.func7 (by kernel_rfl)
    (of_decide_eq_true (by kernel_rfl)) (by unfold Func.isWrapper; first | (rw [if_pos (by decide +kernel)]; kernel_rfl) | (rw [if_neg (by decide +kernel)]; exact ⟨rfl, rfl⟩))
    (fun os started H enc _ => lifted os started H enc)

/-- The statement. -/
theorem proved : Rows.CrcTurnedCardSaid :=
  Claim7.holds_tied_plain_at .later [] [.data] true (true, "9df2169b39a1313060d4e837afff9edd65b177fdbcba449fe7b46e87d7471214") false
    over (fun _ h => by cases h) (by kernel_rfl) (fun _ h => by cases h) crcTurned_row_tie rfl ⟨rfl, rfl⟩ (by kernel_rfl) rfl
    (fun f fn hf hfn => by
      obtain rfl : f = 7 := Option.some.inj ((show Tryd.prog.funcNamed "newel/newellaw09.CrcTurned" = some 7 by kernel_rfl).symm.trans hf) |>.symm
      obtain rfl : fn = Tryd.f7 := (Option.some.inj (Tryd.func7.symm.trans hfn)).symm
      exact ⟨by kernel_rfl, fun j t ht => by
        rw [Tryd.params7] at ht
        have hm : t ∈ [22, 3, 34] := by simpa using Array.mem_of_getElem? ht
        have hall : ([22, 3, 34].all fun u => !Tryd.prog.wantsStandIn u) = true := by kernel_rfl
        exact (show Tryd.prog.wantsStandIn t = false by simpa using List.all_eq_true.1 hall t hm)⟩)
    (by kernel_rfl)
#print axioms proved
end Go.Proofs.YtbelhaaibieehaaDoor.crcTurned
