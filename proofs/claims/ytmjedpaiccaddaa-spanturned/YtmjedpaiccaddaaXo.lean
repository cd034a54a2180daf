/-
  The instants at which spans begin or end, as the program goes through them: what its iterator hands to a loop, whatever the loop's body does, so long as the body keeps blocks of numbers.  Conditions: the spans are at most 500.
-/
import Derived.Test.YtmjedpaiccaddaaXn
import Derived.RangeFuncNested
import Derived.RangeFuncBound
import Derived.RangeFuncCalls
import Derived.RangeFuncLeaves
import Derived.Shelf.Abstract
import Derived.Shelf.RegionOpen
import Derived.WalkKit
import Derived.OwnWalkIn
import Derived.TacticsInMore
import Derived.LoopNIn
import Derived.LoopIn
import Derived.Maps.AppendAt
import Derived.Stop.RegionWithIn
import Derived.Sort.CutIn
namespace Go.Proofs.Ytmjedpaiccaddaa.Span
set_option maxRecDepth 100000
open Go.ChangeShapes Go.WideShapes Go.ChangeAt Go.RowKit Go.Shelf
open Go.Proofs.Ytmjedpaiccaddaa.Divs Go.Proofs.Ytmjedpaiccaddaa.Grow
open Go.Proofs.Ytmjedpaiccaddaa.By (Sk SL)
open Go.Proofs.Ytmjedpaiccaddaa.Sp

attribute [local go_sem] Oper.semAt_some

theorem Ws.form {W : World} {v : Value} {xs : List Sp} (h : Ws W v xs) : ∃ ad cap, v = .slice ad xs.length cap ∧ xs.length ≤ 9223372036854775807 ∧ (∀ i x, xs[i]? = some x → ∃ b off, ad = some ⟨b, off, none⟩ ∧ At W b (off + i * 4) x) := by
  rcases Nat.eq_zero_or_pos xs.length with h0 | h0
  · obtain ⟨ad, cap, e, hl⟩ := h.len
    refine ⟨ad, cap, e, hl, fun i x hx => ?_⟩
    have := (List.getElem?_eq_some_iff.1 hx).1
    omega
  · obtain ⟨b, off, cap, e, h1, h2, _, hc⟩ := h.has h0
    exact ⟨_, cap, e, by omega, fun i x hx => ⟨b, off, rfl, hc i x hx⟩⟩

theorem make_ints (n : Nat) (h : n ≤ 5000) : ∃ MC : Array Value, MC.size = 2 * n ∧ ∀ W : World, (Instr.makeSlice 59 (.int .i64 0) (.int .i64 (2 * (n : Int)))).run Try.prog W = .ok (.slice (some ⟨W.heap.size, 0, none⟩) 0 (2 * n)) (W.alloc (.cells MC 3)) := by
  obtain ⟨i0, hi, hz0, hz1, hz2⟩ := info_parts By.info_int
  have e : ((2 * (n : Int)).toNat * 1) = 2 * n := by omega
  have e2 : (2 * (n : Int)).toNat = 2 * n := by omega
  refine ⟨madeCells (Value.int .i64 0).cells (2 * n), by simp [madeCells, Value.cells], fun W => ?_⟩
  have := run_make (P := Try.prog) W 59 3 i0 (.int .i64 0) Try.underlying59 hi hz0 .i64 .i64 0 (2 * (n : Int)) (by omega) (by omega) (by rw [hz2]; omega) (by omega)
  rw [hz1] at this
  rw [e] at this
  simpa [e2] using this

theorem cells_pair' (W : World) {n : Nat} (x y : Value) (t : TypeId) (hn : W.heap.size = n) : ∀ j u, [x, y][j]? = some u → (W.alloc (.cells #[x, y] t)).cell? ((⟨n, 0, none⟩ : Addr).add j) = some u := by
  subst hn
  intro j u hu
  rw [By.add_zero, World.cell?_alloc_new]
  simpa using hu

theorem cells_pair (W : World) (x y : Value) (t : TypeId) : ∀ j u, [x, y][j]? = some u → (W.alloc (.cells #[x, y] t)).cell? ((⟨W.heap.size, 0, none⟩ : Addr).add j) = some u := by
  intro j u hu
  rw [By.add_zero, World.cell?_alloc_new]
  simpa using hu

theorem ends_more {l : List Sp} {k : Nat} {x : Sp} (h : l[k]? = some x) : (ends (l.take (k + 1))).map (Value.int .i64) = (ends (l.take k)).map (Value.int .i64) ++ [.int .i64 x.f, .int .i64 x.t] := by
  rw [take_at h, ends_append, List.map_append]
  rfl

set_option maxHeartbeats 8000000 in
theorem bounds1_in (n : Nat) (hn : 1 ≤ n) (l : List Sp) (hl : l.length ≤ 500) (lo B : Nat) (lv : Value) (J : Nat → World → Prop) (W : World)
    (hJ : ∀ k W W', J k W → Later W W' → J k W')
    (hc : W.cell? ⟨B, 0, none⟩ = some lv) (hs : Ws W lv l)
    (hY : ∀ (k : Nat) W, J k W → k + 1 < (Es l).length → YieldAt Fence.wide (n - 1) Try.prog lo #[.int .i64 (ei l k), .int .i64 (ei l (k + 1))] W fun e W' => e = .returned (.bool true) ∧ J (k + 1) W' ∧ Stays W W')
    (h0 : J 0 W) :
    CallsIn Fence.wide n Try.prog 36 #[.func (.yield lo) #[] #[], .pointer (some ⟨B, 0, none⟩)] W fun e W' => (∃ v, e = .returned v) ∧ J ((Es l).length - 1) W' := by
  have HJ := Lib.hid hJ
  have HY := Lib.hid hY
  have H0 := Lib.hid h0
  clear hJ hY h0
  obtain ⟨ad, cap, rfl, hm, hf⟩ := hs.form
  have HF := Lib.hid hf
  obtain ⟨q, hq⟩ : ∃ q, l.length = q := ⟨_, rfl⟩
  rw [hq] at hm hc hl
  have HQ := Lib.hid hq
  clear hs hf hq
  obtain ⟨MC, hMC, mk⟩ := make_ints q (by omega)
  obtain ⟨i0, hi, hz0, hz1, hz2⟩ := info_parts By.info_int
  have HI := Lib.hid hi
  have HZ0 := Lib.hid hz0
  have HZ1 := Lib.hid hz1
  have HZ2 := Lib.hid hz2
  have HO : Hid ((W.alloc (.cells MC 3)).ownsRow W.heap.size 3 1 (.slice (some ⟨W.heap.size, 0, none⟩) 0 (2 * q)) 0 ((ends (l.take 0)).map (Value.int .i64))) := Lib.hid (by
    rw [List.take_zero]
    exact World.ownsRow_made W MC (2 * q) (Nat.le_refl _) (by simp only [maxLen]; omega) (by omega))
  have HG := Lib.hid ((Later.refl W).put (.cells MC 3))
  have hc1 := gsome HG.out hc
  clear hi hz0 hz1 hz2 hMC
  refine callsIn_of_wp Try.func36 rfl trivial ?_ rfl
  simp only [Try.ntmps36, List.size_toArray, List.length_cons, List.length_nil, Nat.reduceAdd, Nat.reduceSub, Array.replicate_succ, Array.replicate_zero, List.push_toArray, List.append_toArray, List.nil_append, List.cons_append]
  gi_wp2
  gi_loopw [3, 13] (fun r i wr => ∃ k : Nat, k ≤ q ∧ i = .int .i64 (k : Int) ∧ wr.ownsRow W.heap.size 3 1 r (2 * k) ((ends (l.take k)).map (Value.int .i64)) ∧ r ≠ .slice none 0 0 ∧ Later W wr) (fun _ i _ => q - (intOf i).toNat)
  case atStart => exact ⟨0, by omega, rfl, HO.out, by simp, HG.out⟩
  case round =>
    obtain ⟨k, hk, rfl, hr, hne, hg⟩ := hrel
    have HR := Lib.hid hr
    have HNE := Lib.hid hne
    have HL := Lib.hid hg
    clear hr hne hg HO HG hc1 hc mk
    by_cases hlt : k < q
    · obtain ⟨x, hx⟩ : ∃ x, l[k]? = some x := ⟨_, List.getElem?_eq_getElem (by rw [HQ.out]; exact hlt)⟩
      obtain ⟨B0, off, rfl, hat⟩ := HF.out k x hx
      obtain ⟨c0, c1, c2, c3⟩ := hat.later HL.out
      have HE := Lib.hid (ends_more hx)
      clear hx hat
      have hkz : (k : Int) < (q : Int) := by omega
      have ad : ∀ j, (⟨B0, off, none⟩ : Addr).add j = ⟨B0, off + j, none⟩ := Addr.add_mid B0 off
      gi_wp2_with (gi_at_builtin; refine wpListIn_append_own _ rfl _ _ 59 rfl W.heap.size 3 i0 (.int .i64 0) 1 8 Try.underlying59 HI.out HZ0.out HZ1.out HZ2.out rfl (by decide) _ (2 * k) _ rfl (World.ownsRow.alloc (World.ownsRow.alloc HR.out _) _) ⟨_, 0, none⟩ 2 2 [.int .i64 x.f, .int .i64 x.t] rfl rfl (cells_pair' _ _ _ _ (by simp)) (by simp [Value.oneCell']) (by simp only [maxLen]; omega) (by omega) (by have := HL.out.size; simp; omega) ?_; intro v' w1 hown hgrow hnil; have HOW := Lib.hid hown; have HGR := Lib.hid hgrow; have HNI := Lib.hid hnil; clear hown hgrow hnil)
      go_roundw
      case rel =>
        refine ⟨k + 1, by omega, by go_num, ?_, ?_, ?_⟩
        · rw [HE.out]; exact HOW.out
        · intro e
          exact HNE.out ((HNI.out.1 e).1)
        · refine Later.of_below ((HL.out.below.trans ((((Later.refl wr).put _).put _).below.mono HL.out.size)).grown HGR.out (by have := HL.out.size; simp; omega) (fun j e => ?_))
          exact (World.ownsRow.lt HR.out j e).1
      case measure => simp [intOf]; omega
    · obtain rfl : k = q := by omega
      have hkz : ¬ (k : Int) < (k : Int) := by omega
      have hown := HR.out
      have hfull : (ends (l.take k)) = ends l := by rw [List.take_of_length_le (by rw [HQ.out]; omega)]
      rw [hfull] at hown
      rcases hown.2 with ⟨e, _⟩ | ⟨g, cap2, cur, hv, hg0, hgh, hcap1, hcap2, hcs, htk⟩
      · exact absurd e HNE.out
      have hNb : Nb wr g := ⟨cur, hgh⟩
      have hle : (ends l).length = 2 * k := by rw [ends_len, HQ.out]
      subst hv
      have hH : Sort.Holds (Value.int .i64) wr g 0 (ends l).toArray := by
        intro j hj
        have hj' : j < (ends l).length := by simpa using hj
        have e : ((ends l).map (Value.int .i64))[j]? = some (.int .i64 (ends l).toArray[j]!) := by
          rw [List.getElem?_map, getElem!_pos _ j hj, List.getElem?_eq_getElem hj']
          rfl
        have c := World.ownsRow.cells hown (g := g) rfl _ _ e
        rw [By.add_zero] at c
        rw [Nat.zero_add]
        exact ⟨c, hown.frozenAt j⟩
      have K1 := Lib.hid (sort_any (ends l) g (2 * k) cap2 W wr hNb hH hle (by omega) HL.out hg0)
      obtain ⟨m, hm'⟩ : ∃ m, (Lib.compact (so l)).length = m := ⟨_, rfl⟩
      have HM : Hid ((Es l).length = m) := Lib.hid hm'
      have hm5 : m ≤ 1000 := by
        have : (Lib.compact (so l)).length ≤ (so l).length := by
          unfold Lib.compact Lib.compactUpTo
          rw [List.length_map]
          refine Nat.le_trans (List.length_filter_le _ _) ?_
          simp
        rw [so_len, HQ.out] at this
        omega
      have k2 := fun W2 a b c => comp_any (so l) g (2 * k) cap2 W W2 a b (by rw [so_len, HQ.out]) (by omega) hcap1 c hg0
      rw [hm'] at k2
      have K2 := Lib.hid k2
      have hcap3 : cap2 ≤ 9223372036854775807 := by simpa [maxLen] using hcap2
      clear hown hfull hg0 hgh hcap1 hcap2 hcs htk hNb hle hH hm k2 hm'
      gi_wp2_with (first
        | (refine ⟨trivial, ?_⟩; gi_at_call 37; refine (callsIn_wide.2 K1.out).mono ?_; rintro e w2 ⟨rfl, hN2, hH2, hL2⟩; have K3 := Lib.hid (K2.out _ hN2 hH2 hL2); clear hN2 hH2 hL2)
        | (refine ⟨trivial, ?_⟩; gi_at_call 38; refine (callsIn_wide.2 K3.out).mono ?_; rintro e w3 ⟨rfl, hRI, hL3⟩; have HRI := Lib.hid (show RI w3 g (Es l) from hRI); have HJ0 := Lib.hid (HJ.out _ _ _ H0.out hL3); clear hRI hL3))
      gi_loopw [6] (fun i wr => ∃ k : Nat, (k + 1 ≤ m ∨ k = 0) ∧ i = .int .i64 ((k : Int) + 1) ∧ J k wr ∧ RI wr g (Es l)) (fun i _ => 2000 - (intOf i).toNat)
      case atStart => exact ⟨0, .inr rfl, rfl, HJ0.out, HRI.out⟩
      case round =>
        obtain ⟨j, hj, rfl, hjj, hri⟩ := hrel
        by_cases hjm : j + 1 < m
        · obtain ⟨fn, tmps, assign, body, hy, hR⟩ := HY.out j wr.drew (HJ.out _ _ _ hjj (later_drewN wr 1)) (by rw [HM.out]; exact hjm)
          have e0 := hri.cell (ei_get (by rw [HM.out]; omega : j < (Es l).length))
          have e1 := hri.cell (ei_get (by rw [HM.out]; omega : j + 1 < (Es l).length))
          have HRI1 := Lib.hid hri
          clear hri hjj
          have hjz : (j : Int) + 1 < (m : Int) := by omega
          have i1 : (j : Int) < (m : Int) := by omega
          have r1 : IntKind.i64.wrap ((j : Int) + 1 - 1) = (j : Int) := by rw [IntKind.wrap_i64]; omega
          have r2 : IntKind.i64.wrap (j : Int) = (j : Int) := by rw [IntKind.wrap_i64]; omega
          have ez : ((j : Int) + 1).toNat = j + 1 := by omega
          have ez0 : ((j : Int)).toNat = j := by omega
          have pz : (0 : Int) ≤ (j : Int) + 1 := by omega
          have pz0 : (0 : Int) ≤ (j : Int) := by omega
          have nz0 : ¬ ((j : Int) < 0) := by omega
          have nz : ¬ ((j : Int) + 1 < 0) := by omega
          have ad2 : ∀ i, (⟨g, 0, none⟩ : Addr).add i = ⟨g, i, none⟩ := By.add_zero g
          gi_upto_region 11 with fail
          gi_region_with (refine hR.mono ?_; rintro e W3 ⟨rfl, hJ3, hS3⟩)
          all_goals
            gi_wp2
            go_roundw
            case rel => exact ⟨j + 1, .inl (by omega), by go_num, hJ3, hS3.ri ((stays_later (later_drewN wr 1)).ri HRI1.out)⟩
            case measure => simp [intOf]; omega
        · have hjz : ¬ (j : Int) + 1 < (m : Int) := by omega
          have hje : j = (Es l).length - 1 := by rw [HM.out]; omega
          have HE2 := Lib.hid hje
          have HJ2 := Lib.hid hjj
          clear hje hri hjj
          gi_wp2
          go_end0
          exact ⟨⟨_, rfl⟩, by rw [← HE2.out]; exact HJ2.out⟩

end Go.Proofs.Ytmjedpaiccaddaa.Span
