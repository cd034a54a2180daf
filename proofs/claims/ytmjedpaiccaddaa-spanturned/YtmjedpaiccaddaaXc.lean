/-
  What more calls on single spans and on slices of them answer: the reckoning's first span that an instant is in, whether one goes ahead of another, whether spans may be, whether two rows are the same.  Conditions: as each theorem states.
-/
import Derived.Test.YtmjedpaiccaddaaXb
import Derived.Test.YtmjedpaiccaddaaLy
import Derived.Shelf.SlicesQ.IndexFunc
namespace Go.Proofs.Ytmjedpaiccaddaa.Span
set_option maxRecDepth 100000
open Go.ChangeShapes Go.WideShapes Go.ChangeAt Go.RowKit
open Go.Proofs.Ytmjedpaiccaddaa.Divs Go.Proofs.Ytmjedpaiccaddaa.Grow
open Go.Proofs.Ytmjedpaiccaddaa.By (Sk SL bool_no bool_yes)
open Go.Proofs.Ytmjedpaiccaddaa.Sp

set_option maxHeartbeats 2000000 in
theorem rat_any (v : Value) (l : List Sp) (t : Int) (w : World) (h : Ws w v l) :
    Calls Try.prog 16 #[v, .int .i64 t] w fun e w' => e = .returned (.tuple #[.agg (sc (av l t)).toArray, .bool (ab l t)]) ∧ Later w w' := by
  obtain ⟨S, hS⟩ : ∃ S, S = av l t := ⟨_, rfl⟩
  obtain ⟨B, hB⟩ : ∃ B, B = ab l t := ⟨_, rfl⟩
  rw [← hS, ← hB]
  have HP : Hid (∀ o, fi l t = o → S = o.getD z4 ∧ B = o.isSome) := Lib.hid (fun o ho => by rw [hS, hB]; exact at_post ho)
  clear hS hB
  have HR0 := Lib.hid (RA.new w #[.int .i64 0, .int .i64 0, .int .i64 0, .int .i64 0] 31)
  have HG0 := Lib.hid ((Later.refl w).alloc #[.int .i64 0, .int .i64 0, .int .i64 0, .int .i64 0] 31)
  obtain ⟨n, hn⟩ : ∃ n, l.length = n := ⟨_, rfl⟩
  have HN := Lib.hid hn
  rcases Nat.eq_zero_or_pos n with h0 | h0
  · obtain ⟨ad, cap, rfl, hm⟩ := h.len
    rw [hn] at hm ⊢
    subst h0
    have HV := Lib.hid (HP.out none (fi_miss (k := 0) (by omega) rfl))
    clear h hn
    go_enter Try.func16, Try.ntmps16
    go_wp2_with fail
    refine wp_loop_rounds 1 ?_
    rw [rounds_succ]
    go_wp2
    refine bodyPost_ret (results_rt (P := Try.prog) (fn := Try.f16) Try.results16 _ _ w.heap.size 31 _ _ _ rfl rfl HR0.out Try.underlying31 rfl (by kernel_rfl)) rfl ?_
    rw [HV.out.1, HV.out.2]
    exact ⟨rfl, HG0.out⟩
  · obtain ⟨b, off, cap, rfl, hm1, hm2, hb, hc⟩ := h.has (by omega)
    rw [hn] at hm1 ⊢
    have HC := Lib.hid hc
    clear h hn hc
    have ad : ∀ j, (⟨b, off, none⟩ : Addr).add j = ⟨b, off + j, none⟩ := Addr.add_mid b off
    go_enter Try.func16, Try.ntmps16
    go_wp2_with fail
    go_loopw [6] (fun i wr => ∃ k : Nat, k ≤ n ∧ i = .int .i64 (k : Int) ∧ fi (l.take k) t = none ∧ RA wr w.heap.size #[.int .i64 0, .int .i64 0, .int .i64 0, .int .i64 0] 31 ∧ Later w wr) (fun i _ => n - (intOf i).toNat)
    case atStart => exact ⟨0, by omega, rfl, rfl, HR0.out, HG0.out⟩
    case round =>
      obtain ⟨k, hk, rfl, hj, hr, hg⟩ := hrel
      have HR := Lib.hid hr
      have HG := Lib.hid hg
      have HJ := Lib.hid hj
      clear hr hg hj
      by_cases hlt : k < n
      · obtain ⟨x, hx⟩ : ∃ x, l[k]? = some x := ⟨_, List.getElem?_eq_getElem (by rw [HN.out]; exact hlt)⟩
        have HX := Lib.hid hx
        obtain ⟨c0, c1, c2, c3⟩ := (HC.out k x hx).later HG.out
        clear hx
        have hkz : (k : Int) < (n : Int) := by omega
        by_cases t1 : x.f ≤ t
        · by_cases t2 : t < x.t
          · have HV := Lib.hid (HP.out (some x) (fi_hit HX.out HJ.out ⟨t1, t2⟩))
            have r0 := HR.out.cell 0 _ rfl
            have r1 := HR.out.cell 1 _ rfl
            have r2 := HR.out.cell 2 _ rfl
            have r3 := HR.out.cell 3 _ rfl
            have f0 := HR.out.froz 0
            have f1 := HR.out.froz 1
            have f2 := HR.out.froz 2
            have f3 := HR.out.froz 3
            go_wp2
            refine bodyPost_ret (results_rt (P := Try.prog) (fn := Try.f16) Try.results16 _ _ w.heap.size 31 _ _ _ rfl rfl (HR.out.set4 _ _ _ _) Try.underlying31 rfl (by kernel_rfl)) rfl ?_
            rw [HV.out.1, HV.out.2]
            exact ⟨rfl, later_set4 HG.out (Nat.le_refl _) _ _ _ _⟩
          · have HV := Lib.hid (fi_out HX.out HJ.out (by omega))
            go_wp2
            go_roundw
            case rel => exact ⟨k + 1, by omega, by go_num, HV.out, HR.out, HG.out⟩
            case measure => simp [intOf]; omega
        · have HV := Lib.hid (fi_out HX.out HJ.out (by omega))
          go_wp2
          go_roundw
          case rel => exact ⟨k + 1, by omega, by go_num, HV.out, HR.out, HG.out⟩
          case measure => simp [intOf]; omega
      · have HV := Lib.hid (HP.out none (fi_miss (by rw [HN.out]; omega) HJ.out))
        have hkz : ¬ (k : Int) < (n : Int) := by omega
        have r0 := HR.out.cell 0 _ rfl
        have r1 := HR.out.cell 1 _ rfl
        have r2 := HR.out.cell 2 _ rfl
        have r3 := HR.out.cell 3 _ rfl
        have f0 := HR.out.froz 0
        have f1 := HR.out.froz 1
        have f2 := HR.out.froz 2
        have f3 := HR.out.froz 3
        go_wp2
        refine bodyPost_ret (results_rt (P := Try.prog) (fn := Try.f16) Try.results16 _ _ w.heap.size 31 _ _ _ rfl rfl (HR.out.set4 _ _ _ _) Try.underlying31 rfl (by kernel_rfl)) rfl ?_
        rw [HV.out.1, HV.out.2]
        exact ⟨rfl, later_set4 HG.out (Nat.le_refl _) _ _ _ _⟩

theorem empty_any (x : Sp) (w : World) : Calls Try.prog 27 #[.agg (sc x).toArray] w fun e w' => e = .returned (.bool (decide (x.f ≥ x.t))) ∧ Later w w' := by
  have HG := Lib.hid ((Later.refl w).alloc (sc x).toArray 31)
  unfold sc at *
  go_enter Try.func27, Try.ntmps27
  go_wp2_with fail
  go_ret
  exact ⟨rfl, HG.out⟩

theorem over_any (x y : Sp) (w : World) : Calls Try.prog 39 #[.agg (sc x).toArray, .agg (sc y).toArray] w fun e w' => e = .returned (.bool (ov x y)) ∧ Later w w' := by
  have HG := Lib.hid (((Later.refl w).alloc (sc x).toArray 31).alloc (sc y).toArray 31)
  obtain ⟨O, hO⟩ : ∃ O, O = ov x y := ⟨_, rfl⟩
  rw [← hO]
  unfold sc at *
  by_cases c : x.p = y.p
  · have t : (x.p != y.p) = false := by simp [c]
    have HV : Hid (O = decide (x.f ≥ y.f)) := Lib.hid (by rw [hO]; unfold ov; rw [if_neg (by simp [c])])
    clear hO c
    go_enter Try.func39, Try.ntmps39
    go_wp2_with fail
    go_ret
    exact ⟨retb HV.out.symm, HG.out⟩
  · have t : (x.p != y.p) = true := by simpa using c
    have HV : Hid (O = decide (x.p > y.p)) := Lib.hid (by rw [hO]; unfold ov; rw [if_pos (by simpa using c)])
    clear hO c
    go_enter Try.func39, Try.ntmps39
    go_wp2_with fail
    go_ret
    exact ⟨retb HV.out.symm, HG.out⟩

/-- May spans be? -/
def mb (l : List Sp) : Bool := decide (l.length ≤ 500) && !l.any (fun x => decide (x.f ≥ x.t))

theorem mb_iff (l : List Sp) : mb l = true ↔ l.length ≤ 500 ∧ May l := by
  unfold mb May
  simp only [Bool.and_eq_true, decide_eq_true_eq, Bool.not_eq_true', List.any_eq_false]
  constructor
  · rintro ⟨a, b⟩; exact ⟨a, fun s hs => by have := b s hs; omega⟩
  · rintro ⟨a, b⟩; exact ⟨a, fun s hs => by have := b s hs; omega⟩

instance : Inhabited Sp := ⟨z4⟩

theorem some_none (ad : Option Addr) (cap : Nat) (w : World) : Calls Try.prog 28 #[.slice ad 0 cap, .func (.func 27) #[] #[]] w fun e w' => e = .returned (.bool false) ∧ Later w w' := by
  have HG := Lib.hid (Later.refl w)
  go_enter Try.func28, Try.ntmps28
  go_wp2
  refine wp_loop_rounds 1 ?_
  rw [rounds_succ]
  go_wp2
  go_ret
  exact ⟨rfl, HG.out⟩

theorem some_any (v : Value) (l : List Sp) (w : World) (h : Ws w v l) : Calls Try.prog 28 #[v, .func (.func 27) #[] #[]] w fun e w' => e = .returned (.bool (l.any (fun x => decide (x.f ≥ x.t)))) ∧ Later w w' := by
  rcases Nat.eq_zero_or_pos l.length with h0 | h0
  · obtain rfl := List.length_eq_zero_iff.1 h0
    obtain ⟨ad, cap, rfl, _⟩ := h.bare
    exact some_none ad cap w
  · obtain ⟨b, off, cap, rfl, hm1, hm2, hb, hc⟩ := h.has h0
    have k := AnyQ.slices_ContainsFunc Ly.LF 4 Try.isAgg31 Try.sizeOf31 sc (fun _ => rfl) (fun x => decide (x.f ≥ x.t)) 27 #[] (enters_of Try.func27 (by kernel_rfl) rfl) b off l.length cap l w
      (fun W x hW => (empty_any x W).mono (fun e w' ⟨he, hg⟩ => ⟨he, hW.trans (hg.below.mono hW.size)⟩)) (Nat.le_refl _) (by omega) hb (by
        intro j hj i u hu
        have e : l[j]? = some l[j]! := by rw [getElem!_pos l j hj]; exact List.getElem?_eq_getElem hj
        have hi : i < 4 := (List.getElem?_eq_some_iff.1 hu).1
        obtain ⟨c0, c1, c2, c3⟩ := hc j _ e
        match i, hi with
        | 0, _ => rw [Nat.add_zero]; exact c0.trans hu
        | 1, _ => exact c1.trans hu
        | 2, _ => exact c2.trans hu
        | 3, _ => exact c3.trans hu)
    refine k.mono ?_
    rintro e w' ⟨rfl, hB⟩
    rw [List.take_length]
    exact ⟨rfl, Later.of_below hB⟩

theorem maybe_any (v : Value) (l : List Sp) (w : World) (h : Ws w v l) : Calls Try.prog 20 #[v] w fun e w' => e = .returned (.bool (mb l)) ∧ Later w w' := by
  have K := Lib.hid (some_any v l w h)
  have HG := Lib.hid (Later.refl w)
  obtain ⟨O, hO⟩ : ∃ O, O = mb l := ⟨_, rfl⟩
  rw [← hO]
  unfold mb at hO
  obtain ⟨ad, cap, rfl, hm⟩ := h.len
  clear h
  obtain ⟨n, hn⟩ : ∃ n, l.length = n := ⟨_, rfl⟩
  rw [hn] at hO hm K ⊢
  clear hn
  by_cases c : n ≤ 500
  · have cz : (n : Int) ≤ 500 := by omega
    have HV : Hid (O = !l.any (fun x => decide (x.f ≥ x.t))) := Lib.hid (by rw [hO]; simp [c])
    clear hO
    go_enter Try.func20, Try.ntmps20
    go_wp2_with fail
    refine K.out.mono ?_
    rintro e w1 ⟨rfl, hg1⟩
    have HG1 := Lib.hid hg1
    generalize l.any (fun x => decide (x.f ≥ x.t)) = q at *
    clear hg1
    go_wp2_with fail
    go_ret
    exact ⟨retb HV.out.symm, HG1.out⟩
  · have cz : ¬ (n : Int) ≤ 500 := by omega
    have HV : Hid (O = false) := Lib.hid (by rw [hO]; simp [c])
    clear hO
    go_enter Try.func20, Try.ntmps20
    go_wp2_with fail
    go_ret
    exact ⟨retb HV.out.symm, HG.out⟩

end Go.Proofs.Ytmjedpaiccaddaa.Span
