/-
  What the reckoning's calls on slices of spans answer: what is between two instants, whether spans may be, whether two rows are the same; and spans whose weights are taken off.  Conditions: as each theorem states.
-/
import Derived.Test.YtmjedpaiccaddaaXd
namespace Go.Proofs.Ytmjedpaiccaddaa.Span
set_option maxRecDepth 100000
open Go.ChangeShapes Go.WideShapes Go.ChangeAt Go.RowKit
open Go.Proofs.Ytmjedpaiccaddaa.Divs Go.Proofs.Ytmjedpaiccaddaa.Grow
open Go.Proofs.Ytmjedpaiccaddaa.By (Sk SL bool_no bool_yes)
open Go.Proofs.Ytmjedpaiccaddaa.Sp

theorem ws_one' {W : World} {n : Nat} (x : Sp) (hn : W.heap.size = n) : Ws (W.alloc (.cells #[.int .i64 x.f, .int .i64 x.t, .int .i64 x.m, .int .i64 x.p] 31)) (.slice (some ⟨n, 0, none⟩) 1 1) [x] := by
  subst hn
  exact ws_one W x

set_option maxHeartbeats 4000000 in
theorem rcut_any (v : Value) (l : List Sp) (a b : Int) (w : World) (h : Ws w v l) (hb : l.length ≤ 50000) :
    Calls Try.prog 18 #[v, .int .i64 a, .int .i64 b] w fun e w' => ∃ v', e = .returned v' ∧ WL w' w.heap.size v' (cu l a b) ∧ Later w w' := by
  obtain ⟨n, hn⟩ : ∃ n, l.length = n := ⟨_, rfl⟩
  have HN := Lib.hid hn
  have HG0 := Lib.hid (Later.refl w)
  have HV0 : Hid (WL w w.heap.size (.slice none 0 0) (cu (l.take 0) a b)) := Lib.hid (by rw [List.take_zero, cu_nil]; exact WL.nil w _)
  rcases Nat.eq_zero_or_pos n with h0 | h0
  · obtain ⟨ad, cap, rfl, hm⟩ := h.len
    rw [hn] at hm ⊢
    have hl : l = [] := List.length_eq_zero_iff.1 (hn.trans h0)
    subst h0
    have HV : Hid (WL w w.heap.size (.slice none 0 0) (cu l a b)) := Lib.hid (by rw [hl, cu_nil]; exact WL.nil w _)
    clear h hn hl HN
    go_enter Try.func18, Try.ntmps18
    go_wp2_with fail
    refine wp_loop_rounds 1 ?_
    rw [rounds_succ]
    go_wp2
    go_ret
    exact ⟨_, rfl, HV.out, HG0.out⟩
  · obtain ⟨B, off, cap, rfl, hm1, hm2, hB, hc⟩ := h.has (by omega)
    rw [hn] at hm1 hb ⊢
    have HC := Lib.hid hc
    clear h hn hc
    have ad : ∀ j, (⟨B, off, none⟩ : Addr).add j = ⟨B, off + j, none⟩ := Addr.add_mid B off
    go_enter Try.func18, Try.ntmps18
    go_wp2_with fail
    go_loopw [7, 8] (fun r i wr => ∃ k : Nat, k ≤ n ∧ i = .int .i64 (k : Int) ∧ WL wr w.heap.size r (cu (l.take k) a b) ∧ Later w wr) (fun _ i _ => n - (intOf i).toNat)
    case atStart => exact ⟨0, by omega, rfl, HV0.out, HG0.out⟩
    case round =>
      obtain ⟨k, hk, rfl, hr, hg⟩ := hrel
      have HR := Lib.hid hr
      have HG := Lib.hid hg
      clear hr hg
      by_cases hlt : k < n
      · obtain ⟨x, hx⟩ : ∃ x, l[k]? = some x := ⟨_, List.getElem?_eq_getElem (by rw [HN.out]; exact hlt)⟩
        have HX := Lib.hid hx
        obtain ⟨c0, c1, c2, c3⟩ := (HC.out k x hx).later HG.out
        clear hx
        have hkz : (k : Int) < (n : Int) := by omega
        have HCU : Hid ((cu (l.take k) a b).length ≤ k) := Lib.hid (Nat.le_trans (cu_len _ a b) (by rw [List.length_take]; omega))
        by_cases t1 : x.f < a
        · by_cases t2 : x.t > b
          · have HY : Hid (cl a b x = ⟨a, b, x.m, x.p⟩) := Lib.hid (by unfold cl; congr 1 <;> omega)
            by_cases t3 : a < b
            · have HV := Lib.hid (cu_in (a := a) (b := b) HX.out (by rw [HY.out]; exact t3))
              go_wp2_with (refine append_spans rfl (.tmp 37) (.tmp 39) rfl w (by first | exact Later.put (HG.out.put _) _ | exact Later.put (later_set2 (HG.out.put _) HG.out.size _ _) _) u7 (cu (l.take k) a b) rfl (HR.out.later (by first | exact Later.put ((Later.refl wr).put _) _ | exact Later.put (later_set2 ((Later.refl wr).put _) (Nat.le_refl _) _ _) _)) _ [⟨a, b, x.m, x.p⟩] rfl (ws_one' ⟨a, b, x.m, x.p⟩ (by simp)) (by have := HCU.out; simp only [List.length_cons, List.length_nil]; omega) ?_; intro v' w2 hw hl _; have HW := Lib.hid hw; have HL := Lib.hid hl; clear hw hl)
              go_roundw
              case rel => exact ⟨k + 1, by omega, by go_num, by rw [HV.out, HY.out]; exact HW.out, HL.out⟩
              case measure => simp [intOf]; omega
            · have HV := Lib.hid (cu_out (a := a) (b := b) HX.out (by rw [HY.out]; exact t3))
              go_wp2
              go_roundw
              case rel => exact ⟨k + 1, by omega, by go_num, by rw [HV.out]; exact HR.out.later (by first | exact ((Later.refl wr).put _) | exact (later_set2 ((Later.refl wr).put _) (Nat.le_refl _) _ _)), (by first | exact (HG.out.put _) | exact (later_set2 (HG.out.put _) HG.out.size _ _))⟩
              case measure => simp [intOf]; omega
          · have HY : Hid (cl a b x = ⟨a, x.t, x.m, x.p⟩) := Lib.hid (by unfold cl; congr 1 <;> omega)
            by_cases t3 : a < x.t
            · have HV := Lib.hid (cu_in (a := a) (b := b) HX.out (by rw [HY.out]; exact t3))
              go_wp2_with (refine append_spans rfl (.tmp 37) (.tmp 39) rfl w (by first | exact Later.put (HG.out.put _) _ | exact Later.put (later_set (HG.out.put _) HG.out.size _ _) _) u7 (cu (l.take k) a b) rfl (HR.out.later (by first | exact Later.put ((Later.refl wr).put _) _ | exact Later.put (later_set ((Later.refl wr).put _) (Nat.le_refl _) _ _) _)) _ [⟨a, x.t, x.m, x.p⟩] rfl (ws_one' ⟨a, x.t, x.m, x.p⟩ (by simp)) (by have := HCU.out; simp only [List.length_cons, List.length_nil]; omega) ?_; intro v' w2 hw hl _; have HW := Lib.hid hw; have HL := Lib.hid hl; clear hw hl)
              go_roundw
              case rel => exact ⟨k + 1, by omega, by go_num, by rw [HV.out, HY.out]; exact HW.out, HL.out⟩
              case measure => simp [intOf]; omega
            · have HV := Lib.hid (cu_out (a := a) (b := b) HX.out (by rw [HY.out]; exact t3))
              go_wp2
              go_roundw
              case rel => exact ⟨k + 1, by omega, by go_num, by rw [HV.out]; exact HR.out.later (by first | exact ((Later.refl wr).put _) | exact (later_set ((Later.refl wr).put _) (Nat.le_refl _) _ _)), (by first | exact (HG.out.put _) | exact (later_set (HG.out.put _) HG.out.size _ _))⟩
              case measure => simp [intOf]; omega
        · by_cases t2 : x.t > b
          · have HY : Hid (cl a b x = ⟨x.f, b, x.m, x.p⟩) := Lib.hid (by unfold cl; congr 1 <;> omega)
            by_cases t3 : x.f < b
            · have HV := Lib.hid (cu_in (a := a) (b := b) HX.out (by rw [HY.out]; exact t3))
              go_wp2_with (refine append_spans rfl (.tmp 37) (.tmp 39) rfl w (by first | exact Later.put (HG.out.put _) _ | exact Later.put (later_set (HG.out.put _) HG.out.size _ _) _) u7 (cu (l.take k) a b) rfl (HR.out.later (by first | exact Later.put ((Later.refl wr).put _) _ | exact Later.put (later_set ((Later.refl wr).put _) (Nat.le_refl _) _ _) _)) _ [⟨x.f, b, x.m, x.p⟩] rfl (ws_one' ⟨x.f, b, x.m, x.p⟩ (by simp)) (by have := HCU.out; simp only [List.length_cons, List.length_nil]; omega) ?_; intro v' w2 hw hl _; have HW := Lib.hid hw; have HL := Lib.hid hl; clear hw hl)
              go_roundw
              case rel => exact ⟨k + 1, by omega, by go_num, by rw [HV.out, HY.out]; exact HW.out, HL.out⟩
              case measure => simp [intOf]; omega
            · have HV := Lib.hid (cu_out (a := a) (b := b) HX.out (by rw [HY.out]; exact t3))
              go_wp2
              go_roundw
              case rel => exact ⟨k + 1, by omega, by go_num, by rw [HV.out]; exact HR.out.later (by first | exact ((Later.refl wr).put _) | exact (later_set ((Later.refl wr).put _) (Nat.le_refl _) _ _)), (by first | exact (HG.out.put _) | exact (later_set (HG.out.put _) HG.out.size _ _))⟩
              case measure => simp [intOf]; omega
          · have HY : Hid (cl a b x = ⟨x.f, x.t, x.m, x.p⟩) := Lib.hid (by unfold cl; congr 1 <;> omega)
            by_cases t3 : x.f < x.t
            · have HV := Lib.hid (cu_in (a := a) (b := b) HX.out (by rw [HY.out]; exact t3))
              go_wp2_with (refine append_spans rfl (.tmp 37) (.tmp 39) rfl w (by first | exact Later.put (HG.out.put _) _ | exact Later.put (HG.out.put _) _) u7 (cu (l.take k) a b) rfl (HR.out.later (by first | exact Later.put ((Later.refl wr).put _) _ | exact Later.put ((Later.refl wr).put _) _)) _ [⟨x.f, x.t, x.m, x.p⟩] rfl (ws_one' ⟨x.f, x.t, x.m, x.p⟩ (by simp)) (by have := HCU.out; simp only [List.length_cons, List.length_nil]; omega) ?_; intro v' w2 hw hl _; have HW := Lib.hid hw; have HL := Lib.hid hl; clear hw hl)
              go_roundw
              case rel => exact ⟨k + 1, by omega, by go_num, by rw [HV.out, HY.out]; exact HW.out, HL.out⟩
              case measure => simp [intOf]; omega
            · have HV := Lib.hid (cu_out (a := a) (b := b) HX.out (by rw [HY.out]; exact t3))
              go_wp2
              go_roundw
              case rel => exact ⟨k + 1, by omega, by go_num, by rw [HV.out]; exact HR.out.later (by first | exact ((Later.refl wr).put _) | exact ((Later.refl wr).put _)), (by first | exact (HG.out.put _) | exact (HG.out.put _))⟩
              case measure => simp [intOf]; omega
      · obtain rfl : k = n := by omega
        have HV : Hid (WL wr w.heap.size u7 (cu l a b)) := Lib.hid (by have := HR.out; rwa [List.take_of_length_le (by rw [HN.out]; exact Nat.le_refl _)] at this)
        go_wp2
        go_ret
        exact ⟨_, rfl, HV.out, HG.out⟩

theorem mb_long {l : List Sp} (h : 500 < l.length) : mb l = false := by unfold mb; simp; omega
theorem mb_bad {l : List Sp} {k : Nat} {x : Sp} (hx : l[k]? = some x) (h : x.f ≥ x.t) : mb l = false := by
  unfold mb
  have : l.any (fun x => decide (x.f ≥ x.t)) = true := List.any_eq_true.2 ⟨x, List.mem_of_getElem? hx, by simpa using h⟩
  rw [this]; simp
theorem mb_good {l : List Sp} (h : ∀ j x, j < l.length → l[j]? = some x → ¬ x.f ≥ x.t) : mb l = decide (l.length ≤ 500) := by
  unfold mb
  have : l.any (fun x => decide (x.f ≥ x.t)) = false := by
    rw [List.any_eq_false]
    intro x hx
    obtain ⟨i, hi⟩ := List.mem_iff_getElem?.1 hx
    have := h i x (List.getElem?_eq_some_iff.1 hi).1 hi
    simpa using this
  rw [this]; simp

set_option maxHeartbeats 2000000 in
theorem rmay_any (v : Value) (l : List Sp) (w : World) (h : Ws w v l) : Calls Try.prog 12 #[v] w fun e w' => e = .returned (.bool (mb l)) ∧ Later w w' := by
  obtain ⟨O, hO⟩ : ∃ O, O = mb l := ⟨_, rfl⟩
  rw [← hO]
  have HO := Lib.hid hO
  clear hO
  obtain ⟨n, hn⟩ : ∃ n, l.length = n := ⟨_, rfl⟩
  have HN := Lib.hid hn
  have HG0 := Lib.hid (Later.refl w)
  rcases Nat.eq_zero_or_pos n with h0 | h0
  · obtain ⟨ad, cap, rfl, hm⟩ := h.len
    rw [hn] at hm ⊢
    subst h0
    have HV : Hid (O = true) := Lib.hid (by rw [HO.out, List.length_eq_zero_iff.1 hn]; rfl)
    clear h hn
    go_enter Try.func12, Try.ntmps12
    go_wp2_with fail
    refine wp_loop_rounds 1 ?_
    rw [rounds_succ]
    go_wp2
    go_ret
    exact ⟨retb HV.out.symm, HG0.out⟩
  · obtain ⟨B, off, cap, rfl, hm1, hm2, hB, hc⟩ := h.has (by omega)
    rw [hn] at hm1 ⊢
    have HC := Lib.hid hc
    clear h hn hc
    have ad : ∀ j, (⟨B, off, none⟩ : Addr).add j = ⟨B, off + j, none⟩ := Addr.add_mid B off
    go_enter Try.func12, Try.ntmps12
    go_wp2_with fail
    go_loopw [3] (fun i wr => ∃ k : Nat, k ≤ n ∧ i = .int .i64 (k : Int) ∧ (∀ j x, j < k → l[j]? = some x → x.f < x.t) ∧ Later w wr) (fun i _ => n - (intOf i).toNat)
    case atStart => exact ⟨0, by omega, rfl, by omega, HG0.out⟩
    case round =>
      obtain ⟨k, hk, rfl, hj, hg⟩ := hrel
      have HJ := Lib.hid hj
      have HG := Lib.hid hg
      clear hj hg
      by_cases hlt : k < n
      · obtain ⟨x, hx⟩ : ∃ x, l[k]? = some x := ⟨_, List.getElem?_eq_getElem (by rw [HN.out]; exact hlt)⟩
        have HX := Lib.hid hx
        obtain ⟨c0, c1, c2, c3⟩ := (HC.out k x hx).later HG.out
        clear hx c2 c3
        have hkz : (k : Int) < (n : Int) := by omega
        by_cases t : x.f ≥ x.t
        · have HV : Hid (O = false) := Lib.hid (by rw [HO.out]; exact mb_bad HX.out t)
          have td : decide (x.f ≥ x.t) = true := decide_eq_true t
          go_wp2_with fail
          go_quiet (fail)
          go_wp2_with fail
          go_ret
          exact ⟨retb HV.out.symm, HG.out⟩
        · have HJ' : Hid (∀ j y, j < k + 1 → l[j]? = some y → y.f < y.t) := Lib.hid (fun j y hj hy => by
            by_cases e : j = k
            · subst e
              rw [HX.out] at hy
              obtain rfl := Option.some.inj hy
              omega
            · exact HJ.out j y (by omega) hy)
          have td : decide (x.f ≥ x.t) = false := decide_eq_false t
          go_wp2_with fail
          go_quiet (fail)
          go_wp2_with fail
          go_roundw
          case rel => exact ⟨k + 1, by omega, by go_num, HJ'.out, HG.out⟩
          case measure => simp [intOf]; omega
      · have hkz : ¬ (k : Int) < (n : Int) := by omega
        have HV : Hid (O = decide (n ≤ 500)) := Lib.hid (by rw [HO.out, mb_good (fun j x hj hx => by have := HJ.out j x (by rw [HN.out] at hj; omega) hx; omega), HN.out])
        go_wp2
        go_ret
        refine ⟨?_, HG.out⟩
        rw [HV.out]
        first | rfl | exact retb (decide_eq_decide.2 (by omega))

end Go.Proofs.Ytmjedpaiccaddaa.Span
