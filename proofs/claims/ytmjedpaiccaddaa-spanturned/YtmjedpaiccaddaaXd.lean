/-
  What is between two instants, by the program and by the reckoning; spans without weights.  Conditions: as each theorem states.
-/
import Derived.Test.YtmjedpaiccaddaaXc
import Derived.Laws.Cover1
namespace Go.Proofs.Ytmjedpaiccaddaa.Span
set_option maxRecDepth 100000
open Go.ChangeShapes Go.WideShapes Go.ChangeAt Go.RowKit
open Go.Proofs.Ytmjedpaiccaddaa.Divs Go.Proofs.Ytmjedpaiccaddaa.Grow
open Go.Proofs.Ytmjedpaiccaddaa.By (Sk SL bool_no bool_yes)
open Go.Proofs.Ytmjedpaiccaddaa.Sp

theorem max_two (x y : Int) (W : World) : (Builtin.max_ #[3, 3] 3 #[.int .i64 x, .int .i64 y]).run Try.prog W = .ok (.int .i64 (max x y)) W := by
  rw [run_max_int2]
  have : (if y > x then y else x) = max x y := by split <;> omega
  rw [this]

theorem min_two (x y : Int) (W : World) : (Builtin.min_ #[3, 3] 3 #[.int .i64 x, .int .i64 y]).run Try.prog W = .ok (.int .i64 (min x y)) W := by
  rw [run_min_int2]
  have : (if y < x then y else x) = min x y := by split <;> omega
  rw [this]

theorem cu_out {l : List Sp} {a b : Int} {k : Nat} {x : Sp} (h : l[k]? = some x) (hx : ¬ (cl a b x).f < (cl a b x).t) : cu (l.take (k + 1)) a b = cu (l.take k) a b := by
  rw [take_at h, cu_snoc, if_neg hx]
theorem cu_in {l : List Sp} {a b : Int} {k : Nat} {x : Sp} (h : l[k]? = some x) (hx : (cl a b x).f < (cl a b x).t) : cu (l.take (k + 1)) a b = cu (l.take k) a b ++ [cl a b x] := by
  rw [take_at h, cu_snoc, if_pos hx]

theorem ws_one (W : World) (x : Sp) : Ws (W.alloc (.cells #[.int .i64 x.f, .int .i64 x.t, .int .i64 x.m, .int .i64 x.p] 31)) (.slice (some ⟨W.heap.size, 0, none⟩) 1 1) [x] := by
  refine ⟨_, 1, rfl, by simp, by omega, by simp, fun i u hu => ⟨W.heap.size, 0, rfl, ?_⟩⟩
  rw [Nat.zero_add, World.cell?_alloc_new]
  rw [sf_one] at hu
  simpa [sc] using hu

set_option maxHeartbeats 2000000 in
theorem cut_any (v : Value) (l : List Sp) (a b : Int) (w : World) (h : Ws w v l) (hb : l.length ≤ 50000) :
    Calls Try.prog 17 #[v, .int .i64 a, .int .i64 b] w fun e w' => ∃ v', e = .returned v' ∧ WL w' w.heap.size v' (cu l a b) ∧ Later w w' := by
  have E := Lib.hid (fun x W => empty_any x W)
  obtain ⟨n, hn⟩ : ∃ n, l.length = n := ⟨_, rfl⟩
  have HN := Lib.hid hn
  have HG0 := Lib.hid (Later.refl w)
  have HV0 : Hid (WL w w.heap.size (.slice none 0 0) (cu (l.take 0) a b)) := Lib.hid (by rw [List.take_zero, cu_nil]; exact WL.nil w _)
  rcases Nat.eq_zero_or_pos n with h0 | h0
  · obtain ⟨ad, cap, rfl, hm⟩ := h.len
    rw [hn] at hm ⊢
    have hl : l = [] := List.length_eq_zero_iff.1 (hn.trans h0)
    subst h0
    have HV : Hid (WL w w.heap.size (.slice none 0 0) (cu l a b)) := Lib.hid (by rw [hl, cu_nil]; exact WL.nil w _)
    clear h hn hl HN
    go_enter Try.func17, Try.ntmps17
    go_wp2_with fail
    refine wp_loop_rounds 1 ?_
    rw [rounds_succ]
    go_wp2
    go_ret
    exact ⟨_, rfl, HV.out, HG0.out⟩
  · obtain ⟨B, off, cap, rfl, hm1, hm2, hB, hc⟩ := h.has (by omega)
    rw [hn] at hm1 hb ⊢
    have HC := Lib.hid hc
    clear h hn hc
    have ad : ∀ j, (⟨B, off, none⟩ : Addr).add j = ⟨B, off + j, none⟩ := Addr.add_mid B off
    go_enter Try.func17, Try.ntmps17
    go_wp2_with fail
    go_loopw [7, 12] (fun r i wr => ∃ k : Nat, k ≤ n ∧ i = .int .i64 (k : Int) ∧ WL wr w.heap.size r (cu (l.take k) a b) ∧ Later w wr) (fun _ i _ => n - (intOf i).toNat)
    case atStart => exact ⟨0, by omega, rfl, HV0.out, HG0.out⟩
    case round =>
      obtain ⟨k, hk, rfl, hr, hg⟩ := hrel
      have HR := Lib.hid hr
      have HG := Lib.hid hg
      clear hr hg
      by_cases hlt : k < n
      · obtain ⟨x, hx⟩ : ∃ x, l[k]? = some x := ⟨_, List.getElem?_eq_getElem (by rw [HN.out]; exact hlt)⟩
        have HX := Lib.hid hx
        obtain ⟨c0, c1, c2, c3⟩ := (HC.out k x hx).later HG.out
        clear hx
        have hkz : (k : Int) < (n : Int) := by omega
        have HCU : Hid ((cu (l.take k) a b).length ≤ k) := Lib.hid (Nat.le_trans (cu_len _ a b) (by rw [List.length_take]; omega))
        obtain ⟨F, hF⟩ : ∃ F, F = max x.f a := ⟨_, rfl⟩
        obtain ⟨T, hT⟩ : ∃ T, T = min x.t b := ⟨_, rfl⟩
        have mx : ∀ W, (Builtin.max_ #[3, 3] 3 #[.int .i64 x.f, .int .i64 a]).run Try.prog W = .ok (.int .i64 F) W := fun W => by rw [max_two, hF]
        have mn : ∀ W, (Builtin.min_ #[3, 3] 3 #[.int .i64 x.t, .int .i64 b]).run Try.prog W = .ok (.int .i64 T) W := fun W => by rw [min_two, hT]
        have HY : Hid (cl a b x = ⟨F, T, x.m, x.p⟩) := Lib.hid (by unfold cl; rw [hF, hT])
        clear hF hT
        have E' := Lib.hid (fun W => E.out ⟨F, T, x.m, x.p⟩ W)
        unfold sc at E'
        have hcall : ∀ W', (Later w W' ∧ WL W' w.heap.size u7 (cu (l.take k) a b) ∧ RA W' wr.heap.size #[.int .i64 F, .int .i64 T, .int .i64 x.m, .int .i64 x.p] 31) → Calls Try.prog 27 #[.agg #[.int .i64 F, .int .i64 T, .int .i64 x.m, .int .i64 x.p]] W' fun e w' => e = .returned (.bool (decide (F ≥ T))) ∧ Later w w' ∧ WL w' w.heap.size u7 (cu (l.take k) a b) ∧ RA w' wr.heap.size #[.int .i64 F, .int .i64 T, .int .i64 x.m, .int .i64 x.p] 31 :=
          fun W' hW => (E'.out W').mono (fun e w' ⟨he, hg⟩ => ⟨he, gtrans hW.1 hg, hW.2.1.later hg, hW.2.2.later hg⟩)
        have HCA := Lib.hid hcall
        have HRS := Lib.hid (show ∀ W', Later wr W' → WL W' w.heap.size u7 (cu (l.take k) a b) from fun W' g => HR.out.later g)
        clear hcall
        by_cases t : F ≥ T
        · have td : decide (F ≥ T) = true := decide_eq_true t
          have HV := Lib.hid (cu_out (a := a) (b := b) HX.out (by rw [HY.out]; simp only; omega))
          clear t
          rw [td] at HCA
          go_wp2_with fail
          refine (HCA.out _ ?_).mono ?_
          · refine ⟨?_, ?_, ?_⟩
            · first | exact HG.out.put _ | exact later_set2 (HG.out.put _) HG.out.size _ _
            · exact HRS.out _ (by first | exact (Later.refl wr).put _ | exact later_set2 ((Later.refl wr).put _) (Nat.le_refl _) _ _)
            · first | exact RA.new wr _ _ | (have := ((RA.new wr #[.int .i64 x.f, .int .i64 x.t, .int .i64 x.m, .int .i64 x.p] 31).set 0 (.int .i64 F)).set 1 (.int .i64 T); simpa using this)
          rintro e w1 ⟨rfl, hg1, hr1, hb1⟩
          have HG1 := Lib.hid hg1
          have HR1 : Hid (WL w1 w.heap.size u7 (cu (l.take (k + 1)) a b)) := Lib.hid (by rw [HV.out]; exact hr1)
          clear hg1 hr1 hb1
          go_wp2_with fail
          go_roundw
          case rel => exact ⟨k + 1, by omega, by go_num, HR1.out, HG1.out⟩
          case measure => simp [intOf]; omega
        · have td : decide (F ≥ T) = false := decide_eq_false t
          have HV := Lib.hid (cu_in (a := a) (b := b) HX.out (by rw [HY.out]; simp only; omega))
          clear t
          rw [td] at HCA
          go_wp2_with fail
          refine (HCA.out _ ?_).mono ?_
          · refine ⟨?_, ?_, ?_⟩
            · first | exact HG.out.put _ | exact later_set2 (HG.out.put _) HG.out.size _ _
            · exact HRS.out _ (by first | exact (Later.refl wr).put _ | exact later_set2 ((Later.refl wr).put _) (Nat.le_refl _) _ _)
            · first | exact RA.new wr _ _ | (have := ((RA.new wr #[.int .i64 x.f, .int .i64 x.t, .int .i64 x.m, .int .i64 x.p] 31).set 0 (.int .i64 F)).set 1 (.int .i64 T); simpa using this)
          rintro e w1 ⟨rfl, hg1, hr1, hb1⟩
          have HG1 := Lib.hid hg1
          have HR1 := Lib.hid hr1
          have b0 := hb1.cell 0 _ rfl
          have b1 := hb1.cell 1 _ rfl
          have b2 := hb1.cell 2 _ rfl
          have b3 := hb1.cell 3 _ rfl
          clear hg1 hr1 hb1
          go_wp2_with (refine append_spans rfl (.tmp 29) (.tmp 31) rfl w (HG1.out.put _) u7 (cu (l.take k) a b) rfl (HR1.out.later ((Later.refl w1).put _)) _ [⟨F, T, x.m, x.p⟩] rfl (ws_one w1 ⟨F, T, x.m, x.p⟩) (by have := HCU.out; simp only [List.length_cons, List.length_nil]; omega) ?_; intro v' w2 hw hl _; have HW := Lib.hid hw; have HL := Lib.hid hl; clear hw hl)
          go_roundw
          case rel => exact ⟨k + 1, by omega, by go_num, by rw [HV.out, HY.out]; exact HW.out, HL.out⟩
          case measure => simp [intOf]; omega
      · obtain rfl : k = n := by omega
        have HV : Hid (WL wr w.heap.size u7 (cu l a b)) := Lib.hid (by have := HR.out; rwa [List.take_of_length_le (by rw [HN.out]; exact Nat.le_refl _)] at this)
        go_wp2
        go_ret
        exact ⟨_, rfl, HV.out, HG.out⟩

end Go.Proofs.Ytmjedpaiccaddaa.Span
