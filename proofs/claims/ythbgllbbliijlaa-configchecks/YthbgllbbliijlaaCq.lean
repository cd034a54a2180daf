/-
  Whether a configuration may be, by the program's Check. No condition.
-/
import Derived.Test.YthbgllbbliijlaaCv
import Derived.Laws.EntriesVeiled
namespace Go.Proofs.Ythbgllbbliijlaa.Conf
open Go.ChangeShapes Go.WideShapes Go.ChangeAt Go.RowKit
open Go.Proofs.Ythbgllbbliijlaa.Divs Go.Proofs.Ythbgllbbliijlaa.Grow Go.Proofs.Ythbgllbbliijlaa.Zone
open Go.Proofs.Ythbgllbbliijlaa.By (Sk SL)
open Go.Proofs.Ythbgllbbliijlaa.Each
open Go.Proofs.Ythbgllbbliijlaa.Zo Go.Proofs.Ythbgllbbliijlaa.Su Go.Proofs.Ythbgllbbliijlaa.Cf

/-- The row of questions. -/
def qs : Array Value := #[.func (.func 31) #[] #[], .func (.func 32) #[] #[], .func (.func 33) #[] #[], .func (.func 34) #[] #[], .func (.func 35) #[] #[], .func (.func 36) #[] #[], .func (.func 37) #[] #[]]

theorem questions_any (w : World) : Calls Try.prog 23 #[] w fun e w' => ∃ g, e = .returned (.slice (some ⟨g, 0, none⟩) 7 7) ∧ At w' g qs ∧ Later w w' := by
  go_enter Try.func23, Try.ntmps23
  go_wp2
  go_ret
  exact ⟨_, rfl, At.new _ _ _, (Later.refl w).alloc _ _⟩

/-- The error of the k-th question, or 0. -/
def qe (c : Cg) : Nat → Int
  | 0 => if so c = true then 0 else 100
  | 1 => if to c = true then 0 else 101
  | 2 => if ti c = true then 0 else 102
  | 3 => ck c.z
  | 4 => sk c.s
  | 5 => if c.ws.length ≤ 16 then 0 else 103
  | 6 => if wa c.ws = true then 0 else 104
  | _ => 0

theorem q0 {c : Cg} (h : qe c 0 = 0) : so c = true := by
  by_cases e : so c = true
  · exact e
  · simp [qe, e] at h

theorem n0 {c : Cg} (h : qe c 0 ≠ 0) : ¬ so c = true ∧ qe c 0 = 100 := by
  by_cases e : so c = true
  · simp [qe, e] at h
  · exact ⟨e, by simp [qe, e]⟩

theorem q1 {c : Cg} (h : qe c 1 = 0) : to c = true := by
  by_cases e : to c = true
  · exact e
  · simp [qe, e] at h

theorem n1 {c : Cg} (h : qe c 1 ≠ 0) : ¬ to c = true ∧ qe c 1 = 101 := by
  by_cases e : to c = true
  · simp [qe, e] at h
  · exact ⟨e, by simp [qe, e]⟩

theorem q2 {c : Cg} (h : qe c 2 = 0) : ti c = true := by
  by_cases e : ti c = true
  · exact e
  · simp [qe, e] at h

theorem n2 {c : Cg} (h : qe c 2 ≠ 0) : ¬ ti c = true ∧ qe c 2 = 102 := by
  by_cases e : ti c = true
  · simp [qe, e] at h
  · exact ⟨e, by simp [qe, e]⟩

theorem q3 {c : Cg} (h : qe c 3 = 0) : ck c.z = 0 := h

theorem n3 {c : Cg} (h : qe c 3 ≠ 0) : ¬ ck c.z = 0 := h

theorem q4 {c : Cg} (h : qe c 4 = 0) : sk c.s = 0 := h

theorem n4 {c : Cg} (h : qe c 4 ≠ 0) : ¬ sk c.s = 0 := h

theorem q5 {c : Cg} (h : qe c 5 = 0) : c.ws.length ≤ 16 := by
  by_cases e : c.ws.length ≤ 16
  · exact e
  · simp [qe, e] at h

theorem n5 {c : Cg} (h : qe c 5 ≠ 0) : ¬ c.ws.length ≤ 16 ∧ qe c 5 = 103 := by
  by_cases e : c.ws.length ≤ 16
  · simp [qe, e] at h
  · exact ⟨e, by simp [qe, e]⟩

theorem q6 {c : Cg} (h : qe c 6 = 0) : wa c.ws = true := by
  by_cases e : wa c.ws = true
  · exact e
  · simp [qe, e] at h

theorem n6 {c : Cg} (h : qe c 6 ≠ 0) : ¬ wa c.ws = true ∧ qe c 6 = 104 := by
  by_cases e : wa c.ws = true
  · simp [qe, e] at h
  · exact ⟨e, by simp [qe, e]⟩

theorem ce_at (c : Cg) (k : Nat) (hk : k < 7) (h : ∀ j, j < k → qe c j = 0) (hn : qe c k ≠ 0) : ce c = qe c k := by
  unfold ce
  match k with
  | 0 =>
    rw [if_neg (n0 hn).1, (n0 hn).2]
  | 1 =>
    rw [if_pos (q0 (h 0 (by omega))), if_neg (n1 hn).1, (n1 hn).2]
  | 2 =>
    rw [if_pos (q0 (h 0 (by omega))), if_pos (q1 (h 1 (by omega))), if_neg (n2 hn).1, (n2 hn).2]
  | 3 =>
    rw [if_pos (q0 (h 0 (by omega))), if_pos (q1 (h 1 (by omega))), if_pos (q2 (h 2 (by omega))), if_neg (n3 hn)]
    rfl
  | 4 =>
    rw [if_pos (q0 (h 0 (by omega))), if_pos (q1 (h 1 (by omega))), if_pos (q2 (h 2 (by omega))), if_pos (q3 (h 3 (by omega))), if_neg (n4 hn)]
    rfl
  | 5 =>
    rw [if_pos (q0 (h 0 (by omega))), if_pos (q1 (h 1 (by omega))), if_pos (q2 (h 2 (by omega))), if_pos (q3 (h 3 (by omega))), if_pos (q4 (h 4 (by omega))), if_neg (n5 hn).1, (n5 hn).2]
  | 6 =>
    rw [if_pos (q0 (h 0 (by omega))), if_pos (q1 (h 1 (by omega))), if_pos (q2 (h 2 (by omega))), if_pos (q3 (h 3 (by omega))), if_pos (q4 (h 4 (by omega))), if_pos (q5 (h 5 (by omega))), if_neg (n6 hn).1, (n6 hn).2]
  | _ + 7 => omega

theorem ce_zero (c : Cg) (h : ∀ j, j < 7 → qe c j = 0) : ce c = 0 := by
  unfold ce
  rw [if_pos (q0 (h 0 (by omega))), if_pos (q1 (h 1 (by omega))), if_pos (q2 (h 2 (by omega))), if_pos (q3 (h 3 (by omega))), if_pos (q4 (h 4 (by omega))), if_pos (q5 (h 5 (by omega))), if_pos (q6 (h 6 (by omega)))]

theorem so_floors {c : Cg} (h : so c = true) : 2 ≤ c.f ∧ c.f ≤ 64 := by
  unfold so at h
  rw [Bool.and_eq_true] at h
  exact (bt_iff _ _ _).1 h.1

def QRel (c : Cg) (w : World) (e i : Value) (wr : World) : Prop := ∃ k : Nat, k ≤ 7 ∧ i = .int .i64 (k : Int) ∧ e = .int .i64 0 ∧ (∀ j, j < k → qe c j = 0) ∧ Later w wr

set_option maxHeartbeats 4000000 in
theorem check_any (c : Cg) (u v : Value) (w : World) (hu : Sk .i64 w u c.st) (hv : Wk w v c.ws) : Calls Try.prog 12 #[.agg (cc c u v)] w fun e w' => e = .returned (.int .i64 (ce c)) ∧ Later w w' := by
  have HU := Lib.hid hu
  have HV := Lib.hid hv
  clear hu hv
  have QQ := Lib.hid questions_any
  obtain ⟨C, hC⟩ : ∃ C, C = cc c u v := ⟨_, rfl⟩
  rw [← hC]
  have K0 : Hid (∀ W, Later w W → (∀ j, j < 0 → qe c j = 0) → Calls Try.prog 31 #[.agg C] W fun e w' => e = .returned (.int .i64 (qe c 0)) ∧ Later W w') := Lib.hid (fun W g h => by rw [hC]; exact size_any c u v W)
  have K1 : Hid (∀ W, Later w W → (∀ j, j < 1 → qe c j = 0) → Calls Try.prog 32 #[.agg C] W fun e w' => e = .returned (.int .i64 (qe c 1)) ∧ Later W w') := Lib.hid (fun W g h => by rw [hC]; exact stops_any c u v W (HU.out.later g) (so_floors (q0 (h 0 (by omega)))).1 (so_floors (q0 (h 0 (by omega)))).2)
  have K2 : Hid (∀ W, Later w W → (∀ j, j < 2 → qe c j = 0) → Calls Try.prog 33 #[.agg C] W fun e w' => e = .returned (.int .i64 (qe c 2)) ∧ Later W w') := Lib.hid (fun W g h => by rw [hC]; exact times_any c u v W)
  have K3 : Hid (∀ W, Later w W → (∀ j, j < 3 → qe c j = 0) → Calls Try.prog 34 #[.agg C] W fun e w' => e = .returned (.int .i64 (qe c 3)) ∧ Later W w') := Lib.hid (fun W g h => by rw [hC]; exact zone_any c u v W)
  have K4 : Hid (∀ W, Later w W → (∀ j, j < 4 → qe c j = 0) → Calls Try.prog 35 #[.agg C] W fun e w' => e = .returned (.int .i64 (qe c 4)) ∧ Later W w') := Lib.hid (fun W g h => by rw [hC]; exact sun_any c u v W)
  have K5 : Hid (∀ W, Later w W → (∀ j, j < 5 → qe c j = 0) → Calls Try.prog 36 #[.agg C] W fun e w' => e = .returned (.int .i64 (qe c 5)) ∧ Later W w') := Lib.hid (fun W g h => by rw [hC]; exact many_any c u v W (HV.out.later g))
  have K6 : Hid (∀ W, Later w W → (∀ j, j < 6 → qe c j = 0) → Calls Try.prog 37 #[.agg C] W fun e w' => e = .returned (.int .i64 (qe c 6)) ∧ Later W w') := Lib.hid (fun W g h => by rw [hC]; exact windows_any c u v W (HV.out.later g))
  have HZ : Hid (C.size = 37) := Lib.hid (by rw [hC]; rfl)
  have HCC := Lib.hid hC
  clear hC
  have AC := Lib.hid (At.new w C 33)
  obtain ⟨M, hM⟩ : ∃ M, M = ce c := ⟨_, rfl⟩
  rw [← hM]
  have HM := Lib.hid hM
  clear hM
  go_enter Try.func12, Try.ntmps12
  go_wp2_with fail
  go_step3
  go_wp2_with fail
  go_step3
  go_wp2_with fail
  refine (QQ.out _).mono ?_
  rintro e w1 ⟨g, rfl, hq, hg1⟩
  have HQ := Lib.hid hq
  have HG1 := Lib.hid (off_put hg1)
  have HA1 := Lib.hid (AC.out.later hg1)
  clear hg1 hq
  go_wp2_with fail
  go_loopw [3, 8] (fun e i wr => QRel c w1 e i wr) (fun _ i _ => 7 - (intOf i).toNat)
  case atStart => exact ⟨0, by omega, rfl, rfl, by omega, Later.refl _⟩
  case round =>
    obtain ⟨k, hk, rfl, rfl, hj, hg⟩ := hrel
    have HG := Lib.hid hg
    have HJ := Lib.hid hj
    have HW := Lib.hid (gtrans HG1.out hg)
    clear hg hj
    obtain rfl | rfl | rfl | rfl | rfl | rfl | rfl | rfl : k = 0 ∨ k = 1 ∨ k = 2 ∨ k = 3 ∨ k = 4 ∨ k = 5 ∨ k = 6 ∨ k = 7 := by omega
    · have hc : wr.cell? ⟨g, 0, none⟩ = some (.func (.func 31) #[] #[]) := HQ.out.later HG.out 0 _ rfl
      clear hk
      go_wp2_with (refine load_at C HZ.out rfl (.tmp 1) rfl w.heap.size rfl ((HA1.out.later HG.out).put _) ?_)
      refine (K0.out _ (HW.out.put _) HJ.out).mono ?_
      rintro e w2 ⟨rfl, hg2⟩
      clear hc
      have HG2 := Lib.hid (gtrans HG.out (off_put hg2))
      clear hg2
      by_cases hz : qe c 0 = 0
      · have HJ' : Hid (∀ j, j < 1 → qe c j = 0) := Lib.hid (fun j h => by
          by_cases e : j = 0
          · rw [e]; exact hz
          · exact HJ.out j (by omega))
        rw [hz]
        clear hz
        go_wp2_with fail
        go_roundw
        case rel => exact ⟨1, by omega, by go_num, rfl, HJ'.out, HG2.out⟩
        case measure => simp [intOf]
      · have HE : Hid (M = qe c 0) := Lib.hid (by rw [HM.out]; exact ce_at c 0 (by omega) HJ.out hz)
        have tt : (qe c 0 != 0) = true := by simpa using hz
        generalize qe c 0 = E at *
        clear hz
        go_wp2_with fail
        rw [Exit.noGoto_ret]
        go_ret
        exact ⟨ret1 HE.out.symm, gtrans HG1.out HG2.out⟩
    · have hc : wr.cell? ⟨g, 1, none⟩ = some (.func (.func 32) #[] #[]) := HQ.out.later HG.out 1 _ rfl
      clear hk
      go_wp2_with (refine load_at C HZ.out rfl (.tmp 1) rfl w.heap.size rfl ((HA1.out.later HG.out).put _) ?_)
      refine (K1.out _ (HW.out.put _) HJ.out).mono ?_
      rintro e w2 ⟨rfl, hg2⟩
      clear hc
      have HG2 := Lib.hid (gtrans HG.out (off_put hg2))
      clear hg2
      by_cases hz : qe c 1 = 0
      · have HJ' : Hid (∀ j, j < 2 → qe c j = 0) := Lib.hid (fun j h => by
          by_cases e : j = 1
          · rw [e]; exact hz
          · exact HJ.out j (by omega))
        rw [hz]
        clear hz
        go_wp2_with fail
        go_roundw
        case rel => exact ⟨2, by omega, by go_num, rfl, HJ'.out, HG2.out⟩
        case measure => simp [intOf]
      · have HE : Hid (M = qe c 1) := Lib.hid (by rw [HM.out]; exact ce_at c 1 (by omega) HJ.out hz)
        have tt : (qe c 1 != 0) = true := by simpa using hz
        generalize qe c 1 = E at *
        clear hz
        go_wp2_with fail
        rw [Exit.noGoto_ret]
        go_ret
        exact ⟨ret1 HE.out.symm, gtrans HG1.out HG2.out⟩
    · have hc : wr.cell? ⟨g, 2, none⟩ = some (.func (.func 33) #[] #[]) := HQ.out.later HG.out 2 _ rfl
      clear hk
      go_wp2_with (refine load_at C HZ.out rfl (.tmp 1) rfl w.heap.size rfl ((HA1.out.later HG.out).put _) ?_)
      refine (K2.out _ (HW.out.put _) HJ.out).mono ?_
      rintro e w2 ⟨rfl, hg2⟩
      clear hc
      have HG2 := Lib.hid (gtrans HG.out (off_put hg2))
      clear hg2
      by_cases hz : qe c 2 = 0
      · have HJ' : Hid (∀ j, j < 3 → qe c j = 0) := Lib.hid (fun j h => by
          by_cases e : j = 2
          · rw [e]; exact hz
          · exact HJ.out j (by omega))
        rw [hz]
        clear hz
        go_wp2_with fail
        go_roundw
        case rel => exact ⟨3, by omega, by go_num, rfl, HJ'.out, HG2.out⟩
        case measure => simp [intOf]
      · have HE : Hid (M = qe c 2) := Lib.hid (by rw [HM.out]; exact ce_at c 2 (by omega) HJ.out hz)
        have tt : (qe c 2 != 0) = true := by simpa using hz
        generalize qe c 2 = E at *
        clear hz
        go_wp2_with fail
        rw [Exit.noGoto_ret]
        go_ret
        exact ⟨ret1 HE.out.symm, gtrans HG1.out HG2.out⟩
    · have hc : wr.cell? ⟨g, 3, none⟩ = some (.func (.func 34) #[] #[]) := HQ.out.later HG.out 3 _ rfl
      clear hk
      go_wp2_with (refine load_at C HZ.out rfl (.tmp 1) rfl w.heap.size rfl ((HA1.out.later HG.out).put _) ?_)
      refine (K3.out _ (HW.out.put _) HJ.out).mono ?_
      rintro e w2 ⟨rfl, hg2⟩
      clear hc
      have HG2 := Lib.hid (gtrans HG.out (off_put hg2))
      clear hg2
      by_cases hz : qe c 3 = 0
      · have HJ' : Hid (∀ j, j < 4 → qe c j = 0) := Lib.hid (fun j h => by
          by_cases e : j = 3
          · rw [e]; exact hz
          · exact HJ.out j (by omega))
        rw [hz]
        clear hz
        go_wp2_with fail
        go_roundw
        case rel => exact ⟨4, by omega, by go_num, rfl, HJ'.out, HG2.out⟩
        case measure => simp [intOf]
      · have HE : Hid (M = qe c 3) := Lib.hid (by rw [HM.out]; exact ce_at c 3 (by omega) HJ.out hz)
        have tt : (qe c 3 != 0) = true := by simpa using hz
        generalize qe c 3 = E at *
        clear hz
        go_wp2_with fail
        rw [Exit.noGoto_ret]
        go_ret
        exact ⟨ret1 HE.out.symm, gtrans HG1.out HG2.out⟩
    · have hc : wr.cell? ⟨g, 4, none⟩ = some (.func (.func 35) #[] #[]) := HQ.out.later HG.out 4 _ rfl
      clear hk
      go_wp2_with (refine load_at C HZ.out rfl (.tmp 1) rfl w.heap.size rfl ((HA1.out.later HG.out).put _) ?_)
      refine (K4.out _ (HW.out.put _) HJ.out).mono ?_
      rintro e w2 ⟨rfl, hg2⟩
      clear hc
      have HG2 := Lib.hid (gtrans HG.out (off_put hg2))
      clear hg2
      by_cases hz : qe c 4 = 0
      · have HJ' : Hid (∀ j, j < 5 → qe c j = 0) := Lib.hid (fun j h => by
          by_cases e : j = 4
          · rw [e]; exact hz
          · exact HJ.out j (by omega))
        rw [hz]
        clear hz
        go_wp2_with fail
        go_roundw
        case rel => exact ⟨5, by omega, by go_num, rfl, HJ'.out, HG2.out⟩
        case measure => simp [intOf]
      · have HE : Hid (M = qe c 4) := Lib.hid (by rw [HM.out]; exact ce_at c 4 (by omega) HJ.out hz)
        have tt : (qe c 4 != 0) = true := by simpa using hz
        generalize qe c 4 = E at *
        clear hz
        go_wp2_with fail
        rw [Exit.noGoto_ret]
        go_ret
        exact ⟨ret1 HE.out.symm, gtrans HG1.out HG2.out⟩
    · have hc : wr.cell? ⟨g, 5, none⟩ = some (.func (.func 36) #[] #[]) := HQ.out.later HG.out 5 _ rfl
      clear hk
      go_wp2_with (refine load_at C HZ.out rfl (.tmp 1) rfl w.heap.size rfl ((HA1.out.later HG.out).put _) ?_)
      refine (K5.out _ (HW.out.put _) HJ.out).mono ?_
      rintro e w2 ⟨rfl, hg2⟩
      clear hc
      have HG2 := Lib.hid (gtrans HG.out (off_put hg2))
      clear hg2
      by_cases hz : qe c 5 = 0
      · have HJ' : Hid (∀ j, j < 6 → qe c j = 0) := Lib.hid (fun j h => by
          by_cases e : j = 5
          · rw [e]; exact hz
          · exact HJ.out j (by omega))
        rw [hz]
        clear hz
        go_wp2_with fail
        go_roundw
        case rel => exact ⟨6, by omega, by go_num, rfl, HJ'.out, HG2.out⟩
        case measure => simp [intOf]
      · have HE : Hid (M = qe c 5) := Lib.hid (by rw [HM.out]; exact ce_at c 5 (by omega) HJ.out hz)
        have tt : (qe c 5 != 0) = true := by simpa using hz
        generalize qe c 5 = E at *
        clear hz
        go_wp2_with fail
        rw [Exit.noGoto_ret]
        go_ret
        exact ⟨ret1 HE.out.symm, gtrans HG1.out HG2.out⟩
    · have hc : wr.cell? ⟨g, 6, none⟩ = some (.func (.func 37) #[] #[]) := HQ.out.later HG.out 6 _ rfl
      clear hk
      go_wp2_with (refine load_at C HZ.out rfl (.tmp 1) rfl w.heap.size rfl ((HA1.out.later HG.out).put _) ?_)
      refine (K6.out _ (HW.out.put _) HJ.out).mono ?_
      rintro e w2 ⟨rfl, hg2⟩
      clear hc
      have HG2 := Lib.hid (gtrans HG.out (off_put hg2))
      clear hg2
      by_cases hz : qe c 6 = 0
      · have HJ' : Hid (∀ j, j < 7 → qe c j = 0) := Lib.hid (fun j h => by
          by_cases e : j = 6
          · rw [e]; exact hz
          · exact HJ.out j (by omega))
        rw [hz]
        clear hz
        go_wp2_with fail
        go_roundw
        case rel => exact ⟨7, by omega, by go_num, rfl, HJ'.out, HG2.out⟩
        case measure => simp [intOf]
      · have HE : Hid (M = qe c 6) := Lib.hid (by rw [HM.out]; exact ce_at c 6 (by omega) HJ.out hz)
        have tt : (qe c 6 != 0) = true := by simpa using hz
        generalize qe c 6 = E at *
        clear hz
        go_wp2_with fail
        rw [Exit.noGoto_ret]
        go_ret
        exact ⟨ret1 HE.out.symm, gtrans HG1.out HG2.out⟩
    · have HE : Hid (M = 0) := Lib.hid (by rw [HM.out]; exact ce_zero c HJ.out)
      clear hk
      go_wp2_with fail
      rw [Exit.noGoto_ret]
      go_ret
      exact ⟨ret1 HE.out.symm, HW.out⟩

end Go.Proofs.Ythbgllbbliijlaa.Conf
