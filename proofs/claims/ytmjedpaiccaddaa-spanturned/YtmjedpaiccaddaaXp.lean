/-
  How the program puts a piece behind a row, and makes its iterator.  Conditions: the row is its own, and not too long.
-/
import Derived.Test.YtmjedpaiccaddaaXo
import Derived.Test.YtmjedpaiccaddaaXh
namespace Go.Proofs.Ytmjedpaiccaddaa.Span
set_option maxRecDepth 100000
open Go.ChangeShapes Go.WideShapes Go.ChangeAt Go.RowKit
open Go.Proofs.Ytmjedpaiccaddaa.Divs Go.Proofs.Ytmjedpaiccaddaa.Grow
open Go.Proofs.Ytmjedpaiccaddaa.By (Sk SL)
open Go.Proofs.Ytmjedpaiccaddaa.Sp

theorem grown_trans {a b c : World} {r : Option Nat} (h : Later a b) (k : b.grownBy c r) : a.grownBy c r :=
  ⟨k.os.trans h.1.1, k.tape.trans h.1.2, k.output.trans h.2.1, Nat.le_trans h.2.2.1 k.size, fun i hi hr => (k.block i (Nat.lt_of_lt_of_le hi h.2.2.1) hr).trans (h.2.2.2 i hi)⟩

theorem bounds_any (ad : Option Addr) (n cap : Nat) (w : World) : Calls Try.prog 22 #[.slice ad n cap] w fun e w' => e = .returned (.func (.func 36) #[] #[.pointer (some ⟨w.heap.size, 0, none⟩)]) ∧ w' = w.alloc (.cells #[.slice ad n cap] 22) := by
  go_enter Try.func22, Try.ntmps22
  go_wp2
  go_ret
  exact ⟨rfl, rfl⟩

/-- e hands back the row with the piece behind it. -/
def IsLaid (R : List Sp) (a b m : Int) (n0 : Nat) (w w' : World) (v : Value) (e : Ending) : Prop := ∃ v', e = .returned v' ∧ WL w' n0 v' (push R a b m) ∧ w.grownBy w' v.ownBlock

set_option maxHeartbeats 4000000 in
theorem lay_any (v : Value) (R : List Sp) (a b m : Int) (W0 w : World) (hl : Later W0 w) (h : WL w W0.heap.size v R) (hn : R.length ≤ 50000) :
    Calls Try.prog 23 #[v, .agg (sc ⟨a, b, m, 0⟩).toArray] w fun e w' => IsLaid R a b m W0.heap.size w w' v e := by
  obtain ⟨wb, hwb⟩ : ∃ wb, w.alloc (.cells #[.int .i64 a, .int .i64 b, .int .i64 m, .int .i64 0] 31) = wb := ⟨_, rfl⟩
  have HLB : Hid (Later w wb) := Lib.hid (by rw [← hwb]; exact (Later.refl w).put _)
  have HRB : Hid (RA wb w.heap.size #[.int .i64 a, .int .i64 b, .int .i64 m, .int .i64 0] 31) := Lib.hid (by rw [← hwb]; exact RA.new w _ _)
  have HL := Lib.hid (gtrans hl HLB.out)
  have HW := Lib.hid (h.later HLB.out)
  unfold sc
  rcases last_or R with hR | ⟨o, s, hR⟩
  · have EP : Hid (push R a b m = R ++ [⟨a, b, m, 0⟩]) := Lib.hid (by rw [hR, push_nil]; rfl)
    have hRz : R.length = 0 := by rw [hR]; rfl
    obtain ⟨ad, cap, hv, _⟩ := h.ws.len
    rw [hRz] at hv
    subst hv
    clear h hl hR hRz
    go_enter Try.func23, Try.ntmps23
    go_wp2_with fail
    clear hwb
    go_quiet (fail)
    have HL2 : Hid (Later W0 (wb.drewN nq)) := Lib.hid HL.out
    have HG2 : Hid (Later w (wb.drewN nq)) := Lib.hid HLB.out
    have HW2 : Hid (WL (wb.drewN nq) W0.heap.size (.slice ad 0 cap) R) := Lib.hid (HW.out.later (later_drewN wb nq))
    have HB2 : Hid (RA (wb.drewN nq) w.heap.size #[.int .i64 a, .int .i64 b, .int .i64 m, .int .i64 0] 31) := Lib.hid (HRB.out.later (later_drewN wb nq))
    generalize wb.drewN nq = w2 at HL2 HG2 HW2 HB2 ⊢
    have e0 := HB2.out.cell 0 _ rfl
    have e1 := HB2.out.cell 1 _ rfl
    have e2 := HB2.out.cell 2 _ rfl
    have e3 := HB2.out.cell 3 _ rfl
    go_wp2_with (refine append_spans rfl (.tmp 38) (.tmp 40) rfl W0 (HL2.out.put _) _ R rfl (HW2.out.later ((Later.refl w2).put _)) _ [⟨a, b, m, 0⟩] rfl (ws_one' ⟨a, b, m, 0⟩ rfl) (by simp only [List.length_cons, List.length_nil]; omega) ?_; intro v' w6 hw hl6 hgb; have HW6 := Lib.hid hw; have HL6 := Lib.hid hl6; have HGB := Lib.hid hgb; clear hw hl6 hgb)
    go_ret
    exact ⟨_, rfl, by rw [EP.out]; exact HW6.out, grown_trans (HG2.out.put _) HGB.out⟩
  · obtain ⟨q, hq⟩ : ∃ q, o.length = q := ⟨_, rfl⟩
    have HQ := Lib.hid hq
    have hRl : R.length = q + 1 := by rw [hR, ← hq]; simp
    rcases h.2 with ⟨_, h0'⟩ | ⟨g, cap, cur, hv, hg0, _, _, hg3, _⟩
    · omega
    rw [hRl] at hv
    subst hv
    have hcap : cap ≤ 9223372036854775807 := by simpa [maxLen] using hg3
    have HOW : Hid (wb.ownsRow W0.heap.size 31 4 (.slice (some ⟨g, 0, none⟩) (q + 1) cap) (q + 1) (sf (o ++ [s]))) := Lib.hid (by have := HW.out; unfold WL at this; rw [hRl, hR] at this; exact this)
    have HR' := Lib.hid hR
    have hq5 : q ≤ 50000 := by omega
    clear h hl hg0 hg3 hR hq hRl
    by_cases t1 : s.t = a
    · have t1d : (s.t == a) = true := by simpa using t1
      by_cases t2 : s.m = m
      · have t2d : (s.m == m) = true := by simpa using t2
        have EP : Hid (push R a b m = o ++ [⟨s.f, b, s.m, s.p⟩]) := Lib.hid (by rw [HR'.out, push_last, if_pos ⟨t1, t2⟩])
        clear t1 t2
        obtain ⟨s0, s1, s2, s3⟩ := last_cells HOW.out
        rw [HQ.out] at s0 s1 s2 s3
        have b0 := HRB.out.cell 0 _ rfl
        have b1 := HRB.out.cell 1 _ rfl
        have b2 := HRB.out.cell 2 _ rfl
        have b3 := HRB.out.cell 3 _ rfl
        clear s0 s3
        go_enter Try.func23, Try.ntmps23
        go_wp2_with fail
        clear hwb
        go_quiet (fail)
        have HG2 : Hid (Later w (wb.drewN nq)) := Lib.hid HLB.out
        have HO2 : Hid ((wb.drewN nq).ownsRow W0.heap.size 31 4 (.slice (some ⟨g, 0, none⟩) (q + 1) cap) (q + 1) (sf (o ++ [s]))) := Lib.hid (World.ownsRow.kept HOW.out (later_drewN wb nq).grownBy (by cases (Value.slice (some ⟨g, 0, none⟩) (q + 1) cap).ownBlock <;> simp))
        have HB2 : Hid (RA (wb.drewN nq) w.heap.size #[.int .i64 a, .int .i64 b, .int .i64 m, .int .i64 0] 31) := Lib.hid (HRB.out.later (later_drewN wb nq))
        generalize wb.drewN nq = w2 at HG2 HO2 HB2 ⊢
        obtain ⟨p1, p2⟩ := HO2.out.stored (q * 4 + 1) (.int .i64 b)
        have HW6 : Hid (WL (w2.setCell ⟨g, q * 4 + 1, none⟩ (.int .i64 b)) W0.heap.size (.slice (some ⟨g, 0, none⟩) (q + 1) cap) (o ++ [⟨s.f, b, s.m, s.p⟩])) := Lib.hid (by
          have e := sf_to o s b
          rw [HQ.out] at e
          rw [e] at p1
          unfold WL
          rw [show (o ++ [(⟨s.f, b, s.m, s.p⟩ : Sp)]).length = q + 1 by rw [← HQ.out]; simp]
          exact p1)
        have HGB := Lib.hid (grown_trans HG2.out p2)
        have f1 := HO2.out.frozenAt (q * 4 + 1)
        have d1 := (last_cells HO2.out).2.1
        rw [HQ.out] at d1
        have e1 := HB2.out.cell 1 _ rfl
        clear p1 p2 s1 s2 b0 b1 b2 b3
        go_wp2_with fail
        go_ret
        exact ⟨_, rfl, by rw [EP.out]; exact HW6.out, HGB.out⟩
      · have t2d : (s.m == m) = false := by simpa using t2
        have EP : Hid (push R a b m = R ++ [⟨a, b, m, 0⟩]) := Lib.hid (by rw [HR'.out, push_last, if_neg (fun c => t2 c.2)])
        clear t1 t2
        obtain ⟨s0, s1, s2, s3⟩ := last_cells HOW.out
        rw [HQ.out] at s0 s1 s2 s3
        have b0 := HRB.out.cell 0 _ rfl
        have b1 := HRB.out.cell 1 _ rfl
        have b2 := HRB.out.cell 2 _ rfl
        have b3 := HRB.out.cell 3 _ rfl
        clear s0 s3
        go_enter Try.func23, Try.ntmps23
        go_wp2_with fail
        clear hwb
        go_quiet (fail)
        have HL2 : Hid (Later W0 (wb.drewN nq)) := Lib.hid HL.out
        have HG2 : Hid (Later w (wb.drewN nq)) := Lib.hid HLB.out
        have HW2 : Hid (WL (wb.drewN nq) W0.heap.size (.slice (some ⟨g, 0, none⟩) (q + 1) cap) R) := Lib.hid (HW.out.later (later_drewN wb nq))
        have HB2 : Hid (RA (wb.drewN nq) w.heap.size #[.int .i64 a, .int .i64 b, .int .i64 m, .int .i64 0] 31) := Lib.hid (HRB.out.later (later_drewN wb nq))
        generalize wb.drewN nq = w2 at HL2 HG2 HW2 HB2 ⊢
        have e0 := HB2.out.cell 0 _ rfl
        have e1 := HB2.out.cell 1 _ rfl
        have e2 := HB2.out.cell 2 _ rfl
        have e3 := HB2.out.cell 3 _ rfl
        go_wp2_with (refine append_spans rfl (.tmp 38) (.tmp 40) rfl W0 (HL2.out.put _) _ R rfl (HW2.out.later ((Later.refl w2).put _)) _ [⟨a, b, m, 0⟩] rfl (ws_one' ⟨a, b, m, 0⟩ rfl) (by simp only [List.length_cons, List.length_nil]; omega) ?_; intro v' w6 hw hl6 hgb; have HW6 := Lib.hid hw; have HL6 := Lib.hid hl6; have HGB := Lib.hid hgb; clear hw hl6 hgb)
        go_ret
        exact ⟨_, rfl, by rw [EP.out]; exact HW6.out, grown_trans (HG2.out.put _) HGB.out⟩
    · have t1d : (s.t == a) = false := by simpa using t1
      have EP : Hid (push R a b m = R ++ [⟨a, b, m, 0⟩]) := Lib.hid (by rw [HR'.out, push_last, if_neg (fun c => t1 c.1)])
      clear t1
      obtain ⟨s0, s1, s2, s3⟩ := last_cells HOW.out
      rw [HQ.out] at s0 s1 s2 s3
      have b0 := HRB.out.cell 0 _ rfl
      have b1 := HRB.out.cell 1 _ rfl
      have b2 := HRB.out.cell 2 _ rfl
      have b3 := HRB.out.cell 3 _ rfl
      clear s0 s3
      go_enter Try.func23, Try.ntmps23
      go_wp2_with fail
      clear hwb
      go_quiet (fail)
      have HL2 : Hid (Later W0 (wb.drewN nq)) := Lib.hid HL.out
      have HG2 : Hid (Later w (wb.drewN nq)) := Lib.hid HLB.out
      have HW2 : Hid (WL (wb.drewN nq) W0.heap.size (.slice (some ⟨g, 0, none⟩) (q + 1) cap) R) := Lib.hid (HW.out.later (later_drewN wb nq))
      have HB2 : Hid (RA (wb.drewN nq) w.heap.size #[.int .i64 a, .int .i64 b, .int .i64 m, .int .i64 0] 31) := Lib.hid (HRB.out.later (later_drewN wb nq))
      generalize wb.drewN nq = w2 at HL2 HG2 HW2 HB2 ⊢
      have e0 := HB2.out.cell 0 _ rfl
      have e1 := HB2.out.cell 1 _ rfl
      have e2 := HB2.out.cell 2 _ rfl
      have e3 := HB2.out.cell 3 _ rfl
      go_wp2_with (refine append_spans rfl (.tmp 38) (.tmp 40) rfl W0 (HL2.out.put _) _ R rfl (HW2.out.later ((Later.refl w2).put _)) _ [⟨a, b, m, 0⟩] rfl (ws_one' ⟨a, b, m, 0⟩ rfl) (by simp only [List.length_cons, List.length_nil]; omega) ?_; intro v' w6 hw hl6 hgb; have HW6 := Lib.hid hw; have HL6 := Lib.hid hl6; have HGB := Lib.hid hgb; clear hw hl6 hgb)
      go_ret
      exact ⟨_, rfl, by rw [EP.out]; exact HW6.out, grown_trans (HG2.out.put _) HGB.out⟩

end Go.Proofs.Ytmjedpaiccaddaa.Span
