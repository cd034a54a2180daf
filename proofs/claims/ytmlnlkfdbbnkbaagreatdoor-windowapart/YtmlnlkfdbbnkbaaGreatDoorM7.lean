/-
  Texts of mine, merged: each part says what it holds. Conditions: as each theorem states.
-/
import Derived.Laws.Cover1
import Derived.Laws.EntriesVeiled
import Derived.ChangeKeysEq
import Derived.Test.YtmlnlkfdbbnkbaaGreatDoorM6

/- Whether a configuration's stops, times and windows may be, by the program. No condition but those that each theorem states. -/
namespace Go.Proofs.YtmlnlkfdbbnkbaaGreatDoor.Conf
set_option maxRecDepth 100000
set_option maxRecDepth 100000
open Go.ChangeShapes Go.WideShapes Go.ChangeAt Go.RowKit
open Go.Proofs.YtmlnlkfdbbnkbaaGreatDoor.Divs Go.Proofs.YtmlnlkfdbbnkbaaGreatDoor.Grow Go.Proofs.YtmlnlkfdbbnkbaaGreatDoor.Zone
open Go.Proofs.YtmlnlkfdbbnkbaaGreatDoor.By (Sk SL)
open Go.Proofs.YtmlnlkfdbbnkbaaGreatDoor.Each
open Go.Proofs.YtmlnlkfdbbnkbaaGreatDoor.Zo Go.Proofs.YtmlnlkfdbbnkbaaGreatDoor.Su Go.Proofs.YtmlnlkfdbbnkbaaGreatDoor.Cf

/-- These cells are the block B, whole. -/
def Row (B : Nat) (t : TypeId) (cs : Array Value) (W : World) : Prop := W.heap[B]? = some (.cells cs t (0, 0))

theorem Row.cell {B : Nat} {t : TypeId} {cs : Array Value} {W : World} (h : Row B t cs W) (i : Nat) {v : Value} (hc : cs[i]? = some v) : W.cell? ⟨B, i, none⟩ = some v := by
  unfold Row at h
  simp [World.cell?, h, hc]

theorem Row.frozen {B : Nat} {t : TypeId} {cs : Array Value} {W : World} (h : Row B t cs W) (i : Nat) : W.frozen? ⟨B, i, none⟩ = false := by
  unfold Row at h
  simp [World.frozen?, h]

theorem Row.lt {B : Nat} {t : TypeId} {cs : Array Value} {W : World} (h : Row B t cs W) : B < W.heap.size := by
  unfold Row at h
  exact (Array.getElem?_eq_some_iff.1 h).1

theorem Row.later {B : Nat} {t : TypeId} {cs : Array Value} {W W' : World} (h : Row B t cs W) (g : Later W W') : Row B t cs W' := (g.2.2.2 B h.lt).trans h

theorem Row.at {B : Nat} {t : TypeId} {cs : Array Value} {W : World} (h : Row B t cs W) : At W B cs := fun i _ hc => h.cell i hc

theorem Row.new (W : World) (cs : Array Value) (t : TypeId) : Row W.heap.size t cs (W.alloc (.cells cs t)) := heap_alloc_new W _

theorem row_set {X : World} {b : Nat} {c : Array Value} {t : TypeId} {fr : Nat × Nat} {k : Nat} {v : Value} (h : X.heap[b]? = some (.cells c t fr)) :
    (X.setCell ⟨b, k, none⟩ v).heap[b]? = some (.cells (c.setIfInBounds k v) t fr) := by
  simp [World.setCell, Array.getElem?_modify, h]

theorem Row.set {B : Nat} {t : TypeId} {cs : Array Value} {W : World} (h : Row B t cs W) (k : Nat) (v : Value) : Row B t (cs.setIfInBounds k v) (W.setCell ⟨B, k, none⟩ v) := row_set h

/-- The first k stops may be; the ends of the next one lie in the block E. -/
def SRel (f : Int) (st : List Int) (w : World) (E : Nat) (i : Value) (wr : World) : Prop :=
  ∃ k : Nat, k ≤ st.length ∧ i = .int .i64 (k : Int) ∧ su f st k ∧ Row E 90 #[.int .i64 (lo st k), .int .i64 (f - 1)] wr ∧ Later w wr

set_option maxHeartbeats 2000000 in
theorem stops_any (c : Cg) (u v : Value) (w : World) (hu : Sk .i64 w u c.st) (h0 : 2 ≤ c.f) (h1 : c.f ≤ 64) : Calls Tryz.prog 69 #[.agg (cc c u v)] w fun e w' => e = .returned (.int .i64 (if to c = true then 0 else 101)) ∧ Later w w' := by
  obtain ⟨N, hN⟩ : ∃ N : Int, N = if to c = true then 0 else 101 := ⟨_, rfl⟩
  rw [← hN]
  have HY : Hid (2 ≤ c.st.length ∧ su c.f c.st c.st.length → N = 0) := Lib.hid (fun h => by rw [hN, if_pos ((to_iff c).2 h)])
  have HN : Hid (¬ (2 ≤ c.st.length ∧ su c.f c.st c.st.length) → N = 101) := Lib.hid (fun h => by rw [hN, if_neg (fun g => h ((to_iff c).1 g))])
  clear hN
  have F := Lib.hid (fun W => floors_any c u v W h0 h1)
  have K := Lib.hid (fun a b x g W h => hold_one a b x g W h)
  by_cases hl : c.st.length < 2
  · have t : decide ((c.st.length : Int) < 2) = true := by simp; omega
    have HV := Lib.hid (HN.out (by omega))
    obtain ⟨ad, cap, rfl, hm⟩ := hu.len
    clear hu h0 h1
    unfold cc at *
    go_enter Tryz.func69, Tryz.ntmps69
    go_wp2_with fail
    go_ret
    exact ⟨ret1 HV.out.symm, (Later.refl w).alloc _ _⟩
  · have t : decide ((c.st.length : Int) < 2) = false := by simp; omega
    obtain ⟨B, off, cap, rfl, hc1, hc2, hB, hc⟩ := hu.has (by omega)
    have HC := Lib.hid hc
    have HM : Hid (c.st.length ≤ 9223372036854775807) := Lib.hid (by omega)
    have HB := Lib.hid hl
    clear hu hc1 hc2 hB hc hl
    obtain ⟨n, hn⟩ : ∃ n, c.st.length = n := ⟨_, rfl⟩
    rw [hn] at t F ⊢
    have HL := Lib.hid hn
    clear hn
    obtain ⟨C, hC⟩ : ∃ C, C = cc c (.slice (some ⟨B, off, none⟩) n cap) v := ⟨_, rfl⟩
    rw [← hC] at F ⊢
    have f3 : C[3]? = some (.slice (some ⟨B, off, none⟩) n cap) := by rw [hC]; rfl
    have HZ : Hid (C.size = 37) := Lib.hid (by rw [hC]; rfl)
    clear hC
    have AC := Lib.hid (At.new w C 33)
    go_enter Tryz.func69, Tryz.ntmps69
    go_wp2_with (refine load_at C HZ.out rfl (.tmp 1) rfl w.heap.size rfl AC.out ?_)
    refine (F.out _).mono ?_
    rintro e w1 ⟨rfl, hg1⟩
    have HG1 := Lib.hid (off_put hg1)
    have x3 := (AC.out.later hg1).put (.cells #[.int .i64 0, .int .i64 (c.f - 1)] 90) 3 _ f3
    clear hg1 t f3
    go_wp2_with fail
    clear x3
    go_loopw [15] (fun i wr => SRel c.f c.st w w1.heap.size i wr) (fun i _ => n - (intOf i).toNat)
    case atStart => exact ⟨0, by omega, rfl, su_zero _ _, Row.new _ _ _, HG1.out.put _⟩
    case round =>
      obtain ⟨k, hk, rfl, hsu, hrow, hg⟩ := hrel
      rw [HL.out] at hk
      have HS := Lib.hid hsu
      have HR := Lib.hid hrow
      have HG := Lib.hid hg
      clear hsu hrow hg
      by_cases hlt : k < n
      · have cx := gsome HG.out (HC.out k (by rw [HL.out]; exact hlt))
        obtain ⟨x, hx⟩ : ∃ x, c.st.getD k 0 = x := ⟨_, rfl⟩
        rw [hx] at cx
        have hm : n ≤ 9223372036854775807 := by have := HM.out; rw [HL.out] at this; exact this
        have r0 := HR.out.cell 0 rfl
        have r1 := HR.out.cell 1 rfl
        have rf := HR.out.frozen 0
        have HX := Lib.hid hx
        clear hx
        go_wp2_with fail
        refine (K.out _ _ x _ _ (new_cell _ _ _ 0 _ _ rfl rfl)).mono ?_
        rintro e w2 ⟨rfl, hg2⟩
        have HR2 := Lib.hid (HR.out.later (off_put hg2))
        have HG2 := Lib.hid (gtrans HG.out (off_put hg2))
        clear hg2 r0 r1 rf cx
        cases hb : bt x (lo c.st k) (c.f - 1) with
        | false =>
          have HV := Lib.hid (HN.out (fun h => by
            have := h.2 k (by rw [HL.out]; exact hlt)
            rw [sg, HX.out] at this
            rw [(bt_iff _ _ _).2 this] at hb
            cases hb))
          clear hb
          go_wp2_with fail
          go_ret
          exact ⟨ret1 HV.out.symm, HG2.out⟩
        | true =>
          have hsg : sg c.f c.st k := by rw [sg, HX.out]; exact (bt_iff _ _ _).1 hb
          have HS' := Lib.hid (su_on HS.out hsg)
          have hp := su_pos HS'.out k (by omega)
          rw [HX.out] at hp
          have hlo : lo c.st (k + 1) = x + 1 := by rw [lo_succ, HX.out]
          have HLo := Lib.hid hlo
          have r0 := HR2.out.cell 0 rfl
          have r1 := HR2.out.cell 1 rfl
          have rf := HR2.out.frozen 0
          clear hb hsg hlo
          go_wp2_with fail
          go_roundw
          case rel =>
            refine ⟨k + 1, by rw [HL.out]; omega, by go_num, HS'.out, ?_, HG2.out.setCell (by exact HG1.out.size) _⟩
            rw [HLo.out]
            exact HR2.out.set 0 _
          case measure => simp [intOf]; omega
      · obtain rfl : k = n := by omega
        have HV := Lib.hid (HY.out ⟨by have := HB.out; omega, by rw [HL.out]; exact HS.out⟩)
        go_wp2_with fail
        go_ret
        exact ⟨ret1 HV.out.symm, HG.out⟩

end Go.Proofs.YtmlnlkfdbbnkbaaGreatDoor.Conf

/- Whether a configuration's times and windows may be, by the program. No condition but those that each theorem states. -/
namespace Go.Proofs.YtmlnlkfdbbnkbaaGreatDoor.Conf
set_option maxRecDepth 100000
set_option maxRecDepth 100000
open Go.ChangeShapes Go.WideShapes Go.ChangeAt Go.RowKit
open Go.Proofs.YtmlnlkfdbbnkbaaGreatDoor.Divs Go.Proofs.YtmlnlkfdbbnkbaaGreatDoor.Grow Go.Proofs.YtmlnlkfdbbnkbaaGreatDoor.Zone
open Go.Proofs.YtmlnlkfdbbnkbaaGreatDoor.By (Sk SL)
open Go.Proofs.YtmlnlkfdbbnkbaaGreatDoor.Each
open Go.Proofs.YtmlnlkfdbbnkbaaGreatDoor.Zo Go.Proofs.YtmlnlkfdbbnkbaaGreatDoor.Su Go.Proofs.YtmlnlkfdbbnkbaaGreatDoor.Cf

theorem min_three (x y z : Int) (W : World) : (Builtin.min_ #[3, 3, 3] 3 #[.int .i64 x, .int .i64 y, .int .i64 z]).run Tryz.prog W = .ok (.int .i64 (min (min x y) z)) W := by
  rw [run_min_int3]
  have : (if z < (if y < x then y else x) then z else (if y < x then y else x)) = min (min x y) z := by
    split <;> split at * <;> omega
  rw [this]

set_option maxHeartbeats 2000000 in
theorem times_any (c : Cg) (u v : Value) (w : World) : Calls Tryz.prog 70 #[.agg (cc c u v)] w fun e w' => e = .returned (.int .i64 (if ti c = true then 0 else 102)) ∧ Later w w' := by
  obtain ⟨N, hN⟩ : ∃ N : Int, N = if ti c = true then 0 else 102 := ⟨_, rfl⟩
  rw [← hN]
  obtain ⟨B1, e1⟩ : ∃ b, (bt c.t 1 60 && (bt c.l 1 60 && (bt c.o 1 60 && (bt c.d 1 60 && bt c.c 1 60)))) = b := ⟨_, rfl⟩
  obtain ⟨B2, e2⟩ : ∃ b, bt c.h 0 60 = b := ⟨_, rfl⟩
  obtain ⟨B3, e3⟩ : ∃ b, (bt c.r 1 300 && bt c.q 1 300) = b := ⟨_, rfl⟩
  obtain ⟨B4, e4⟩ : ∃ b, bt c.e 1 (min (min c.d c.r) c.q) = b := ⟨_, rfl⟩
  have HN : Hid (N = if (B1 && (B2 && (B3 && B4))) = true then 0 else 102) := Lib.hid (by rw [hN]; unfold ti; rw [e1, e2, e3, e4])
  have E1 := Lib.hid e1
  have E2 := Lib.hid e2
  have E3 := Lib.hid e3
  have E4 := Lib.hid e4
  clear hN e1 e2 e3 e4
  have K1 := Lib.hid (fun a b x g W h => hold_one a b x g W h)
  have K2 := Lib.hid (fun a b x y g W h h1 => hold_two a b x y g W h h1)
  have K5 := Lib.hid (fun a b x y z s t g W h h1 h2 h3 h4 => hold_five a b x y z s t g W h h1 h2 h3 h4)
  obtain ⟨C, hC⟩ : ∃ C, C = cc c u v := ⟨_, rfl⟩
  rw [← hC]
  have f4 : C[4]? = some (.int .i64 c.t) := by rw [hC]; rfl
  have f5 : C[5]? = some (.int .i64 c.l) := by rw [hC]; rfl
  have f6 : C[6]? = some (.int .i64 c.o) := by rw [hC]; rfl
  have f7 : C[7]? = some (.int .i64 c.d) := by rw [hC]; rfl
  have f8 : C[8]? = some (.int .i64 c.e) := by rw [hC]; rfl
  have f9 : C[9]? = some (.int .i64 c.c) := by rw [hC]; rfl
  have f10 : C[10]? = some (.int .i64 c.h) := by rw [hC]; rfl
  have f11 : C[11]? = some (.int .i64 c.r) := by rw [hC]; rfl
  have f12 : C[12]? = some (.int .i64 c.q) := by rw [hC]; rfl
  clear hC
  obtain ⟨M, hM⟩ : ∃ M, min (min c.d c.r) c.q = M := ⟨_, rfl⟩
  have mn : ∀ W : World, (Builtin.min_ #[3, 3, 3] 3 #[.int .i64 c.d, .int .i64 c.r, .int .i64 c.q]).run Tryz.prog W = .ok (.int .i64 M) W := by
    intro W
    rw [min_three, hM]
  rw [hM] at E4
  clear hM
  have AA := Lib.hid (At.new w C 33)
  obtain ⟨T, hT⟩ : ∃ T : Array Value, T = #[.int .i64 c.t, .int .i64 c.l, .int .i64 c.o, .int .i64 c.d, .int .i64 c.e, .int .i64 c.c, .int .i64 c.h] := ⟨_, rfl⟩
  have AT := Lib.hid (At.new (w.alloc (.cells C 33)) T 24)
  have A1 := Lib.hid (At.new ((w.alloc (.cells C 33)).alloc (.cells T 24)) #[.int .i64 1, .int .i64 60] 90)
  have A2 := Lib.hid (At.new (((w.alloc (.cells C 33)).alloc (.cells T 24)).alloc (.cells #[.int .i64 1, .int .i64 60] 90)) #[.int .i64 0, .int .i64 60] 90)
  have A3 := Lib.hid (At.new ((((w.alloc (.cells C 33)).alloc (.cells T 24)).alloc (.cells #[.int .i64 1, .int .i64 60] 90)).alloc (.cells #[.int .i64 0, .int .i64 60] 90)) #[.int .i64 1, .int .i64 300] 90)
  have A4 := Lib.hid (At.new (((((w.alloc (.cells C 33)).alloc (.cells T 24)).alloc (.cells #[.int .i64 1, .int .i64 60] 90)).alloc (.cells #[.int .i64 0, .int .i64 60] 90)).alloc (.cells #[.int .i64 1, .int .i64 300] 90)) #[.int .i64 1, .int .i64 M] 90)
  subst hT
  simp only [World.size_alloc] at AT A1 A2 A3 A4
  have F8 := Lib.hid f8
  have F10 := Lib.hid f10
  have F11 := Lib.hid f11
  have F12 := Lib.hid f12
  go_enter Tryz.func70, Tryz.ntmps70
  go_wp2_with fail
  refine (K5.out _ _ c.t c.l c.o c.d c.c _ _ (new_cell _ _ _ 0 _ _ (by simp) rfl) (new_cell _ _ _ 1 _ _ (by simp) rfl) (new_cell _ _ _ 2 _ _ (by simp) rfl) (new_cell _ _ _ 3 _ _ (by simp) rfl) (new_cell _ _ _ 4 _ _ (by simp) rfl)).mono ?_
  rintro e w1 ⟨rfl, hg1⟩
  rw [E1.out]
  clear mn f4 f5 f6 f7 f8 f9 f10 f11 f12
  have HG1 := Lib.hid (off_put hg1)
  clear hg1
  have HW := Lib.hid (off_put (off_put (off_put (off_put (off_put (off_put HG1.out))))))
  cases B1 with
  | false =>
    have HV : Hid (N = 102) := Lib.hid (by rw [HN.out]; rfl)
    go_wp2_with fail
    go_ret
    exact ⟨ret1 HV.out.symm, HW.out⟩
  | true =>
    have a0 := A2.out.put (.cells #[.int .i64 1, .int .i64 300] 90)
    have a1 := (a0.put (.cells #[.int .i64 1, .int .i64 M] 90)).later HG1.out
    have c1 := a1 0 _ rfl
    have c2 := a1 1 _ rfl
    have t1 := (((((AT.out.put (.cells #[.int .i64 1, .int .i64 60] 90)).put (.cells #[.int .i64 0, .int .i64 60] 90)).put (.cells #[.int .i64 1, .int .i64 300] 90)).put (.cells #[.int .i64 1, .int .i64 M] 90)).later HG1.out)
    have HT := Lib.hid t1
    have c3 := t1 6 _ rfl
    clear a0 a1 t1
    go_wp2_with fail
    refine (K1.out _ _ c.h _ _ (new_cell _ _ _ 0 _ _ (by simp) rfl)).mono ?_
    rintro e w2 ⟨rfl, hg2⟩
    rw [E2.out]
    clear c1 c2 c3
    have HG2 := Lib.hid (off_put hg2)
    clear hg2
    cases B2 with
    | false =>
      have HV : Hid (N = 102) := Lib.hid (by rw [HN.out]; rfl)
      go_wp2_with fail
      go_ret
      exact ⟨ret1 HV.out.symm, gtrans HW.out HG2.out⟩
    | true =>
      have a1 := (A3.out.put (.cells #[.int .i64 1, .int .i64 M] 90)).later (gtrans HG1.out HG2.out)
      have c1 := a1 0 _ rfl
      have c2 := a1 1 _ rfl
      have hx := (AA.out.later (gtrans (((((Later.refl _).put _).put _).put _).put _) (gtrans ((Later.refl _).put _) (gtrans HG1.out HG2.out))))
      have c3 := hx 11 _ F11.out
      have c4 := hx 12 _ F12.out
      clear a1 hx
      go_wp2_with fail
      refine (K2.out _ _ c.r c.q _ _ (new_cell _ _ _ 0 _ _ (by simp) rfl) (new_cell _ _ _ 1 _ _ (by simp) rfl)).mono ?_
      rintro e w3 ⟨rfl, hg3⟩
      rw [E3.out]
      clear c1 c2 c3 c4
      have HG3 := Lib.hid (off_put hg3)
      clear hg3
      cases B3 with
      | false =>
        have HV : Hid (N = 102) := Lib.hid (by rw [HN.out]; rfl)
        go_wp2_with fail
        go_ret
        exact ⟨ret1 HV.out.symm, gtrans HW.out (gtrans HG2.out HG3.out)⟩
      | true =>
        have a1 := A4.out.later (gtrans HG1.out (gtrans HG2.out HG3.out))
        have c1 := a1 0 _ rfl
        have c2 := a1 1 _ rfl
        have c3 := HT.out.later (gtrans HG2.out HG3.out) 4 _ rfl
        clear a1
        go_wp2_with fail
        refine (K1.out _ _ c.e _ _ (new_cell _ _ _ 0 _ _ (by simp) rfl)).mono ?_
        rintro e w4 ⟨rfl, hg4⟩
        rw [E4.out]
        clear c1 c2 c3
        have HG4 := Lib.hid (off_put hg4)
        clear hg4
        cases B4 with
        | false =>
          have HV : Hid (N = 102) := Lib.hid (by rw [HN.out]; rfl)
          go_wp2_with fail
          go_ret
          exact ⟨ret1 HV.out.symm, gtrans HW.out (gtrans HG2.out (gtrans HG3.out HG4.out))⟩
        | true =>
          have HV : Hid (N = 0) := Lib.hid (by rw [HN.out]; rfl)
          go_wp2_with fail
          go_ret
          exact ⟨ret1 HV.out.symm, gtrans HW.out (gtrans HG2.out (gtrans HG3.out HG4.out))⟩

end Go.Proofs.YtmlnlkfdbbnkbaaGreatDoor.Conf

/- Whether a configuration's windows may be, and whether a configuration may be, by the program. No condition but those that each theorem states. -/
namespace Go.Proofs.YtmlnlkfdbbnkbaaGreatDoor.Conf
set_option maxRecDepth 100000
set_option maxRecDepth 100000
open Go.ChangeShapes Go.WideShapes Go.ChangeAt Go.RowKit
open Go.Proofs.YtmlnlkfdbbnkbaaGreatDoor.Divs Go.Proofs.YtmlnlkfdbbnkbaaGreatDoor.Grow Go.Proofs.YtmlnlkfdbbnkbaaGreatDoor.Zone
open Go.Proofs.YtmlnlkfdbbnkbaaGreatDoor.By (Sk SL)
open Go.Proofs.YtmlnlkfdbbnkbaaGreatDoor.Each
open Go.Proofs.YtmlnlkfdbbnkbaaGreatDoor.Zo Go.Proofs.YtmlnlkfdbbnkbaaGreatDoor.Su Go.Proofs.YtmlnlkfdbbnkbaaGreatDoor.Cf

/-- A window is loaded whole. -/
theorem load_win {ops : Array Oper} {rest : List Oper} {o : Oper} {a : Act} {W : World} {Q : Exit → Act → World → Prop} (y : Wn) (hgd : o.guard = none) (x : Operand) (ho : o.op = .load 35 x) (B off : Nat) (hx : a.eval x = .pointer (some ⟨B, off, none⟩)) (h : W.rangeAt B off (wc y)) (hK : wpList Tryz.prog ops Q rest (a.put o.dst (.agg #[.int .i64 y.k, .int .i64 y.m, .int .i64 y.p, .int .i64 y.a, .int .i64 y.h, .int .i64 y.u, .int .i64 y.l])) W) : wpList Tryz.prog ops Q (o :: rest) a W :=
  wpList_load_mid (P := Tryz.prog) hgd 35 x ho B off hx (wc y) _ h Tryz.underlying35 rfl (by kernel_rfl) hK

/-- The first k windows may be. -/
def WRel (xs : List Wn) (w : World) (i : Value) (wr : World) : Prop := ∃ k : Nat, k ≤ xs.length ∧ i = .int .i64 (k : Int) ∧ (∀ j x, j < k → xs[j]? = some x → wo x = true) ∧ Later w wr

theorem wa_no {xs : List Wn} {k : Nat} {x : Wn} (h : xs[k]? = some x) (hx : wo x = false) : wa xs = false := by
  unfold wa
  rw [List.all_eq_false]
  exact ⟨x, List.mem_of_getElem? h, by rw [hx]; simp⟩

theorem wa_yes {xs : List Wn} (h : ∀ j x, j < xs.length → xs[j]? = some x → wo x = true) : wa xs = true := by
  unfold wa
  rw [List.all_eq_true]
  intro x hx
  obtain ⟨i, hi⟩ := List.mem_iff_getElem?.1 hx
  exact h i x (List.getElem?_eq_some_iff.1 hi).1 hi

set_option maxHeartbeats 2000000 in
theorem windows_any (c : Cg) (u v : Value) (w : World) (hv : Wk w v c.ws) : Calls Tryz.prog 74 #[.agg (cc c u v)] w fun e w' => e = .returned (.int .i64 (if wa c.ws = true then 0 else 104)) ∧ Later w w' := by
  obtain ⟨N, hN⟩ : ∃ N : Int, N = if wa c.ws = true then 0 else 104 := ⟨_, rfl⟩
  rw [← hN]
  have HN := Lib.hid hN
  clear hN
  have K := Lib.hid (fun x W => window_any x W)
  obtain ⟨C, hC⟩ : ∃ C, C = cc c u v := ⟨_, rfl⟩
  rw [← hC]
  have f36 : C[36]? = some v := by rw [hC]; rfl
  clear hC
  have HG0 := Lib.hid ((Later.refl w).alloc C 33)
  rcases Nat.eq_zero_or_pos c.ws.length with h0 | h0
  · have HV : Hid (N = 0) := Lib.hid (by rw [HN.out, List.length_eq_zero_iff.1 h0]; rfl)
    obtain ⟨ad, cap, rfl, hm⟩ := hv.len
    rw [h0] at f36
    clear hv h0 hm
    go_enter Tryz.func74, Tryz.ntmps74
    go_wp2_with fail
    refine wp_loop_rounds 1 ?_
    rw [rounds_succ]
    go_wp2
    go_ret
    exact ⟨ret1 HV.out.symm, HG0.out⟩
  · obtain ⟨B, off, cap, rfl, hm, hB, hc⟩ := hv.has h0
    have HC := Lib.hid hc
    clear hv hc hB
    obtain ⟨xs, hxs⟩ : ∃ xs, c.ws = xs := ⟨_, rfl⟩
    rw [hxs] at HN HC hm h0 f36
    clear hxs
    obtain ⟨n, hn⟩ : ∃ n, xs.length = n := ⟨_, rfl⟩
    rw [hn] at h0 hm f36
    have HL := Lib.hid hn
    clear hn
    have ad : ∀ j, (⟨B, off, none⟩ : Addr).add j = ⟨B, off + j, none⟩ := Addr.add_mid B off
    go_enter Tryz.func74, Tryz.ntmps74
    go_wp2_with fail
    clear f36
    go_loopw [9] (fun i wr => WRel xs w i wr) (fun i _ => n - (intOf i).toNat)
    case atStart => exact ⟨0, by omega, rfl, by omega, HG0.out⟩
    case round =>
      obtain ⟨k, hk, rfl, hj, hg⟩ := hrel
      rw [HL.out] at hk
      have HG := Lib.hid hg
      clear hg
      by_cases hlt : k < n
      · obtain ⟨x, hx⟩ : ∃ x, xs[k]? = some x := ⟨_, List.getElem?_eq_getElem (by rw [HL.out]; exact hlt)⟩
        have hr := HC.out k x hx
        have HR : Hid (wr.rangeAt B (off + k * 7) (wc x)) := Lib.hid (fun j y hy => gsome HG.out (hr j y hy))
        have HJ := Lib.hid hj
        have HX := Lib.hid hx
        clear hr hj hx
        have K' := Lib.hid (fun W => K.out x W)
        unfold wc at K'
        go_wp2_with (refine load_win x rfl (.tmp 11) rfl B (off + k * 7) rfl HR.out ?_)
        refine (K'.out _).mono ?_
        rintro e w1 ⟨rfl, hg1⟩
        have HG1 := Lib.hid (gtrans HG.out (off_put hg1))
        clear hg1
        cases hb : wo x with
        | false =>
          have he : we x = 104 := by unfold we; rw [hb]; rfl
          have HV : Hid (N = 104) := Lib.hid (by rw [HN.out, wa_no HX.out hb]; rfl)
          rw [he]
          clear hb he
          go_wp2_with fail
          go_ret
          exact ⟨ret1 HV.out.symm, HG1.out⟩
        | true =>
          have he : we x = 0 := by unfold we; rw [hb]; rfl
          have HJ' : Hid (∀ j y, j < k + 1 → xs[j]? = some y → wo y = true) := Lib.hid (fun j y hj hy => by
            by_cases e : j = k
            · subst e
              rw [HX.out] at hy
              obtain rfl := Option.some.inj hy
              exact hb
            · exact HJ.out j y (by omega) hy)
          rw [he]
          clear hb he
          go_wp2_with fail
          go_roundw
          case rel => exact ⟨k + 1, by rw [HL.out]; omega, by go_num, HJ'.out, HG1.out⟩
          case measure => simp [intOf]; omega
      · obtain rfl : k = n := by omega
        have HV : Hid (N = 0) := Lib.hid (by rw [HN.out, wa_yes (fun j x hl hx => hj j x (by rw [← HL.out]; exact hl) hx)]; rfl)
        clear hj
        go_wp2_with fail
        go_ret
        exact ⟨ret1 HV.out.symm, HG.out⟩

end Go.Proofs.YtmlnlkfdbbnkbaaGreatDoor.Conf

/- Whether a configuration may be, by the program's Check. No condition. -/
namespace Go.Proofs.YtmlnlkfdbbnkbaaGreatDoor.Conf
set_option maxRecDepth 100000
open Go.ChangeShapes Go.WideShapes Go.ChangeAt Go.RowKit
open Go.Proofs.YtmlnlkfdbbnkbaaGreatDoor.Divs Go.Proofs.YtmlnlkfdbbnkbaaGreatDoor.Grow Go.Proofs.YtmlnlkfdbbnkbaaGreatDoor.Zone
open Go.Proofs.YtmlnlkfdbbnkbaaGreatDoor.By (Sk SL)
open Go.Proofs.YtmlnlkfdbbnkbaaGreatDoor.Each
open Go.Proofs.YtmlnlkfdbbnkbaaGreatDoor.Zo Go.Proofs.YtmlnlkfdbbnkbaaGreatDoor.Su Go.Proofs.YtmlnlkfdbbnkbaaGreatDoor.Cf

/-- The row of questions. -/
def qs : Array Value := #[.func (.func 68) #[] #[], .func (.func 69) #[] #[], .func (.func 70) #[] #[], .func (.func 71) #[] #[], .func (.func 72) #[] #[], .func (.func 73) #[] #[], .func (.func 74) #[] #[]]

theorem questions_any (w : World) : Calls Tryz.prog 43 #[] w fun e w' => ∃ g, e = .returned (.slice (some ⟨g, 0, none⟩) 7 7) ∧ At w' g qs ∧ Later w w' := by
  go_enter Tryz.func43, Tryz.ntmps43
  go_wp2
  go_ret
  exact ⟨_, rfl, At.new _ _ _, (Later.refl w).alloc _ _⟩

/-- The error of the k-th question, or 0. -/
def qe (c : Cg) : Nat → Int
  | 0 => if so c = true then 0 else 100
  | 1 => if to c = true then 0 else 101
  | 2 => if ti c = true then 0 else 102
  | 3 => ck c.z
  | 4 => sk c.s
  | 5 => if c.ws.length ≤ 16 then 0 else 103
  | 6 => if wa c.ws = true then 0 else 104
  | _ => 0

theorem q0 {c : Cg} (h : qe c 0 = 0) : so c = true := by
  by_cases e : so c = true
  · exact e
  · simp [qe, e] at h

theorem n0 {c : Cg} (h : qe c 0 ≠ 0) : ¬ so c = true ∧ qe c 0 = 100 := by
  by_cases e : so c = true
  · simp [qe, e] at h
  · exact ⟨e, by simp [qe, e]⟩

theorem q1 {c : Cg} (h : qe c 1 = 0) : to c = true := by
  by_cases e : to c = true
  · exact e
  · simp [qe, e] at h

theorem n1 {c : Cg} (h : qe c 1 ≠ 0) : ¬ to c = true ∧ qe c 1 = 101 := by
  by_cases e : to c = true
  · simp [qe, e] at h
  · exact ⟨e, by simp [qe, e]⟩

theorem q2 {c : Cg} (h : qe c 2 = 0) : ti c = true := by
  by_cases e : ti c = true
  · exact e
  · simp [qe, e] at h

theorem n2 {c : Cg} (h : qe c 2 ≠ 0) : ¬ ti c = true ∧ qe c 2 = 102 := by
  by_cases e : ti c = true
  · simp [qe, e] at h
  · exact ⟨e, by simp [qe, e]⟩

theorem q3 {c : Cg} (h : qe c 3 = 0) : ck c.z = 0 := h

theorem n3 {c : Cg} (h : qe c 3 ≠ 0) : ¬ ck c.z = 0 := h

theorem q4 {c : Cg} (h : qe c 4 = 0) : sk c.s = 0 := h

theorem n4 {c : Cg} (h : qe c 4 ≠ 0) : ¬ sk c.s = 0 := h

theorem q5 {c : Cg} (h : qe c 5 = 0) : c.ws.length ≤ 16 := by
  by_cases e : c.ws.length ≤ 16
  · exact e
  · simp [qe, e] at h

theorem n5 {c : Cg} (h : qe c 5 ≠ 0) : ¬ c.ws.length ≤ 16 ∧ qe c 5 = 103 := by
  by_cases e : c.ws.length ≤ 16
  · simp [qe, e] at h
  · exact ⟨e, by simp [qe, e]⟩

theorem q6 {c : Cg} (h : qe c 6 = 0) : wa c.ws = true := by
  by_cases e : wa c.ws = true
  · exact e
  · simp [qe, e] at h

theorem n6 {c : Cg} (h : qe c 6 ≠ 0) : ¬ wa c.ws = true ∧ qe c 6 = 104 := by
  by_cases e : wa c.ws = true
  · simp [qe, e] at h
  · exact ⟨e, by simp [qe, e]⟩

theorem ce_at (c : Cg) (k : Nat) (hk : k < 7) (h : ∀ j, j < k → qe c j = 0) (hn : qe c k ≠ 0) : ce c = qe c k := by
  unfold ce
  match k with
  | 0 =>
    rw [if_neg (n0 hn).1, (n0 hn).2]
  | 1 =>
    rw [if_pos (q0 (h 0 (by omega))), if_neg (n1 hn).1, (n1 hn).2]
  | 2 =>
    rw [if_pos (q0 (h 0 (by omega))), if_pos (q1 (h 1 (by omega))), if_neg (n2 hn).1, (n2 hn).2]
  | 3 =>
    rw [if_pos (q0 (h 0 (by omega))), if_pos (q1 (h 1 (by omega))), if_pos (q2 (h 2 (by omega))), if_neg (n3 hn)]
    rfl
  | 4 =>
    rw [if_pos (q0 (h 0 (by omega))), if_pos (q1 (h 1 (by omega))), if_pos (q2 (h 2 (by omega))), if_pos (q3 (h 3 (by omega))), if_neg (n4 hn)]
    rfl
  | 5 =>
    rw [if_pos (q0 (h 0 (by omega))), if_pos (q1 (h 1 (by omega))), if_pos (q2 (h 2 (by omega))), if_pos (q3 (h 3 (by omega))), if_pos (q4 (h 4 (by omega))), if_neg (n5 hn).1, (n5 hn).2]
  | 6 =>
    rw [if_pos (q0 (h 0 (by omega))), if_pos (q1 (h 1 (by omega))), if_pos (q2 (h 2 (by omega))), if_pos (q3 (h 3 (by omega))), if_pos (q4 (h 4 (by omega))), if_pos (q5 (h 5 (by omega))), if_neg (n6 hn).1, (n6 hn).2]
  | _ + 7 => omega

theorem ce_zero (c : Cg) (h : ∀ j, j < 7 → qe c j = 0) : ce c = 0 := by
  unfold ce
  rw [if_pos (q0 (h 0 (by omega))), if_pos (q1 (h 1 (by omega))), if_pos (q2 (h 2 (by omega))), if_pos (q3 (h 3 (by omega))), if_pos (q4 (h 4 (by omega))), if_pos (q5 (h 5 (by omega))), if_pos (q6 (h 6 (by omega)))]

theorem so_floors {c : Cg} (h : so c = true) : 2 ≤ c.f ∧ c.f ≤ 64 := by
  unfold so at h
  rw [Bool.and_eq_true] at h
  exact (bt_iff _ _ _).1 h.1

def QRel (c : Cg) (w : World) (e i : Value) (wr : World) : Prop := ∃ k : Nat, k ≤ 7 ∧ i = .int .i64 (k : Int) ∧ e = .int .i64 0 ∧ (∀ j, j < k → qe c j = 0) ∧ Later w wr

set_option maxHeartbeats 4000000 in
theorem check_any (c : Cg) (u v : Value) (w : World) (hu : Sk .i64 w u c.st) (hv : Wk w v c.ws) : Calls Tryz.prog 23 #[.agg (cc c u v)] w fun e w' => e = .returned (.int .i64 (ce c)) ∧ Later w w' := by
  have HU := Lib.hid hu
  have HV := Lib.hid hv
  clear hu hv
  have QQ := Lib.hid questions_any
  obtain ⟨C, hC⟩ : ∃ C, C = cc c u v := ⟨_, rfl⟩
  rw [← hC]
  have K0 : Hid (∀ W, Later w W → (∀ j, j < 0 → qe c j = 0) → Calls Tryz.prog 68 #[.agg C] W fun e w' => e = .returned (.int .i64 (qe c 0)) ∧ Later W w') := Lib.hid (fun W g h => by rw [hC]; exact size_any c u v W)
  have K1 : Hid (∀ W, Later w W → (∀ j, j < 1 → qe c j = 0) → Calls Tryz.prog 69 #[.agg C] W fun e w' => e = .returned (.int .i64 (qe c 1)) ∧ Later W w') := Lib.hid (fun W g h => by rw [hC]; exact stops_any c u v W (HU.out.later g) (so_floors (q0 (h 0 (by omega)))).1 (so_floors (q0 (h 0 (by omega)))).2)
  have K2 : Hid (∀ W, Later w W → (∀ j, j < 2 → qe c j = 0) → Calls Tryz.prog 70 #[.agg C] W fun e w' => e = .returned (.int .i64 (qe c 2)) ∧ Later W w') := Lib.hid (fun W g h => by rw [hC]; exact times_any c u v W)
  have K3 : Hid (∀ W, Later w W → (∀ j, j < 3 → qe c j = 0) → Calls Tryz.prog 71 #[.agg C] W fun e w' => e = .returned (.int .i64 (qe c 3)) ∧ Later W w') := Lib.hid (fun W g h => by rw [hC]; exact zone_any c u v W)
  have K4 : Hid (∀ W, Later w W → (∀ j, j < 4 → qe c j = 0) → Calls Tryz.prog 72 #[.agg C] W fun e w' => e = .returned (.int .i64 (qe c 4)) ∧ Later W w') := Lib.hid (fun W g h => by rw [hC]; exact sun_any c u v W)
  have K5 : Hid (∀ W, Later w W → (∀ j, j < 5 → qe c j = 0) → Calls Tryz.prog 73 #[.agg C] W fun e w' => e = .returned (.int .i64 (qe c 5)) ∧ Later W w') := Lib.hid (fun W g h => by rw [hC]; exact many_any c u v W (HV.out.later g))
  have K6 : Hid (∀ W, Later w W → (∀ j, j < 6 → qe c j = 0) → Calls Tryz.prog 74 #[.agg C] W fun e w' => e = .returned (.int .i64 (qe c 6)) ∧ Later W w') := Lib.hid (fun W g h => by rw [hC]; exact windows_any c u v W (HV.out.later g))
  have HZ : Hid (C.size = 37) := Lib.hid (by rw [hC]; rfl)
  have HCC := Lib.hid hC
  clear hC
  have AC := Lib.hid (At.new w C 33)
  obtain ⟨M, hM⟩ : ∃ M, M = ce c := ⟨_, rfl⟩
  rw [← hM]
  have HM := Lib.hid hM
  clear hM
  go_enter Tryz.func23, Tryz.ntmps23
  go_wp2_with fail
  go_step3
  go_wp2_with fail
  go_step3
  go_wp2_with fail
  refine (QQ.out _).mono ?_
  rintro e w1 ⟨g, rfl, hq, hg1⟩
  have HQ := Lib.hid hq
  have HG1 := Lib.hid (off_put hg1)
  have HA1 := Lib.hid (AC.out.later hg1)
  clear hg1 hq
  go_wp2_with fail
  go_loopw [3, 8] (fun e i wr => QRel c w1 e i wr) (fun _ i _ => 7 - (intOf i).toNat)
  case atStart => exact ⟨0, by omega, rfl, rfl, by omega, Later.refl _⟩
  case round =>
    obtain ⟨k, hk, rfl, rfl, hj, hg⟩ := hrel
    have HG := Lib.hid hg
    have HJ := Lib.hid hj
    have HW := Lib.hid (gtrans HG1.out hg)
    clear hg hj
    obtain rfl | rfl | rfl | rfl | rfl | rfl | rfl | rfl : k = 0 ∨ k = 1 ∨ k = 2 ∨ k = 3 ∨ k = 4 ∨ k = 5 ∨ k = 6 ∨ k = 7 := by omega
    · have hc : wr.cell? ⟨g, 0, none⟩ = some (.func (.func 68) #[] #[]) := HQ.out.later HG.out 0 _ rfl
      clear hk
      go_wp2_with (refine load_at C HZ.out rfl (.tmp 1) rfl w.heap.size rfl ((HA1.out.later HG.out).put _) ?_)
      refine (K0.out _ (HW.out.put _) HJ.out).mono ?_
      rintro e w2 ⟨rfl, hg2⟩
      clear hc
      have HG2 := Lib.hid (gtrans HG.out (off_put hg2))
      clear hg2
      by_cases hz : qe c 0 = 0
      · have HJ' : Hid (∀ j, j < 1 → qe c j = 0) := Lib.hid (fun j h => by
          by_cases e : j = 0
          · rw [e]; exact hz
          · exact HJ.out j (by omega))
        rw [hz]
        clear hz
        go_wp2_with fail
        go_roundw
        case rel => exact ⟨1, by omega, by go_num, rfl, HJ'.out, HG2.out⟩
        case measure => simp [intOf]
      · have HE : Hid (M = qe c 0) := Lib.hid (by rw [HM.out]; exact ce_at c 0 (by omega) HJ.out hz)
        have tt : (qe c 0 != 0) = true := by simpa using hz
        generalize qe c 0 = E at *
        clear hz
        go_wp2_with fail
        rw [Exit.noGoto_ret]
        go_ret
        exact ⟨ret1 HE.out.symm, gtrans HG1.out HG2.out⟩
    · have hc : wr.cell? ⟨g, 1, none⟩ = some (.func (.func 69) #[] #[]) := HQ.out.later HG.out 1 _ rfl
      clear hk
      go_wp2_with (refine load_at C HZ.out rfl (.tmp 1) rfl w.heap.size rfl ((HA1.out.later HG.out).put _) ?_)
      refine (K1.out _ (HW.out.put _) HJ.out).mono ?_
      rintro e w2 ⟨rfl, hg2⟩
      clear hc
      have HG2 := Lib.hid (gtrans HG.out (off_put hg2))
      clear hg2
      by_cases hz : qe c 1 = 0
      · have HJ' : Hid (∀ j, j < 2 → qe c j = 0) := Lib.hid (fun j h => by
          by_cases e : j = 1
          · rw [e]; exact hz
          · exact HJ.out j (by omega))
        rw [hz]
        clear hz
        go_wp2_with fail
        go_roundw
        case rel => exact ⟨2, by omega, by go_num, rfl, HJ'.out, HG2.out⟩
        case measure => simp [intOf]
      · have HE : Hid (M = qe c 1) := Lib.hid (by rw [HM.out]; exact ce_at c 1 (by omega) HJ.out hz)
        have tt : (qe c 1 != 0) = true := by simpa using hz
        generalize qe c 1 = E at *
        clear hz
        go_wp2_with fail
        rw [Exit.noGoto_ret]
        go_ret
        exact ⟨ret1 HE.out.symm, gtrans HG1.out HG2.out⟩
    · have hc : wr.cell? ⟨g, 2, none⟩ = some (.func (.func 70) #[] #[]) := HQ.out.later HG.out 2 _ rfl
      clear hk
      go_wp2_with (refine load_at C HZ.out rfl (.tmp 1) rfl w.heap.size rfl ((HA1.out.later HG.out).put _) ?_)
      refine (K2.out _ (HW.out.put _) HJ.out).mono ?_
      rintro e w2 ⟨rfl, hg2⟩
      clear hc
      have HG2 := Lib.hid (gtrans HG.out (off_put hg2))
      clear hg2
      by_cases hz : qe c 2 = 0
      · have HJ' : Hid (∀ j, j < 3 → qe c j = 0) := Lib.hid (fun j h => by
          by_cases e : j = 2
          · rw [e]; exact hz
          · exact HJ.out j (by omega))
        rw [hz]
        clear hz
        go_wp2_with fail
        go_roundw
        case rel => exact ⟨3, by omega, by go_num, rfl, HJ'.out, HG2.out⟩
        case measure => simp [intOf]
      · have HE : Hid (M = qe c 2) := Lib.hid (by rw [HM.out]; exact ce_at c 2 (by omega) HJ.out hz)
        have tt : (qe c 2 != 0) = true := by simpa using hz
        generalize qe c 2 = E at *
        clear hz
        go_wp2_with fail
        rw [Exit.noGoto_ret]
        go_ret
        exact ⟨ret1 HE.out.symm, gtrans HG1.out HG2.out⟩
    · have hc : wr.cell? ⟨g, 3, none⟩ = some (.func (.func 71) #[] #[]) := HQ.out.later HG.out 3 _ rfl
      clear hk
      go_wp2_with (refine load_at C HZ.out rfl (.tmp 1) rfl w.heap.size rfl ((HA1.out.later HG.out).put _) ?_)
      refine (K3.out _ (HW.out.put _) HJ.out).mono ?_
      rintro e w2 ⟨rfl, hg2⟩
      clear hc
      have HG2 := Lib.hid (gtrans HG.out (off_put hg2))
      clear hg2
      by_cases hz : qe c 3 = 0
      · have HJ' : Hid (∀ j, j < 4 → qe c j = 0) := Lib.hid (fun j h => by
          by_cases e : j = 3
          · rw [e]; exact hz
          · exact HJ.out j (by omega))
        rw [hz]
        clear hz
        go_wp2_with fail
        go_roundw
        case rel => exact ⟨4, by omega, by go_num, rfl, HJ'.out, HG2.out⟩
        case measure => simp [intOf]
      · have HE : Hid (M = qe c 3) := Lib.hid (by rw [HM.out]; exact ce_at c 3 (by omega) HJ.out hz)
        have tt : (qe c 3 != 0) = true := by simpa using hz
        generalize qe c 3 = E at *
        clear hz
        go_wp2_with fail
        rw [Exit.noGoto_ret]
        go_ret
        exact ⟨ret1 HE.out.symm, gtrans HG1.out HG2.out⟩
    · have hc : wr.cell? ⟨g, 4, none⟩ = some (.func (.func 72) #[] #[]) := HQ.out.later HG.out 4 _ rfl
      clear hk
      go_wp2_with (refine load_at C HZ.out rfl (.tmp 1) rfl w.heap.size rfl ((HA1.out.later HG.out).put _) ?_)
      refine (K4.out _ (HW.out.put _) HJ.out).mono ?_
      rintro e w2 ⟨rfl, hg2⟩
      clear hc
      have HG2 := Lib.hid (gtrans HG.out (off_put hg2))
      clear hg2
      by_cases hz : qe c 4 = 0
      · have HJ' : Hid (∀ j, j < 5 → qe c j = 0) := Lib.hid (fun j h => by
          by_cases e : j = 4
          · rw [e]; exact hz
          · exact HJ.out j (by omega))
        rw [hz]
        clear hz
        go_wp2_with fail
        go_roundw
        case rel => exact ⟨5, by omega, by go_num, rfl, HJ'.out, HG2.out⟩
        case measure => simp [intOf]
      · have HE : Hid (M = qe c 4) := Lib.hid (by rw [HM.out]; exact ce_at c 4 (by omega) HJ.out hz)
        have tt : (qe c 4 != 0) = true := by simpa using hz
        generalize qe c 4 = E at *
        clear hz
        go_wp2_with fail
        rw [Exit.noGoto_ret]
        go_ret
        exact ⟨ret1 HE.out.symm, gtrans HG1.out HG2.out⟩
    · have hc : wr.cell? ⟨g, 5, none⟩ = some (.func (.func 73) #[] #[]) := HQ.out.later HG.out 5 _ rfl
      clear hk
      go_wp2_with (refine load_at C HZ.out rfl (.tmp 1) rfl w.heap.size rfl ((HA1.out.later HG.out).put _) ?_)
      refine (K5.out _ (HW.out.put _) HJ.out).mono ?_
      rintro e w2 ⟨rfl, hg2⟩
      clear hc
      have HG2 := Lib.hid (gtrans HG.out (off_put hg2))
      clear hg2
      by_cases hz : qe c 5 = 0
      · have HJ' : Hid (∀ j, j < 6 → qe c j = 0) := Lib.hid (fun j h => by
          by_cases e : j = 5
          · rw [e]; exact hz
          · exact HJ.out j (by omega))
        rw [hz]
        clear hz
        go_wp2_with fail
        go_roundw
        case rel => exact ⟨6, by omega, by go_num, rfl, HJ'.out, HG2.out⟩
        case measure => simp [intOf]
      · have HE : Hid (M = qe c 5) := Lib.hid (by rw [HM.out]; exact ce_at c 5 (by omega) HJ.out hz)
        have tt : (qe c 5 != 0) = true := by simpa using hz
        generalize qe c 5 = E at *
        clear hz
        go_wp2_with fail
        rw [Exit.noGoto_ret]
        go_ret
        exact ⟨ret1 HE.out.symm, gtrans HG1.out HG2.out⟩
    · have hc : wr.cell? ⟨g, 6, none⟩ = some (.func (.func 74) #[] #[]) := HQ.out.later HG.out 6 _ rfl
      clear hk
      go_wp2_with (refine load_at C HZ.out rfl (.tmp 1) rfl w.heap.size rfl ((HA1.out.later HG.out).put _) ?_)
      refine (K6.out _ (HW.out.put _) HJ.out).mono ?_
      rintro e w2 ⟨rfl, hg2⟩
      clear hc
      have HG2 := Lib.hid (gtrans HG.out (off_put hg2))
      clear hg2
      by_cases hz : qe c 6 = 0
      · have HJ' : Hid (∀ j, j < 7 → qe c j = 0) := Lib.hid (fun j h => by
          by_cases e : j = 6
          · rw [e]; exact hz
          · exact HJ.out j (by omega))
        rw [hz]
        clear hz
        go_wp2_with fail
        go_roundw
        case rel => exact ⟨7, by omega, by go_num, rfl, HJ'.out, HG2.out⟩
        case measure => simp [intOf]
      · have HE : Hid (M = qe c 6) := Lib.hid (by rw [HM.out]; exact ce_at c 6 (by omega) HJ.out hz)
        have tt : (qe c 6 != 0) = true := by simpa using hz
        generalize qe c 6 = E at *
        clear hz
        go_wp2_with fail
        rw [Exit.noGoto_ret]
        go_ret
        exact ⟨ret1 HE.out.symm, gtrans HG1.out HG2.out⟩
    · have HE : Hid (M = 0) := Lib.hid (by rw [HM.out]; exact ce_zero c HJ.out)
      clear hk
      go_wp2_with fail
      rw [Exit.noGoto_ret]
      go_ret
      exact ⟨ret1 HE.out.symm, HW.out⟩

end Go.Proofs.YtmlnlkfdbbnkbaaGreatDoor.Conf

/- Whether a window, and the times of a configuration, may be, by the reckoning. No condition. -/
namespace Go.Proofs.YtmlnlkfdbbnkbaaGreatDoor.Conf
set_option maxRecDepth 100000
open Go.ChangeShapes Go.WideShapes Go.ChangeAt Go.RowKit
open Go.Proofs.YtmlnlkfdbbnkbaaGreatDoor.Divs Go.Proofs.YtmlnlkfdbbnkbaaGreatDoor.Grow Go.Proofs.YtmlnlkfdbbnkbaaGreatDoor.Zone
open Go.Proofs.YtmlnlkfdbbnkbaaGreatDoor.By (Sk SL)
open Go.Proofs.YtmlnlkfdbbnkbaaGreatDoor.Each
open Go.Proofs.YtmlnlkfdbbnkbaaGreatDoor.Zo Go.Proofs.YtmlnlkfdbbnkbaaGreatDoor.Su Go.Proofs.YtmlnlkfdbbnkbaaGreatDoor.Cf

def tmB (x : Wn) : Bool := decide (0 ≤ x.u ∧ x.u ≤ 1439 ∧ 1 ≤ x.l ∧ x.l ≤ 10080)

theorem tmB_iff (x : Wn) : tmB x = true ↔ 0 ≤ x.u ∧ x.u ≤ 1439 ∧ 1 ≤ x.l ∧ x.l ≤ 10080 := by simp [tmB]

set_option maxHeartbeats 2000000 in
theorem wo_iff (x : Wn) : wo x = true ↔ (0 ≤ x.m ∧ x.m ≤ 5 ∧ 0 ≤ x.p ∧ x.p ≤ 99) ∧ ((x.k = 1 ∧ tmB x = true ∧ 1 ≤ x.a ∧ x.a ≤ 127 ∧ x.h = 0) ∨ (x.k = 2 ∧ tmB x = true ∧ 401 ≤ x.a ∧ x.a ≤ 3651998 ∧ x.h = 0) ∨ (x.k = 3 ∧ tmB x = true ∧ 1 ≤ x.a ∧ x.a ≤ 7 ∧ -7 ≤ x.h ∧ x.h ≤ 7) ∨ (x.k = 4 ∧ x.a = 0 ∧ x.h = 0 ∧ 0 ≤ x.u ∧ x.u ≤ 180 ∧ 0 ≤ x.l ∧ x.l ≤ 180)) := by
  unfold wo kn al ru
  rw [tmB_iff]
  simp only [Bool.and_eq_true, bt_iff]
  by_cases h1 : x.k = 1
  · simp [h1]
    exact ⟨fun ⟨⟨a, b⟩, ⟨c, d⟩, ⟨e, f⟩, ⟨g, h⟩, ⟨i, j⟩, k, l⟩ => ⟨⟨a, b, c, d⟩, ⟨i, j, k, l⟩, e, f, by omega⟩, fun ⟨⟨a, b, c, d⟩, ⟨i, j, k, l⟩, e, f, g⟩ => ⟨⟨a, b⟩, ⟨c, d⟩, ⟨e, f⟩, by omega, ⟨i, j⟩, k, l⟩⟩
  by_cases h2 : x.k = 2
  · simp [h2]
    exact ⟨fun ⟨⟨a, b⟩, ⟨c, d⟩, ⟨e, f⟩, ⟨g, h⟩, ⟨i, j⟩, k, l⟩ => ⟨⟨a, b, c, d⟩, ⟨i, j, k, l⟩, e, f, by omega⟩, fun ⟨⟨a, b, c, d⟩, ⟨i, j, k, l⟩, e, f, g⟩ => ⟨⟨a, b⟩, ⟨c, d⟩, ⟨e, f⟩, by omega, ⟨i, j⟩, k, l⟩⟩
  by_cases h3 : x.k = 3
  · simp [h3]
    exact ⟨fun ⟨⟨a, b⟩, ⟨c, d⟩, ⟨e, f⟩, ⟨g, h⟩, ⟨i, j⟩, k, l⟩ => ⟨⟨a, b, c, d⟩, ⟨i, j, k, l⟩, e, f, g, h⟩, fun ⟨⟨a, b, c, d⟩, ⟨i, j, k, l⟩, e, f, g, h⟩ => ⟨⟨a, b⟩, ⟨c, d⟩, ⟨e, f⟩, ⟨g, h⟩, ⟨i, j⟩, k, l⟩⟩
  by_cases h4 : x.k = 4
  · simp [h4]
    exact ⟨fun ⟨⟨a, b⟩, ⟨c, d⟩, ⟨e, f⟩, ⟨g, h⟩, ⟨i, j⟩, k, l⟩ => ⟨⟨a, b, c, d⟩, by omega, by omega, i, j, k, l⟩, fun ⟨⟨a, b, c, d⟩, e, g, i, j, k, l⟩ => ⟨⟨a, b⟩, ⟨c, d⟩, by omega, by omega, ⟨i, j⟩, k, l⟩⟩
  · constructor
    · rintro ⟨h, _⟩
      exfalso
      omega
    · rintro ⟨_, h⟩
      rcases h with ⟨h, _⟩ | ⟨h, _⟩ | ⟨h, _⟩ | ⟨h, _⟩
      · exact absurd h h1
      · exact absurd h h2
      · exact absurd h h3
      · exact absurd h h4

theorem timed_any (x : Wn) (w : World) : Calls Tryz.prog 50 #[.agg (wc x).toArray] w fun e w' => e = .returned (.bool (tmB x)) ∧ Later w w' := by
  have HV := Lib.hid (tmB_iff x)
  have HL := Lib.hid ((Later.refl w).alloc (wc x).toArray 35)
  unfold wc at *
  go_enter Tryz.func50, Tryz.ntmps50
  go_wp2
  all_goals
    go_ret
    refine ⟨retb ?_, HL.out⟩
    rw [Bool.eq_iff_iff, HV.out]
    simp
    omega

set_option maxHeartbeats 4000000 in
theorem rwindow_any (x : Wn) (w : World) : Calls Tryz.prog 28 #[.agg (wc x).toArray] w fun e w' => e = .returned (.bool (wo x)) ∧ Later w w' := by
  have HV := Lib.hid (wo_iff x)
  have K := Lib.hid (fun W => timed_any x W)
  have HL := Lib.hid ((Later.refl w).alloc (wc x).toArray 35)
  have HA := Lib.hid (At.new w (wc x).toArray 35)
  unfold wc at *
  by_cases hm : 0 ≤ x.m ∧ x.m ≤ 5 ∧ 0 ≤ x.p ∧ x.p ≤ 99
  · obtain ⟨m0, m1, p0, p1⟩ := hm
    have HP : Hid (0 ≤ x.m ∧ x.m ≤ 5 ∧ 0 ≤ x.p ∧ x.p ≤ 99) := Lib.hid ⟨m0, m1, p0, p1⟩
    have t1 : decide (x.m < 0) = false := by simp; omega
    have t2 : decide (x.m > 5) = false := by simp; omega
    have t3 : decide (x.p < 0) = false := by simp; omega
    have t4 : decide (x.p > 99) = false := by simp; omega
    clear m0 m1 p0 p1
    go_enter Tryz.func28, Tryz.ntmps28
    go_wp2_with fail
    refine (K.out _).mono ?_
    rintro e w1 ⟨rfl, hg1⟩
    have hA := HA.out.later hg1
    have HG := Lib.hid (gtrans HL.out hg1)
    have c0 := hA 0 _ rfl
    have c3 := hA 3 _ rfl
    have c4 := hA 4 _ rfl
    have c5 := hA 5 _ rfl
    have c6 := hA 6 _ rfl
    simp at c0 c3 c4 c5 c6
    clear hA hg1 t1 t2 t3 t4
    obtain ⟨b, hb⟩ : ∃ b, tmB x = b := ⟨_, rfl⟩
    rw [hb]
    have HB := Lib.hid hb
    clear hb
    have HW : Hid (wo x = ((x.k == 1 && (b && (decide (1 ≤ x.a) && (decide (x.a ≤ 127) && x.h == 0)))) || ((x.k == 2 && (b && (decide (401 ≤ x.a) && (decide (x.a ≤ 3651998) && x.h == 0)))) || ((x.k == 3 && (b && (decide (1 ≤ x.a) && (decide (x.a ≤ 7) && (decide (-7 ≤ x.h) && decide (x.h ≤ 7)))))) || (x.k == 4 && (x.a == 0 && (x.h == 0 && (decide (0 ≤ x.u) && (decide (x.u ≤ 180) && (decide (0 ≤ x.l) && decide (x.l ≤ 180))))))))))) := Lib.hid (by
      rw [Bool.eq_iff_iff, HV.out, HB.out]
      have := HP.out
      simp only [Bool.or_eq_true, Bool.and_eq_true, decide_eq_true_eq, beq_iff_eq]
      simp only [this.1, this.2.1, this.2.2.1, this.2.2.2, true_and, and_true])
    go_wp2
    all_goals
      go_ret
      refine ⟨retb ?_, HG.out⟩
      rw [HW.out]
      first | (simp_all; done) | (simp_all; omega)
  · have HW : Hid (wo x = false) := Lib.hid (by
      cases e : wo x with
      | false => rfl
      | true => exact absurd ((wo_iff x).1 e).1 hm)
    have HM := Lib.hid hm
    clear hm
    go_enter Tryz.func28, Tryz.ntmps28
    go_wp2_with fail
    all_goals first
      | (go_ret; exact ⟨retb HW.out.symm, HL.out⟩)
      | (exfalso; have := HM.out; omega)

end Go.Proofs.YtmlnlkfdbbnkbaaGreatDoor.Conf

/- Which windows, times, zones, sunsets and rows are the same, by the program. No condition but those that each theorem states. -/
namespace Go.Proofs.YtmlnlkfdbbnkbaaGreatDoor.Conf
set_option maxRecDepth 100000
set_option maxRecDepth 100000
open Go.ChangeShapes Go.WideShapes Go.ChangeAt Go.RowKit
open Go.Proofs.YtmlnlkfdbbnkbaaGreatDoor.Divs Go.Proofs.YtmlnlkfdbbnkbaaGreatDoor.Grow Go.Proofs.YtmlnlkfdbbnkbaaGreatDoor.Zone
open Go.Proofs.YtmlnlkfdbbnkbaaGreatDoor.By (Sk SL take_on take_all bool_no bool_yes)
open Go.Proofs.YtmlnlkfdbbnkbaaGreatDoor.Each
open Go.Proofs.YtmlnlkfdbbnkbaaGreatDoor.Zo Go.Proofs.YtmlnlkfdbbnkbaaGreatDoor.Su Go.Proofs.YtmlnlkfdbbnkbaaGreatDoor.Cf

attribute [local go_sem] equal_int_at

theorem equal_win (x y : Wn) (w : World) : (Op.equalIn 10000 35 (.agg #[.int .i64 x.k, .int .i64 x.m, .int .i64 x.p, .int .i64 x.a, .int .i64 x.h, .int .i64 x.u, .int .i64 x.l]) (.agg #[.int .i64 y.k, .int .i64 y.m, .int .i64 y.p, .int .i64 y.a, .int .i64 y.h, .int .i64 y.u, .int .i64 y.l])).run Tryz.prog w = .ok (ws x y) w := by
  have u3 := Tryz.underlying3
  have a3 := Tryz.isAgg3
  have z3 := Tryz.sizeOf3
  have hS : Tryz.prog.underlying 35 = some (.struct (Tryz.prog.fieldsOf 35)) := by kernel_rfl
  have hp : Tryz.prog.stoodInHeld 35 = false := by kernel_rfl
  have E : ∀ n, (Op.equalIn (n + 1 + 1) 35 (.agg #[.int .i64 x.k, .int .i64 x.m, .int .i64 x.p, .int .i64 x.a, .int .i64 x.h, .int .i64 x.u, .int .i64 x.l]) (.agg #[.int .i64 y.k, .int .i64 y.m, .int .i64 y.p, .int .i64 y.a, .int .i64 y.h, .int .i64 y.u, .int .i64 y.l])).run Tryz.prog w = .ok (ws x y) w := by
    intro n
    rw [run_equalIn_agg w (n + 1) 35 _ _ hS hp]
    simp only [Program.fieldsOf, Tryz.underlying35]
    unfold ws
    go_simp
    repeat' split
    all_goals simp_all
  exact E 9998

/-- Are the times the same? -/
def tq (x y : Cg) : Bool := x.t == y.t && (x.l == y.l && (x.o == y.o && (x.d == y.d && (x.e == y.e && (x.c == y.c && x.h == y.h)))))

theorem equal_times (x y : Cg) (w : World) : (Op.equalIn 10000 24 (.agg #[.int .i64 x.t, .int .i64 x.l, .int .i64 x.o, .int .i64 x.d, .int .i64 x.e, .int .i64 x.c, .int .i64 x.h]) (.agg #[.int .i64 y.t, .int .i64 y.l, .int .i64 y.o, .int .i64 y.d, .int .i64 y.e, .int .i64 y.c, .int .i64 y.h])).run Tryz.prog w = .ok (tq x y) w := by
  have u3 := Tryz.underlying3
  have a3 := Tryz.isAgg3
  have z3 := Tryz.sizeOf3
  have hS : Tryz.prog.underlying 24 = some (.struct (Tryz.prog.fieldsOf 24)) := by kernel_rfl
  have hp : Tryz.prog.stoodInHeld 24 = false := by kernel_rfl
  have E : ∀ n, (Op.equalIn (n + 1 + 1) 24 (.agg #[.int .i64 x.t, .int .i64 x.l, .int .i64 x.o, .int .i64 x.d, .int .i64 x.e, .int .i64 x.c, .int .i64 x.h]) (.agg #[.int .i64 y.t, .int .i64 y.l, .int .i64 y.o, .int .i64 y.d, .int .i64 y.e, .int .i64 y.c, .int .i64 y.h])).run Tryz.prog w = .ok (tq x y) w := by
    intro n
    rw [run_equalIn_agg w (n + 1) 24 _ _ hS hp]
    simp only [Program.fieldsOf, Tryz.underlying24]
    unfold tq
    go_simp
    repeat' split
    all_goals simp_all
  exact E 9998

/-- Are the sunsets the same? -/
def sq (s r : Nat → Int) : Bool := (List.range 12).all fun i => s i == r i

theorem sun_item (n : Nat) (s r : Nat → Int) (xs ys : Array Value) (w : World) : ∀ is : List Nat, (∀ i ∈ is, xs[i]? = some (.int .i64 (s i)) ∧ ys[i]? = some (.int .i64 (r i))) →
    (Op.eqItems (n + 1) 3 1 xs ys is).run Tryz.prog w = .ok (is.all fun i => s i == r i) w := by
  intro is
  induction is with
  | nil => intro _; simp [Op.eqItems]
  | cons i is ih =>
    intro h
    have u3 := Tryz.underlying3
    have a3 := Tryz.isAgg3
    have z3 := Tryz.sizeOf3
    obtain ⟨h1, h2⟩ := h i (by simp)
    have ih' := ih (fun j hj => h j (by simp [hj]))
    clear ih h
    unfold Op.eqItems
    rw [Nat.mul_one]
    go_simp
    split <;> simp_all

theorem equal_sun (s r : Nat → Int) (w : World) : (Op.equalIn 10000 30 (.agg #[.int .i64 (s 0), .int .i64 (s 1), .int .i64 (s 2), .int .i64 (s 3), .int .i64 (s 4), .int .i64 (s 5), .int .i64 (s 6), .int .i64 (s 7), .int .i64 (s 8), .int .i64 (s 9), .int .i64 (s 10), .int .i64 (s 11)])
      (.agg #[.int .i64 (r 0), .int .i64 (r 1), .int .i64 (r 2), .int .i64 (r 3), .int .i64 (r 4), .int .i64 (r 5), .int .i64 (r 6), .int .i64 (r 7), .int .i64 (r 8), .int .i64 (r 9), .int .i64 (r 10), .int .i64 (r 11)])).run Tryz.prog w = .ok (sq s r) w := by
  have hu : Tryz.prog.underlying 30 = some (.array 12 3) := by kernel_rfl
  obtain ⟨i, hi⟩ : ∃ i, Tryz.prog.info? 3 = some i := ⟨_, rfl⟩
  have hc : Tryz.prog.cellsOf 3 = 1 := by kernel_rfl
  rw [run_equalIn_array w 9999 _ _ hu hi, hc]
  refine sun_item 9998 s r _ _ w (List.range 12) (fun i hi => ?_)
  rw [List.mem_range] at hi
  match i, hi with
  | 0, _ | 1, _ | 2, _ | 3, _ | 4, _ | 5, _ | 6, _ | 7, _ | 8, _ | 9, _ | 10, _ | 11, _ => exact ⟨rfl, rfl⟩
  | i + 12, h => omega

instance : DecidableEq Wn := fun x y => decidable_of_iff _ (ws_iff x y)

/-- The first i of two rows are the same. -/
def ERel {α : Type} (xs ys : List α) (w : World) (x : Value) (wr : World) : Prop := ∃ i k : Nat, i ≤ xs.length ∧ x = .int .i64 (i : Int) ∧ xs.take i = ys.take i ∧ wr = w.drewN k

theorem same_all {α : Type} (xs ys : List α) (n : Nat) (hx : n = xs.length) (hl : xs.length = ys.length) (h : xs.take n = ys.take n) : xs = ys := by
  rw [List.take_of_length_le (by omega), List.take_of_length_le (by omega)] at h
  exact h

theorem same_on {α : Type} (xs ys : List α) (i : Nat) (a : α) (hx : xs[i]? = some a) (hy : ys[i]? = some a) (h : xs.take i = ys.take i) : xs.take (i + 1) = ys.take (i + 1) := by
  rw [List.take_add_one, List.take_add_one, h, hx, hy]

attribute [local go_sem high] equal_win

end Go.Proofs.YtmlnlkfdbbnkbaaGreatDoor.Conf

/- Whether two configurations are the same, and whether cars go on, by the program. No condition but those that each theorem states. -/
namespace Go.Proofs.YtmlnlkfdbbnkbaaGreatDoor.Conf
set_option maxRecDepth 100000
set_option maxRecDepth 100000
open Go.ChangeShapes Go.WideShapes Go.ChangeAt Go.RowKit
open Go.Proofs.YtmlnlkfdbbnkbaaGreatDoor.Divs Go.Proofs.YtmlnlkfdbbnkbaaGreatDoor.Grow Go.Proofs.YtmlnlkfdbbnkbaaGreatDoor.Zone
open Go.Proofs.YtmlnlkfdbbnkbaaGreatDoor.By (Sk SL take_on take_all bool_no bool_yes)
open Go.Proofs.YtmlnlkfdbbnkbaaGreatDoor.Each
open Go.Proofs.YtmlnlkfdbbnkbaaGreatDoor.Zo Go.Proofs.YtmlnlkfdbbnkbaaGreatDoor.Su Go.Proofs.YtmlnlkfdbbnkbaaGreatDoor.Cf

/-- Are the zones the same? -/
def zq (z y : Zn) : Bool := z.b == y.b && (z.s == y.s && ((z.p.m == y.p.m && (z.p.k == y.p.k && (z.p.v == y.p.v && z.p.u == y.p.u))) && (z.q.m == y.q.m && (z.q.k == y.q.k && (z.q.v == y.q.v && z.q.u == y.q.u)))))

theorem equal_zn (z y : Zn) (w : World) : (Op.equalIn 10000 28 (.agg #[.int .i64 z.b, .int .i64 z.s, .int .i64 z.p.m, .int .i64 z.p.k, .int .i64 z.p.v, .int .i64 z.p.u, .int .i64 z.q.m, .int .i64 z.q.k, .int .i64 z.q.v, .int .i64 z.q.u])
      (.agg #[.int .i64 y.b, .int .i64 y.s, .int .i64 y.p.m, .int .i64 y.p.k, .int .i64 y.p.v, .int .i64 y.p.u, .int .i64 y.q.m, .int .i64 y.q.k, .int .i64 y.q.v, .int .i64 y.q.u])).run Tryz.prog w = .ok (zq z y) w :=
  equal_zone _ _ _ _ _ _ _ _ _ _ _ _ _ _ _ _ _ _ _ _ w

attribute [local go_sem high] equal_win equal_times equal_sun equal_zn

/-- Are the buildings the same? -/
def sb (a b : Cg) : Bool := a.f == b.f && (a.n == b.n && (a.p == b.p && (decide (a.st = b.st) && (tq a b && (a.r == b.r && a.q == b.q)))))

/-- Are the timetables the same? -/
def tt (a b : Cg) : Bool := zq a.z b.z && (sq a.s b.s && ((a.ab == b.ab) && decide (a.ws = b.ws)))

end Go.Proofs.YtmlnlkfdbbnkbaaGreatDoor.Conf

/- Whether two configurations are the same, and whether cars go on, by the program. No condition but those that each theorem states. -/
namespace Go.Proofs.YtmlnlkfdbbnkbaaGreatDoor.Conf
set_option maxRecDepth 100000
set_option maxRecDepth 100000
open Go.ChangeShapes Go.WideShapes Go.ChangeAt Go.RowKit
open Go.Proofs.YtmlnlkfdbbnkbaaGreatDoor.Divs Go.Proofs.YtmlnlkfdbbnkbaaGreatDoor.Grow Go.Proofs.YtmlnlkfdbbnkbaaGreatDoor.Zone
open Go.Proofs.YtmlnlkfdbbnkbaaGreatDoor.By (Sk SL)
open Go.Proofs.YtmlnlkfdbbnkbaaGreatDoor.Each
open Go.Proofs.YtmlnlkfdbbnkbaaGreatDoor.Zo Go.Proofs.YtmlnlkfdbbnkbaaGreatDoor.Su Go.Proofs.YtmlnlkfdbbnkbaaGreatDoor.Cf

/-- A configuration is loaded whole, by an operation that is wanted. -/
theorem load_in {ops : Array Oper} {rest : List Oper} {o : Oper} {a : Act} {W : World} {Q : Exit → Act → World → Prop} (C : Array Value) (hC : C.size = 37) (hw : Region.wanted o (yielded ops a.tmps) = true) (x : Operand) (ho : o.op = .load 33 x) (g : Nat) (hx : a.eval x = .pointer (some ⟨g, 0, none⟩)) (h : At W g C) (hK : wpList Tryz.prog ops Q rest (a.put o.dst (.agg C)) W) : wpList Tryz.prog ops Q (o :: rest) a W := by
  unfold wpList
  rw [if_pos hw]
  exact .inl (wp_load_cfg C hC W g h x ho hx hK)

/-- Do cars go on? -/
def ft (a b : Cg) : Bool := (ce a == 0) && ((ce b == 0) && ((a.f == b.f) && (a.n == b.n)))

end Go.Proofs.YtmlnlkfdbbnkbaaGreatDoor.Conf

/- Whether a configuration's times and stops may be, by the reckoning. No condition but those that each theorem states. -/
namespace Go.Proofs.YtmlnlkfdbbnkbaaGreatDoor.Conf
set_option maxRecDepth 100000
set_option maxRecDepth 100000
open Go.ChangeShapes Go.WideShapes Go.ChangeAt Go.RowKit
open Go.Proofs.YtmlnlkfdbbnkbaaGreatDoor.Divs Go.Proofs.YtmlnlkfdbbnkbaaGreatDoor.Grow Go.Proofs.YtmlnlkfdbbnkbaaGreatDoor.Zone
open Go.Proofs.YtmlnlkfdbbnkbaaGreatDoor.By (Sk SL)
open Go.Proofs.YtmlnlkfdbbnkbaaGreatDoor.Each
open Go.Proofs.YtmlnlkfdbbnkbaaGreatDoor.Zo Go.Proofs.YtmlnlkfdbbnkbaaGreatDoor.Su Go.Proofs.YtmlnlkfdbbnkbaaGreatDoor.Cf

theorem tick_any (n : Int) (w : World) : Calls Tryz.prog 75 #[.int .i64 n] w fun e w' => e = .returned (.bool (bt n 1 60)) ∧ w = w' := by
  go_enter Tryz.func75, Tryz.ntmps75
  go_wp2
  all_goals
    go_ret
    refine ⟨retb ?_, rfl⟩
    rw [Bool.eq_iff_iff, bt_iff]
    simp
    try omega

set_option maxHeartbeats 4000000 in
theorem rtimes_any (c : Cg) (u v : Value) (w : World) : Calls Tryz.prog 48 #[.agg (cc c u v)] w fun e w' => e = .returned (.bool (ti c)) ∧ Later w w' := by
  have K := Lib.hid (fun n W => tick_any n W)
  obtain ⟨b1, e1⟩ : ∃ b, bt c.t 1 60 = b := ⟨_, rfl⟩
  obtain ⟨b2, e2⟩ : ∃ b, bt c.l 1 60 = b := ⟨_, rfl⟩
  obtain ⟨b3, e3⟩ : ∃ b, bt c.o 1 60 = b := ⟨_, rfl⟩
  obtain ⟨b4, e4⟩ : ∃ b, bt c.d 1 60 = b := ⟨_, rfl⟩
  obtain ⟨b5, e5⟩ : ∃ b, bt c.c 1 60 = b := ⟨_, rfl⟩
  have hv : ti c = ((b1 && (b2 && (b3 && (b4 && b5)))) && (bt c.h 0 60 && ((bt c.r 1 300 && bt c.q 1 300) && bt c.e 1 (min (min c.d c.r) c.q)))) := by
    unfold ti
    rw [e1, e2, e3, e4, e5]
  have HV := Lib.hid hv
  have hw : (b1 && (b2 && (b3 && (b4 && b5)))) = true → (ti c = true ↔ (0 ≤ c.h ∧ c.h ≤ 60 ∧ 1 ≤ c.r ∧ c.r ≤ 300 ∧ 1 ≤ c.q ∧ c.q ≤ 300 ∧ 1 ≤ c.e ∧ c.e ≤ c.d ∧ c.e ≤ c.r ∧ c.e ≤ c.q)) := by
    intro h
    rw [hv, h, Bool.true_and]
    simp only [Bool.and_eq_true, bt_iff]
    omega
  have HW := Lib.hid hw
  generalize ti c = R at *
  have E1 := Lib.hid e1
  have E2 := Lib.hid e2
  have E3 := Lib.hid e3
  have E4 := Lib.hid e4
  have E5 := Lib.hid e5
  clear hv hw e1 e2 e3 e4 e5
  obtain ⟨C, hC⟩ : ∃ C, C = cc c u v := ⟨_, rfl⟩
  rw [← hC]
  have f4 : C[4]? = some (.int .i64 c.t) := by rw [hC]; rfl
  have f5 : C[5]? = some (.int .i64 c.l) := by rw [hC]; rfl
  have f6 : C[6]? = some (.int .i64 c.o) := by rw [hC]; rfl
  have f7 : C[7]? = some (.int .i64 c.d) := by rw [hC]; rfl
  have f8 : C[8]? = some (.int .i64 c.e) := by rw [hC]; rfl
  have f9 : C[9]? = some (.int .i64 c.c) := by rw [hC]; rfl
  have f10 : C[10]? = some (.int .i64 c.h) := by rw [hC]; rfl
  have f11 : C[11]? = some (.int .i64 c.r) := by rw [hC]; rfl
  have f12 : C[12]? = some (.int .i64 c.q) := by rw [hC]; rfl
  clear hC
  have HL : Hid (Later w ((w.alloc (.cells C 33)).alloc (.cells #[.int .i64 c.t, .int .i64 c.l, .int .i64 c.o, .int .i64 c.d, .int .i64 c.e, .int .i64 c.c, .int .i64 c.h] 24))) := Lib.hid (((Later.refl w).alloc _ _).alloc _ _)
  go_enter Tryz.func48, Tryz.ntmps48
  go_wp2_with fail
  refine (K.out c.t _).mono ?_
  rintro e _ ⟨rfl, rfl⟩
  rw [E1.out]
  go_wp2_with fail
  refine (K.out c.l _).mono ?_
  rintro e _ ⟨rfl, rfl⟩
  rw [E2.out]
  go_wp2_with fail
  refine (K.out c.o _).mono ?_
  rintro e _ ⟨rfl, rfl⟩
  rw [E3.out]
  go_wp2_with fail
  refine (K.out c.d _).mono ?_
  rintro e _ ⟨rfl, rfl⟩
  rw [E4.out]
  go_wp2_with fail
  refine (K.out c.c _).mono ?_
  rintro e _ ⟨rfl, rfl⟩
  rw [E5.out]
  cases b1 with
  | false =>
    go_wp2_with fail
    go_ret
    exact ⟨retb (by rw [HV.out]; rfl), HL.out⟩
  | true =>
  cases b2 with
  | false =>
    go_wp2_with fail
    go_ret
    exact ⟨retb (by rw [HV.out]; rfl), HL.out⟩
  | true =>
  cases b3 with
  | false =>
    go_wp2_with fail
    go_ret
    exact ⟨retb (by rw [HV.out]; rfl), HL.out⟩
  | true =>
  cases b4 with
  | false =>
    go_wp2_with fail
    go_ret
    exact ⟨retb (by rw [HV.out]; rfl), HL.out⟩
  | true =>
  cases b5 with
  | false =>
    go_wp2_with fail
    go_ret
    exact ⟨retb (by rw [HV.out]; rfl), HL.out⟩
  | true =>
  go_wp2
  all_goals
    go_ret
    refine ⟨retb ?_, HL.out⟩
    rw [Bool.eq_iff_iff, HW.out rfl]
    simp
    try omega

end Go.Proofs.YtmlnlkfdbbnkbaaGreatDoor.Conf
