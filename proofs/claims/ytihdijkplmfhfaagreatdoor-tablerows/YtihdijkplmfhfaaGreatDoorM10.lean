/-
  Texts of mine, merged: each part says what it holds. Conditions: as each theorem states.
-/
import Derived.Laws.Cover1
import Derived.Laws.EntriesVeiled
import Derived.Test.YtihdijkplmfhfaaGreatDoorM9

/- Whether a configuration's stops, times and windows may be, by the program. No condition but those that each theorem states. -/
namespace Go.Proofs.YtihdijkplmfhfaaGreatDoor.Conf
set_option maxRecDepth 100000
set_option maxRecDepth 100000
open Go.ChangeShapes Go.WideShapes Go.ChangeAt Go.RowKit
open Go.Proofs.YtihdijkplmfhfaaGreatDoor.Divs Go.Proofs.YtihdijkplmfhfaaGreatDoor.Grow Go.Proofs.YtihdijkplmfhfaaGreatDoor.Zone
open Go.Proofs.YtihdijkplmfhfaaGreatDoor.By (Sk SL)
open Go.Proofs.YtihdijkplmfhfaaGreatDoor.Each
open Go.Proofs.YtihdijkplmfhfaaGreatDoor.Zo Go.Proofs.YtihdijkplmfhfaaGreatDoor.Su Go.Proofs.YtihdijkplmfhfaaGreatDoor.Cf

/-- These cells are the block B, whole. -/
def Row (B : Nat) (t : TypeId) (cs : Array Value) (W : World) : Prop := W.heap[B]? = some (.cells cs t (0, 0))

theorem Row.cell {B : Nat} {t : TypeId} {cs : Array Value} {W : World} (h : Row B t cs W) (i : Nat) {v : Value} (hc : cs[i]? = some v) : W.cell? ⟨B, i, none⟩ = some v := by
  unfold Row at h
  simp [World.cell?, h, hc]

theorem Row.frozen {B : Nat} {t : TypeId} {cs : Array Value} {W : World} (h : Row B t cs W) (i : Nat) : W.frozen? ⟨B, i, none⟩ = false := by
  unfold Row at h
  simp [World.frozen?, h]

theorem Row.lt {B : Nat} {t : TypeId} {cs : Array Value} {W : World} (h : Row B t cs W) : B < W.heap.size := by
  unfold Row at h
  exact (Array.getElem?_eq_some_iff.1 h).1

theorem Row.later {B : Nat} {t : TypeId} {cs : Array Value} {W W' : World} (h : Row B t cs W) (g : Later W W') : Row B t cs W' := (g.2.2.2 B h.lt).trans h

theorem Row.at {B : Nat} {t : TypeId} {cs : Array Value} {W : World} (h : Row B t cs W) : At W B cs := fun i _ hc => h.cell i hc

theorem Row.new (W : World) (cs : Array Value) (t : TypeId) : Row W.heap.size t cs (W.alloc (.cells cs t)) := heap_alloc_new W _

theorem row_set {X : World} {b : Nat} {c : Array Value} {t : TypeId} {fr : Nat × Nat} {k : Nat} {v : Value} (h : X.heap[b]? = some (.cells c t fr)) :
    (X.setCell ⟨b, k, none⟩ v).heap[b]? = some (.cells (c.setIfInBounds k v) t fr) := by
  simp [World.setCell, Array.getElem?_modify, h]

theorem Row.set {B : Nat} {t : TypeId} {cs : Array Value} {W : World} (h : Row B t cs W) (k : Nat) (v : Value) : Row B t (cs.setIfInBounds k v) (W.setCell ⟨B, k, none⟩ v) := row_set h

/-- The first k stops may be; the ends of the next one lie in the block E. -/
def SRel (f : Int) (st : List Int) (w : World) (E : Nat) (i : Value) (wr : World) : Prop :=
  ∃ k : Nat, k ≤ st.length ∧ i = .int .i64 (k : Int) ∧ su f st k ∧ Row E 133 #[.int .i64 (lo st k), .int .i64 (f - 1)] wr ∧ Later w wr

set_option maxHeartbeats 2000000 in
theorem stops_any (c : Cg) (u v : Value) (w : World) (hu : Sk .i64 w u c.st) (h0 : 2 ≤ c.f) (h1 : c.f ≤ 64) : Calls Tryz.prog 85 #[.agg (cc c u v)] w fun e w' => e = .returned (.int .i64 (if to c = true then 0 else 101)) ∧ Later w w' := by
  obtain ⟨N, hN⟩ : ∃ N : Int, N = if to c = true then 0 else 101 := ⟨_, rfl⟩
  rw [← hN]
  have HY : Hid (2 ≤ c.st.length ∧ su c.f c.st c.st.length → N = 0) := Lib.hid (fun h => by rw [hN, if_pos ((to_iff c).2 h)])
  have HN : Hid (¬ (2 ≤ c.st.length ∧ su c.f c.st c.st.length) → N = 101) := Lib.hid (fun h => by rw [hN, if_neg (fun g => h ((to_iff c).1 g))])
  clear hN
  have F := Lib.hid (fun W => floors_any c u v W h0 h1)
  have K := Lib.hid (fun a b x g W h => hold_one a b x g W h)
  by_cases hl : c.st.length < 2
  · have t : decide ((c.st.length : Int) < 2) = true := by simp; omega
    have HV := Lib.hid (HN.out (by omega))
    obtain ⟨ad, cap, rfl, hm⟩ := hu.len
    clear hu h0 h1
    unfold cc at *
    go_enter Tryz.func85, Tryz.ntmps85
    go_wp2_with fail
    go_ret
    exact ⟨ret1 HV.out.symm, (Later.refl w).alloc _ _⟩
  · have t : decide ((c.st.length : Int) < 2) = false := by simp; omega
    obtain ⟨B, off, cap, rfl, hc1, hc2, hB, hc⟩ := hu.has (by omega)
    have HC := Lib.hid hc
    have HM : Hid (c.st.length ≤ 9223372036854775807) := Lib.hid (by omega)
    have HB := Lib.hid hl
    clear hu hc1 hc2 hB hc hl
    obtain ⟨n, hn⟩ : ∃ n, c.st.length = n := ⟨_, rfl⟩
    rw [hn] at t F ⊢
    have HL := Lib.hid hn
    clear hn
    obtain ⟨C, hC⟩ : ∃ C, C = cc c (.slice (some ⟨B, off, none⟩) n cap) v := ⟨_, rfl⟩
    rw [← hC] at F ⊢
    have f3 : C[3]? = some (.slice (some ⟨B, off, none⟩) n cap) := by rw [hC]; rfl
    have HZ : Hid (C.size = 37) := Lib.hid (by rw [hC]; rfl)
    clear hC
    have AC := Lib.hid (At.new w C 33)
    go_enter Tryz.func85, Tryz.ntmps85
    go_wp2_with (refine load_at C HZ.out rfl (.tmp 1) rfl w.heap.size rfl AC.out ?_)
    refine (F.out _).mono ?_
    rintro e w1 ⟨rfl, hg1⟩
    have HG1 := Lib.hid (off_put hg1)
    have x3 := (AC.out.later hg1).put (.cells #[.int .i64 0, .int .i64 (c.f - 1)] 133) 3 _ f3
    clear hg1 t f3
    go_wp2_with fail
    clear x3
    go_loopw [15] (fun i wr => SRel c.f c.st w w1.heap.size i wr) (fun i _ => n - (intOf i).toNat)
    case atStart => exact ⟨0, by omega, rfl, su_zero _ _, Row.new _ _ _, HG1.out.put _⟩
    case round =>
      obtain ⟨k, hk, rfl, hsu, hrow, hg⟩ := hrel
      rw [HL.out] at hk
      have HS := Lib.hid hsu
      have HR := Lib.hid hrow
      have HG := Lib.hid hg
      clear hsu hrow hg
      by_cases hlt : k < n
      · have cx := gsome HG.out (HC.out k (by rw [HL.out]; exact hlt))
        obtain ⟨x, hx⟩ : ∃ x, c.st.getD k 0 = x := ⟨_, rfl⟩
        rw [hx] at cx
        have hm : n ≤ 9223372036854775807 := by have := HM.out; rw [HL.out] at this; exact this
        have r0 := HR.out.cell 0 rfl
        have r1 := HR.out.cell 1 rfl
        have rf := HR.out.frozen 0
        have HX := Lib.hid hx
        clear hx
        go_wp2_with fail
        refine (K.out _ _ x _ _ (new_cell _ _ _ 0 _ _ rfl rfl)).mono ?_
        rintro e w2 ⟨rfl, hg2⟩
        have HR2 := Lib.hid (HR.out.later (off_put hg2))
        have HG2 := Lib.hid (gtrans HG.out (off_put hg2))
        clear hg2 r0 r1 rf cx
        cases hb : bt x (lo c.st k) (c.f - 1) with
        | false =>
          have HV := Lib.hid (HN.out (fun h => by
            have := h.2 k (by rw [HL.out]; exact hlt)
            rw [sg, HX.out] at this
            rw [(bt_iff _ _ _).2 this] at hb
            cases hb))
          clear hb
          go_wp2_with fail
          go_ret
          exact ⟨ret1 HV.out.symm, HG2.out⟩
        | true =>
          have hsg : sg c.f c.st k := by rw [sg, HX.out]; exact (bt_iff _ _ _).1 hb
          have HS' := Lib.hid (su_on HS.out hsg)
          have hp := su_pos HS'.out k (by omega)
          rw [HX.out] at hp
          have hlo : lo c.st (k + 1) = x + 1 := by rw [lo_succ, HX.out]
          have HLo := Lib.hid hlo
          have r0 := HR2.out.cell 0 rfl
          have r1 := HR2.out.cell 1 rfl
          have rf := HR2.out.frozen 0
          clear hb hsg hlo
          go_wp2_with fail
          go_roundw
          case rel =>
            refine ⟨k + 1, by rw [HL.out]; omega, by go_num, HS'.out, ?_, HG2.out.setCell (by exact HG1.out.size) _⟩
            rw [HLo.out]
            exact HR2.out.set 0 _
          case measure => simp [intOf]; omega
      · obtain rfl : k = n := by omega
        have HV := Lib.hid (HY.out ⟨by have := HB.out; omega, by rw [HL.out]; exact HS.out⟩)
        go_wp2_with fail
        go_ret
        exact ⟨ret1 HV.out.symm, HG.out⟩

end Go.Proofs.YtihdijkplmfhfaaGreatDoor.Conf

/- Whether a configuration's times and windows may be, by the program. No condition but those that each theorem states. -/
namespace Go.Proofs.YtihdijkplmfhfaaGreatDoor.Conf
set_option maxRecDepth 100000
set_option maxRecDepth 100000
open Go.ChangeShapes Go.WideShapes Go.ChangeAt Go.RowKit
open Go.Proofs.YtihdijkplmfhfaaGreatDoor.Divs Go.Proofs.YtihdijkplmfhfaaGreatDoor.Grow Go.Proofs.YtihdijkplmfhfaaGreatDoor.Zone
open Go.Proofs.YtihdijkplmfhfaaGreatDoor.By (Sk SL)
open Go.Proofs.YtihdijkplmfhfaaGreatDoor.Each
open Go.Proofs.YtihdijkplmfhfaaGreatDoor.Zo Go.Proofs.YtihdijkplmfhfaaGreatDoor.Su Go.Proofs.YtihdijkplmfhfaaGreatDoor.Cf

theorem min_three (x y z : Int) (W : World) : (Builtin.min_ #[3, 3, 3] 3 #[.int .i64 x, .int .i64 y, .int .i64 z]).run Tryz.prog W = .ok (.int .i64 (min (min x y) z)) W := by
  rw [run_min_int3]
  have : (if z < (if y < x then y else x) then z else (if y < x then y else x)) = min (min x y) z := by
    split <;> split at * <;> omega
  rw [this]

set_option maxHeartbeats 2000000 in
theorem times_any (c : Cg) (u v : Value) (w : World) : Calls Tryz.prog 86 #[.agg (cc c u v)] w fun e w' => e = .returned (.int .i64 (if ti c = true then 0 else 102)) ∧ Later w w' := by
  obtain ⟨N, hN⟩ : ∃ N : Int, N = if ti c = true then 0 else 102 := ⟨_, rfl⟩
  rw [← hN]
  obtain ⟨B1, e1⟩ : ∃ b, (bt c.t 1 60 && (bt c.l 1 60 && (bt c.o 1 60 && (bt c.d 1 60 && bt c.c 1 60)))) = b := ⟨_, rfl⟩
  obtain ⟨B2, e2⟩ : ∃ b, bt c.h 0 60 = b := ⟨_, rfl⟩
  obtain ⟨B3, e3⟩ : ∃ b, (bt c.r 1 300 && bt c.q 1 300) = b := ⟨_, rfl⟩
  obtain ⟨B4, e4⟩ : ∃ b, bt c.e 1 (min (min c.d c.r) c.q) = b := ⟨_, rfl⟩
  have HN : Hid (N = if (B1 && (B2 && (B3 && B4))) = true then 0 else 102) := Lib.hid (by rw [hN]; unfold ti; rw [e1, e2, e3, e4])
  have E1 := Lib.hid e1
  have E2 := Lib.hid e2
  have E3 := Lib.hid e3
  have E4 := Lib.hid e4
  clear hN e1 e2 e3 e4
  have K1 := Lib.hid (fun a b x g W h => hold_one a b x g W h)
  have K2 := Lib.hid (fun a b x y g W h h1 => hold_two a b x y g W h h1)
  have K5 := Lib.hid (fun a b x y z s t g W h h1 h2 h3 h4 => hold_five a b x y z s t g W h h1 h2 h3 h4)
  obtain ⟨C, hC⟩ : ∃ C, C = cc c u v := ⟨_, rfl⟩
  rw [← hC]
  have f4 : C[4]? = some (.int .i64 c.t) := by rw [hC]; rfl
  have f5 : C[5]? = some (.int .i64 c.l) := by rw [hC]; rfl
  have f6 : C[6]? = some (.int .i64 c.o) := by rw [hC]; rfl
  have f7 : C[7]? = some (.int .i64 c.d) := by rw [hC]; rfl
  have f8 : C[8]? = some (.int .i64 c.e) := by rw [hC]; rfl
  have f9 : C[9]? = some (.int .i64 c.c) := by rw [hC]; rfl
  have f10 : C[10]? = some (.int .i64 c.h) := by rw [hC]; rfl
  have f11 : C[11]? = some (.int .i64 c.r) := by rw [hC]; rfl
  have f12 : C[12]? = some (.int .i64 c.q) := by rw [hC]; rfl
  clear hC
  obtain ⟨M, hM⟩ : ∃ M, min (min c.d c.r) c.q = M := ⟨_, rfl⟩
  have mn : ∀ W : World, (Builtin.min_ #[3, 3, 3] 3 #[.int .i64 c.d, .int .i64 c.r, .int .i64 c.q]).run Tryz.prog W = .ok (.int .i64 M) W := by
    intro W
    rw [min_three, hM]
  rw [hM] at E4
  clear hM
  have AA := Lib.hid (At.new w C 33)
  obtain ⟨T, hT⟩ : ∃ T : Array Value, T = #[.int .i64 c.t, .int .i64 c.l, .int .i64 c.o, .int .i64 c.d, .int .i64 c.e, .int .i64 c.c, .int .i64 c.h] := ⟨_, rfl⟩
  have AT := Lib.hid (At.new (w.alloc (.cells C 33)) T 24)
  have A1 := Lib.hid (At.new ((w.alloc (.cells C 33)).alloc (.cells T 24)) #[.int .i64 1, .int .i64 60] 133)
  have A2 := Lib.hid (At.new (((w.alloc (.cells C 33)).alloc (.cells T 24)).alloc (.cells #[.int .i64 1, .int .i64 60] 133)) #[.int .i64 0, .int .i64 60] 133)
  have A3 := Lib.hid (At.new ((((w.alloc (.cells C 33)).alloc (.cells T 24)).alloc (.cells #[.int .i64 1, .int .i64 60] 133)).alloc (.cells #[.int .i64 0, .int .i64 60] 133)) #[.int .i64 1, .int .i64 300] 133)
  have A4 := Lib.hid (At.new (((((w.alloc (.cells C 33)).alloc (.cells T 24)).alloc (.cells #[.int .i64 1, .int .i64 60] 133)).alloc (.cells #[.int .i64 0, .int .i64 60] 133)).alloc (.cells #[.int .i64 1, .int .i64 300] 133)) #[.int .i64 1, .int .i64 M] 133)
  subst hT
  simp only [World.size_alloc] at AT A1 A2 A3 A4
  have F8 := Lib.hid f8
  have F10 := Lib.hid f10
  have F11 := Lib.hid f11
  have F12 := Lib.hid f12
  go_enter Tryz.func86, Tryz.ntmps86
  go_wp2_with fail
  refine (K5.out _ _ c.t c.l c.o c.d c.c _ _ (new_cell _ _ _ 0 _ _ (by simp) rfl) (new_cell _ _ _ 1 _ _ (by simp) rfl) (new_cell _ _ _ 2 _ _ (by simp) rfl) (new_cell _ _ _ 3 _ _ (by simp) rfl) (new_cell _ _ _ 4 _ _ (by simp) rfl)).mono ?_
  rintro e w1 ⟨rfl, hg1⟩
  rw [E1.out]
  clear mn f4 f5 f6 f7 f8 f9 f10 f11 f12
  have HG1 := Lib.hid (off_put hg1)
  clear hg1
  have HW := Lib.hid (off_put (off_put (off_put (off_put (off_put (off_put HG1.out))))))
  cases B1 with
  | false =>
    have HV : Hid (N = 102) := Lib.hid (by rw [HN.out]; rfl)
    go_wp2_with fail
    go_ret
    exact ⟨ret1 HV.out.symm, HW.out⟩
  | true =>
    have a0 := A2.out.put (.cells #[.int .i64 1, .int .i64 300] 133)
    have a1 := (a0.put (.cells #[.int .i64 1, .int .i64 M] 133)).later HG1.out
    have c1 := a1 0 _ rfl
    have c2 := a1 1 _ rfl
    have t1 := (((((AT.out.put (.cells #[.int .i64 1, .int .i64 60] 133)).put (.cells #[.int .i64 0, .int .i64 60] 133)).put (.cells #[.int .i64 1, .int .i64 300] 133)).put (.cells #[.int .i64 1, .int .i64 M] 133)).later HG1.out)
    have HT := Lib.hid t1
    have c3 := t1 6 _ rfl
    clear a0 a1 t1
    go_wp2_with fail
    refine (K1.out _ _ c.h _ _ (new_cell _ _ _ 0 _ _ (by simp) rfl)).mono ?_
    rintro e w2 ⟨rfl, hg2⟩
    rw [E2.out]
    clear c1 c2 c3
    have HG2 := Lib.hid (off_put hg2)
    clear hg2
    cases B2 with
    | false =>
      have HV : Hid (N = 102) := Lib.hid (by rw [HN.out]; rfl)
      go_wp2_with fail
      go_ret
      exact ⟨ret1 HV.out.symm, gtrans HW.out HG2.out⟩
    | true =>
      have a1 := (A3.out.put (.cells #[.int .i64 1, .int .i64 M] 133)).later (gtrans HG1.out HG2.out)
      have c1 := a1 0 _ rfl
      have c2 := a1 1 _ rfl
      have hx := (AA.out.later (gtrans (((((Later.refl _).put _).put _).put _).put _) (gtrans ((Later.refl _).put _) (gtrans HG1.out HG2.out))))
      have c3 := hx 11 _ F11.out
      have c4 := hx 12 _ F12.out
      clear a1 hx
      go_wp2_with fail
      refine (K2.out _ _ c.r c.q _ _ (new_cell _ _ _ 0 _ _ (by simp) rfl) (new_cell _ _ _ 1 _ _ (by simp) rfl)).mono ?_
      rintro e w3 ⟨rfl, hg3⟩
      rw [E3.out]
      clear c1 c2 c3 c4
      have HG3 := Lib.hid (off_put hg3)
      clear hg3
      cases B3 with
      | false =>
        have HV : Hid (N = 102) := Lib.hid (by rw [HN.out]; rfl)
        go_wp2_with fail
        go_ret
        exact ⟨ret1 HV.out.symm, gtrans HW.out (gtrans HG2.out HG3.out)⟩
      | true =>
        have a1 := A4.out.later (gtrans HG1.out (gtrans HG2.out HG3.out))
        have c1 := a1 0 _ rfl
        have c2 := a1 1 _ rfl
        have c3 := HT.out.later (gtrans HG2.out HG3.out) 4 _ rfl
        clear a1
        go_wp2_with fail
        refine (K1.out _ _ c.e _ _ (new_cell _ _ _ 0 _ _ (by simp) rfl)).mono ?_
        rintro e w4 ⟨rfl, hg4⟩
        rw [E4.out]
        clear c1 c2 c3
        have HG4 := Lib.hid (off_put hg4)
        clear hg4
        cases B4 with
        | false =>
          have HV : Hid (N = 102) := Lib.hid (by rw [HN.out]; rfl)
          go_wp2_with fail
          go_ret
          exact ⟨ret1 HV.out.symm, gtrans HW.out (gtrans HG2.out (gtrans HG3.out HG4.out))⟩
        | true =>
          have HV : Hid (N = 0) := Lib.hid (by rw [HN.out]; rfl)
          go_wp2_with fail
          go_ret
          exact ⟨ret1 HV.out.symm, gtrans HW.out (gtrans HG2.out (gtrans HG3.out HG4.out))⟩

end Go.Proofs.YtihdijkplmfhfaaGreatDoor.Conf

/- Whether a configuration's windows may be, and whether a configuration may be, by the program. No condition but those that each theorem states. -/
namespace Go.Proofs.YtihdijkplmfhfaaGreatDoor.Conf
set_option maxRecDepth 100000
set_option maxRecDepth 100000
open Go.ChangeShapes Go.WideShapes Go.ChangeAt Go.RowKit
open Go.Proofs.YtihdijkplmfhfaaGreatDoor.Divs Go.Proofs.YtihdijkplmfhfaaGreatDoor.Grow Go.Proofs.YtihdijkplmfhfaaGreatDoor.Zone
open Go.Proofs.YtihdijkplmfhfaaGreatDoor.By (Sk SL)
open Go.Proofs.YtihdijkplmfhfaaGreatDoor.Each
open Go.Proofs.YtihdijkplmfhfaaGreatDoor.Zo Go.Proofs.YtihdijkplmfhfaaGreatDoor.Su Go.Proofs.YtihdijkplmfhfaaGreatDoor.Cf

/-- A window is loaded whole. -/
theorem load_win {ops : Array Oper} {rest : List Oper} {o : Oper} {a : Act} {W : World} {Q : Exit → Act → World → Prop} (y : Wn) (hgd : o.guard = none) (x : Operand) (ho : o.op = .load 65 x) (B off : Nat) (hx : a.eval x = .pointer (some ⟨B, off, none⟩)) (h : W.rangeAt B off (wc y)) (hK : wpList Tryz.prog ops Q rest (a.put o.dst (.agg #[.int .i64 y.k, .int .i64 y.m, .int .i64 y.p, .int .i64 y.a, .int .i64 y.h, .int .i64 y.u, .int .i64 y.l])) W) : wpList Tryz.prog ops Q (o :: rest) a W :=
  wpList_load_mid (P := Tryz.prog) hgd 65 x ho B off hx (wc y) _ h Tryz.underlying65 rfl (by kernel_rfl) hK

/-- The first k windows may be. -/
def WRel (xs : List Wn) (w : World) (i : Value) (wr : World) : Prop := ∃ k : Nat, k ≤ xs.length ∧ i = .int .i64 (k : Int) ∧ (∀ j x, j < k → xs[j]? = some x → wo x = true) ∧ Later w wr

theorem wa_no {xs : List Wn} {k : Nat} {x : Wn} (h : xs[k]? = some x) (hx : wo x = false) : wa xs = false := by
  unfold wa
  rw [List.all_eq_false]
  exact ⟨x, List.mem_of_getElem? h, by rw [hx]; simp⟩

theorem wa_yes {xs : List Wn} (h : ∀ j x, j < xs.length → xs[j]? = some x → wo x = true) : wa xs = true := by
  unfold wa
  rw [List.all_eq_true]
  intro x hx
  obtain ⟨i, hi⟩ := List.mem_iff_getElem?.1 hx
  exact h i x (List.getElem?_eq_some_iff.1 hi).1 hi

set_option maxHeartbeats 2000000 in
theorem windows_any (c : Cg) (u v : Value) (w : World) (hv : Wk w v c.ws) : Calls Tryz.prog 90 #[.agg (cc c u v)] w fun e w' => e = .returned (.int .i64 (if wa c.ws = true then 0 else 104)) ∧ Later w w' := by
  obtain ⟨N, hN⟩ : ∃ N : Int, N = if wa c.ws = true then 0 else 104 := ⟨_, rfl⟩
  rw [← hN]
  have HN := Lib.hid hN
  clear hN
  have K := Lib.hid (fun x W => window_any x W)
  obtain ⟨C, hC⟩ : ∃ C, C = cc c u v := ⟨_, rfl⟩
  rw [← hC]
  have f36 : C[36]? = some v := by rw [hC]; rfl
  clear hC
  have HG0 := Lib.hid ((Later.refl w).alloc C 33)
  rcases Nat.eq_zero_or_pos c.ws.length with h0 | h0
  · have HV : Hid (N = 0) := Lib.hid (by rw [HN.out, List.length_eq_zero_iff.1 h0]; rfl)
    obtain ⟨ad, cap, rfl, hm⟩ := hv.len
    rw [h0] at f36
    clear hv h0 hm
    go_enter Tryz.func90, Tryz.ntmps90
    go_wp2_with fail
    refine wp_loop_rounds 1 ?_
    rw [rounds_succ]
    go_wp2
    go_ret
    exact ⟨ret1 HV.out.symm, HG0.out⟩
  · obtain ⟨B, off, cap, rfl, hm, hB, hc⟩ := hv.has h0
    have HC := Lib.hid hc
    clear hv hc hB
    obtain ⟨xs, hxs⟩ : ∃ xs, c.ws = xs := ⟨_, rfl⟩
    rw [hxs] at HN HC hm h0 f36
    clear hxs
    obtain ⟨n, hn⟩ : ∃ n, xs.length = n := ⟨_, rfl⟩
    rw [hn] at h0 hm f36
    have HL := Lib.hid hn
    clear hn
    have ad : ∀ j, (⟨B, off, none⟩ : Addr).add j = ⟨B, off + j, none⟩ := Addr.add_mid B off
    go_enter Tryz.func90, Tryz.ntmps90
    go_wp2_with fail
    clear f36
    go_loopw [9] (fun i wr => WRel xs w i wr) (fun i _ => n - (intOf i).toNat)
    case atStart => exact ⟨0, by omega, rfl, by omega, HG0.out⟩
    case round =>
      obtain ⟨k, hk, rfl, hj, hg⟩ := hrel
      rw [HL.out] at hk
      have HG := Lib.hid hg
      clear hg
      by_cases hlt : k < n
      · obtain ⟨x, hx⟩ : ∃ x, xs[k]? = some x := ⟨_, List.getElem?_eq_getElem (by rw [HL.out]; exact hlt)⟩
        have hr := HC.out k x hx
        have HR : Hid (wr.rangeAt B (off + k * 7) (wc x)) := Lib.hid (fun j y hy => gsome HG.out (hr j y hy))
        have HJ := Lib.hid hj
        have HX := Lib.hid hx
        clear hr hj hx
        have K' := Lib.hid (fun W => K.out x W)
        unfold wc at K'
        go_wp2_with (refine load_win x rfl (.tmp 11) rfl B (off + k * 7) rfl HR.out ?_)
        refine (K'.out _).mono ?_
        rintro e w1 ⟨rfl, hg1⟩
        have HG1 := Lib.hid (gtrans HG.out (off_put hg1))
        clear hg1
        cases hb : wo x with
        | false =>
          have he : we x = 104 := by unfold we; rw [hb]; rfl
          have HV : Hid (N = 104) := Lib.hid (by rw [HN.out, wa_no HX.out hb]; rfl)
          rw [he]
          clear hb he
          go_wp2_with fail
          go_ret
          exact ⟨ret1 HV.out.symm, HG1.out⟩
        | true =>
          have he : we x = 0 := by unfold we; rw [hb]; rfl
          have HJ' : Hid (∀ j y, j < k + 1 → xs[j]? = some y → wo y = true) := Lib.hid (fun j y hj hy => by
            by_cases e : j = k
            · subst e
              rw [HX.out] at hy
              obtain rfl := Option.some.inj hy
              exact hb
            · exact HJ.out j y (by omega) hy)
          rw [he]
          clear hb he
          go_wp2_with fail
          go_roundw
          case rel => exact ⟨k + 1, by rw [HL.out]; omega, by go_num, HJ'.out, HG1.out⟩
          case measure => simp [intOf]; omega
      · obtain rfl : k = n := by omega
        have HV : Hid (N = 0) := Lib.hid (by rw [HN.out, wa_yes (fun j x hl hx => hj j x (by rw [← HL.out]; exact hl) hx)]; rfl)
        clear hj
        go_wp2_with fail
        go_ret
        exact ⟨ret1 HV.out.symm, HG.out⟩

end Go.Proofs.YtihdijkplmfhfaaGreatDoor.Conf

/- Whether a configuration may be, by the program's Check. No condition. -/
namespace Go.Proofs.YtihdijkplmfhfaaGreatDoor.Conf
set_option maxRecDepth 100000
open Go.ChangeShapes Go.WideShapes Go.ChangeAt Go.RowKit
open Go.Proofs.YtihdijkplmfhfaaGreatDoor.Divs Go.Proofs.YtihdijkplmfhfaaGreatDoor.Grow Go.Proofs.YtihdijkplmfhfaaGreatDoor.Zone
open Go.Proofs.YtihdijkplmfhfaaGreatDoor.By (Sk SL)
open Go.Proofs.YtihdijkplmfhfaaGreatDoor.Each
open Go.Proofs.YtihdijkplmfhfaaGreatDoor.Zo Go.Proofs.YtihdijkplmfhfaaGreatDoor.Su Go.Proofs.YtihdijkplmfhfaaGreatDoor.Cf

/-- The row of questions. -/
def qs : Array Value := #[.func (.func 84) #[] #[], .func (.func 85) #[] #[], .func (.func 86) #[] #[], .func (.func 87) #[] #[], .func (.func 88) #[] #[], .func (.func 89) #[] #[], .func (.func 90) #[] #[]]

theorem questions_any (w : World) : Calls Tryz.prog 54 #[] w fun e w' => ∃ g, e = .returned (.slice (some ⟨g, 0, none⟩) 7 7) ∧ At w' g qs ∧ Later w w' := by
  go_enter Tryz.func54, Tryz.ntmps54
  go_wp2
  go_ret
  exact ⟨_, rfl, At.new _ _ _, (Later.refl w).alloc _ _⟩

/-- The error of the k-th question, or 0. -/
def qe (c : Cg) : Nat → Int
  | 0 => if so c = true then 0 else 100
  | 1 => if to c = true then 0 else 101
  | 2 => if ti c = true then 0 else 102
  | 3 => ck c.z
  | 4 => sk c.s
  | 5 => if c.ws.length ≤ 16 then 0 else 103
  | 6 => if wa c.ws = true then 0 else 104
  | _ => 0

theorem q0 {c : Cg} (h : qe c 0 = 0) : so c = true := by
  by_cases e : so c = true
  · exact e
  · simp [qe, e] at h

theorem n0 {c : Cg} (h : qe c 0 ≠ 0) : ¬ so c = true ∧ qe c 0 = 100 := by
  by_cases e : so c = true
  · simp [qe, e] at h
  · exact ⟨e, by simp [qe, e]⟩

theorem q1 {c : Cg} (h : qe c 1 = 0) : to c = true := by
  by_cases e : to c = true
  · exact e
  · simp [qe, e] at h

theorem n1 {c : Cg} (h : qe c 1 ≠ 0) : ¬ to c = true ∧ qe c 1 = 101 := by
  by_cases e : to c = true
  · simp [qe, e] at h
  · exact ⟨e, by simp [qe, e]⟩

theorem q2 {c : Cg} (h : qe c 2 = 0) : ti c = true := by
  by_cases e : ti c = true
  · exact e
  · simp [qe, e] at h

theorem n2 {c : Cg} (h : qe c 2 ≠ 0) : ¬ ti c = true ∧ qe c 2 = 102 := by
  by_cases e : ti c = true
  · simp [qe, e] at h
  · exact ⟨e, by simp [qe, e]⟩

theorem q3 {c : Cg} (h : qe c 3 = 0) : ck c.z = 0 := h

theorem n3 {c : Cg} (h : qe c 3 ≠ 0) : ¬ ck c.z = 0 := h

theorem q4 {c : Cg} (h : qe c 4 = 0) : sk c.s = 0 := h

theorem n4 {c : Cg} (h : qe c 4 ≠ 0) : ¬ sk c.s = 0 := h

theorem q5 {c : Cg} (h : qe c 5 = 0) : c.ws.length ≤ 16 := by
  by_cases e : c.ws.length ≤ 16
  · exact e
  · simp [qe, e] at h

theorem n5 {c : Cg} (h : qe c 5 ≠ 0) : ¬ c.ws.length ≤ 16 ∧ qe c 5 = 103 := by
  by_cases e : c.ws.length ≤ 16
  · simp [qe, e] at h
  · exact ⟨e, by simp [qe, e]⟩

theorem q6 {c : Cg} (h : qe c 6 = 0) : wa c.ws = true := by
  by_cases e : wa c.ws = true
  · exact e
  · simp [qe, e] at h

theorem n6 {c : Cg} (h : qe c 6 ≠ 0) : ¬ wa c.ws = true ∧ qe c 6 = 104 := by
  by_cases e : wa c.ws = true
  · simp [qe, e] at h
  · exact ⟨e, by simp [qe, e]⟩

theorem ce_at (c : Cg) (k : Nat) (hk : k < 7) (h : ∀ j, j < k → qe c j = 0) (hn : qe c k ≠ 0) : ce c = qe c k := by
  unfold ce
  match k with
  | 0 =>
    rw [if_neg (n0 hn).1, (n0 hn).2]
  | 1 =>
    rw [if_pos (q0 (h 0 (by omega))), if_neg (n1 hn).1, (n1 hn).2]
  | 2 =>
    rw [if_pos (q0 (h 0 (by omega))), if_pos (q1 (h 1 (by omega))), if_neg (n2 hn).1, (n2 hn).2]
  | 3 =>
    rw [if_pos (q0 (h 0 (by omega))), if_pos (q1 (h 1 (by omega))), if_pos (q2 (h 2 (by omega))), if_neg (n3 hn)]
    rfl
  | 4 =>
    rw [if_pos (q0 (h 0 (by omega))), if_pos (q1 (h 1 (by omega))), if_pos (q2 (h 2 (by omega))), if_pos (q3 (h 3 (by omega))), if_neg (n4 hn)]
    rfl
  | 5 =>
    rw [if_pos (q0 (h 0 (by omega))), if_pos (q1 (h 1 (by omega))), if_pos (q2 (h 2 (by omega))), if_pos (q3 (h 3 (by omega))), if_pos (q4 (h 4 (by omega))), if_neg (n5 hn).1, (n5 hn).2]
  | 6 =>
    rw [if_pos (q0 (h 0 (by omega))), if_pos (q1 (h 1 (by omega))), if_pos (q2 (h 2 (by omega))), if_pos (q3 (h 3 (by omega))), if_pos (q4 (h 4 (by omega))), if_pos (q5 (h 5 (by omega))), if_neg (n6 hn).1, (n6 hn).2]
  | _ + 7 => omega

theorem ce_zero (c : Cg) (h : ∀ j, j < 7 → qe c j = 0) : ce c = 0 := by
  unfold ce
  rw [if_pos (q0 (h 0 (by omega))), if_pos (q1 (h 1 (by omega))), if_pos (q2 (h 2 (by omega))), if_pos (q3 (h 3 (by omega))), if_pos (q4 (h 4 (by omega))), if_pos (q5 (h 5 (by omega))), if_pos (q6 (h 6 (by omega)))]

theorem so_floors {c : Cg} (h : so c = true) : 2 ≤ c.f ∧ c.f ≤ 64 := by
  unfold so at h
  rw [Bool.and_eq_true] at h
  exact (bt_iff _ _ _).1 h.1

def QRel (c : Cg) (w : World) (e i : Value) (wr : World) : Prop := ∃ k : Nat, k ≤ 7 ∧ i = .int .i64 (k : Int) ∧ e = .int .i64 0 ∧ (∀ j, j < k → qe c j = 0) ∧ Later w wr

set_option maxHeartbeats 4000000 in
theorem check_any (c : Cg) (u v : Value) (w : World) (hu : Sk .i64 w u c.st) (hv : Wk w v c.ws) : Calls Tryz.prog 27 #[.agg (cc c u v)] w fun e w' => e = .returned (.int .i64 (ce c)) ∧ Later w w' := by
  have HU := Lib.hid hu
  have HV := Lib.hid hv
  clear hu hv
  have QQ := Lib.hid questions_any
  obtain ⟨C, hC⟩ : ∃ C, C = cc c u v := ⟨_, rfl⟩
  rw [← hC]
  have K0 : Hid (∀ W, Later w W → (∀ j, j < 0 → qe c j = 0) → Calls Tryz.prog 84 #[.agg C] W fun e w' => e = .returned (.int .i64 (qe c 0)) ∧ Later W w') := Lib.hid (fun W g h => by rw [hC]; exact size_any c u v W)
  have K1 : Hid (∀ W, Later w W → (∀ j, j < 1 → qe c j = 0) → Calls Tryz.prog 85 #[.agg C] W fun e w' => e = .returned (.int .i64 (qe c 1)) ∧ Later W w') := Lib.hid (fun W g h => by rw [hC]; exact stops_any c u v W (HU.out.later g) (so_floors (q0 (h 0 (by omega)))).1 (so_floors (q0 (h 0 (by omega)))).2)
  have K2 : Hid (∀ W, Later w W → (∀ j, j < 2 → qe c j = 0) → Calls Tryz.prog 86 #[.agg C] W fun e w' => e = .returned (.int .i64 (qe c 2)) ∧ Later W w') := Lib.hid (fun W g h => by rw [hC]; exact times_any c u v W)
  have K3 : Hid (∀ W, Later w W → (∀ j, j < 3 → qe c j = 0) → Calls Tryz.prog 87 #[.agg C] W fun e w' => e = .returned (.int .i64 (qe c 3)) ∧ Later W w') := Lib.hid (fun W g h => by rw [hC]; exact zone_any c u v W)
  have K4 : Hid (∀ W, Later w W → (∀ j, j < 4 → qe c j = 0) → Calls Tryz.prog 88 #[.agg C] W fun e w' => e = .returned (.int .i64 (qe c 4)) ∧ Later W w') := Lib.hid (fun W g h => by rw [hC]; exact sun_any c u v W)
  have K5 : Hid (∀ W, Later w W → (∀ j, j < 5 → qe c j = 0) → Calls Tryz.prog 89 #[.agg C] W fun e w' => e = .returned (.int .i64 (qe c 5)) ∧ Later W w') := Lib.hid (fun W g h => by rw [hC]; exact many_any c u v W (HV.out.later g))
  have K6 : Hid (∀ W, Later w W → (∀ j, j < 6 → qe c j = 0) → Calls Tryz.prog 90 #[.agg C] W fun e w' => e = .returned (.int .i64 (qe c 6)) ∧ Later W w') := Lib.hid (fun W g h => by rw [hC]; exact windows_any c u v W (HV.out.later g))
  have HZ : Hid (C.size = 37) := Lib.hid (by rw [hC]; rfl)
  have HCC := Lib.hid hC
  clear hC
  have AC := Lib.hid (At.new w C 33)
  obtain ⟨M, hM⟩ : ∃ M, M = ce c := ⟨_, rfl⟩
  rw [← hM]
  have HM := Lib.hid hM
  clear hM
  go_enter Tryz.func27, Tryz.ntmps27
  go_wp2_with fail
  go_step3
  go_wp2_with fail
  go_step3
  go_wp2_with fail
  refine (QQ.out _).mono ?_
  rintro e w1 ⟨g, rfl, hq, hg1⟩
  have HQ := Lib.hid hq
  have HG1 := Lib.hid (off_put hg1)
  have HA1 := Lib.hid (AC.out.later hg1)
  clear hg1 hq
  go_wp2_with fail
  go_loopw [3, 8] (fun e i wr => QRel c w1 e i wr) (fun _ i _ => 7 - (intOf i).toNat)
  case atStart => exact ⟨0, by omega, rfl, rfl, by omega, Later.refl _⟩
  case round =>
    obtain ⟨k, hk, rfl, rfl, hj, hg⟩ := hrel
    have HG := Lib.hid hg
    have HJ := Lib.hid hj
    have HW := Lib.hid (gtrans HG1.out hg)
    clear hg hj
    obtain rfl | rfl | rfl | rfl | rfl | rfl | rfl | rfl : k = 0 ∨ k = 1 ∨ k = 2 ∨ k = 3 ∨ k = 4 ∨ k = 5 ∨ k = 6 ∨ k = 7 := by omega
    · have hc : wr.cell? ⟨g, 0, none⟩ = some (.func (.func 84) #[] #[]) := HQ.out.later HG.out 0 _ rfl
      clear hk
      go_wp2_with (refine load_at C HZ.out rfl (.tmp 1) rfl w.heap.size rfl ((HA1.out.later HG.out).put _) ?_)
      refine (K0.out _ (HW.out.put _) HJ.out).mono ?_
      rintro e w2 ⟨rfl, hg2⟩
      clear hc
      have HG2 := Lib.hid (gtrans HG.out (off_put hg2))
      clear hg2
      by_cases hz : qe c 0 = 0
      · have HJ' : Hid (∀ j, j < 1 → qe c j = 0) := Lib.hid (fun j h => by
          by_cases e : j = 0
          · rw [e]; exact hz
          · exact HJ.out j (by omega))
        rw [hz]
        clear hz
        go_wp2_with fail
        go_roundw
        case rel => exact ⟨1, by omega, by go_num, rfl, HJ'.out, HG2.out⟩
        case measure => simp [intOf]
      · have HE : Hid (M = qe c 0) := Lib.hid (by rw [HM.out]; exact ce_at c 0 (by omega) HJ.out hz)
        have tt : (qe c 0 != 0) = true := by simpa using hz
        generalize qe c 0 = E at *
        clear hz
        go_wp2_with fail
        rw [Exit.noGoto_ret]
        go_ret
        exact ⟨ret1 HE.out.symm, gtrans HG1.out HG2.out⟩
    · have hc : wr.cell? ⟨g, 1, none⟩ = some (.func (.func 85) #[] #[]) := HQ.out.later HG.out 1 _ rfl
      clear hk
      go_wp2_with (refine load_at C HZ.out rfl (.tmp 1) rfl w.heap.size rfl ((HA1.out.later HG.out).put _) ?_)
      refine (K1.out _ (HW.out.put _) HJ.out).mono ?_
      rintro e w2 ⟨rfl, hg2⟩
      clear hc
      have HG2 := Lib.hid (gtrans HG.out (off_put hg2))
      clear hg2
      by_cases hz : qe c 1 = 0
      · have HJ' : Hid (∀ j, j < 2 → qe c j = 0) := Lib.hid (fun j h => by
          by_cases e : j = 1
          · rw [e]; exact hz
          · exact HJ.out j (by omega))
        rw [hz]
        clear hz
        go_wp2_with fail
        go_roundw
        case rel => exact ⟨2, by omega, by go_num, rfl, HJ'.out, HG2.out⟩
        case measure => simp [intOf]
      · have HE : Hid (M = qe c 1) := Lib.hid (by rw [HM.out]; exact ce_at c 1 (by omega) HJ.out hz)
        have tt : (qe c 1 != 0) = true := by simpa using hz
        generalize qe c 1 = E at *
        clear hz
        go_wp2_with fail
        rw [Exit.noGoto_ret]
        go_ret
        exact ⟨ret1 HE.out.symm, gtrans HG1.out HG2.out⟩
    · have hc : wr.cell? ⟨g, 2, none⟩ = some (.func (.func 86) #[] #[]) := HQ.out.later HG.out 2 _ rfl
      clear hk
      go_wp2_with (refine load_at C HZ.out rfl (.tmp 1) rfl w.heap.size rfl ((HA1.out.later HG.out).put _) ?_)
      refine (K2.out _ (HW.out.put _) HJ.out).mono ?_
      rintro e w2 ⟨rfl, hg2⟩
      clear hc
      have HG2 := Lib.hid (gtrans HG.out (off_put hg2))
      clear hg2
      by_cases hz : qe c 2 = 0
      · have HJ' : Hid (∀ j, j < 3 → qe c j = 0) := Lib.hid (fun j h => by
          by_cases e : j = 2
          · rw [e]; exact hz
          · exact HJ.out j (by omega))
        rw [hz]
        clear hz
        go_wp2_with fail
        go_roundw
        case rel => exact ⟨3, by omega, by go_num, rfl, HJ'.out, HG2.out⟩
        case measure => simp [intOf]
      · have HE : Hid (M = qe c 2) := Lib.hid (by rw [HM.out]; exact ce_at c 2 (by omega) HJ.out hz)
        have tt : (qe c 2 != 0) = true := by simpa using hz
        generalize qe c 2 = E at *
        clear hz
        go_wp2_with fail
        rw [Exit.noGoto_ret]
        go_ret
        exact ⟨ret1 HE.out.symm, gtrans HG1.out HG2.out⟩
    · have hc : wr.cell? ⟨g, 3, none⟩ = some (.func (.func 87) #[] #[]) := HQ.out.later HG.out 3 _ rfl
      clear hk
      go_wp2_with (refine load_at C HZ.out rfl (.tmp 1) rfl w.heap.size rfl ((HA1.out.later HG.out).put _) ?_)
      refine (K3.out _ (HW.out.put _) HJ.out).mono ?_
      rintro e w2 ⟨rfl, hg2⟩
      clear hc
      have HG2 := Lib.hid (gtrans HG.out (off_put hg2))
      clear hg2
      by_cases hz : qe c 3 = 0
      · have HJ' : Hid (∀ j, j < 4 → qe c j = 0) := Lib.hid (fun j h => by
          by_cases e : j = 3
          · rw [e]; exact hz
          · exact HJ.out j (by omega))
        rw [hz]
        clear hz
        go_wp2_with fail
        go_roundw
        case rel => exact ⟨4, by omega, by go_num, rfl, HJ'.out, HG2.out⟩
        case measure => simp [intOf]
      · have HE : Hid (M = qe c 3) := Lib.hid (by rw [HM.out]; exact ce_at c 3 (by omega) HJ.out hz)
        have tt : (qe c 3 != 0) = true := by simpa using hz
        generalize qe c 3 = E at *
        clear hz
        go_wp2_with fail
        rw [Exit.noGoto_ret]
        go_ret
        exact ⟨ret1 HE.out.symm, gtrans HG1.out HG2.out⟩
    · have hc : wr.cell? ⟨g, 4, none⟩ = some (.func (.func 88) #[] #[]) := HQ.out.later HG.out 4 _ rfl
      clear hk
      go_wp2_with (refine load_at C HZ.out rfl (.tmp 1) rfl w.heap.size rfl ((HA1.out.later HG.out).put _) ?_)
      refine (K4.out _ (HW.out.put _) HJ.out).mono ?_
      rintro e w2 ⟨rfl, hg2⟩
      clear hc
      have HG2 := Lib.hid (gtrans HG.out (off_put hg2))
      clear hg2
      by_cases hz : qe c 4 = 0
      · have HJ' : Hid (∀ j, j < 5 → qe c j = 0) := Lib.hid (fun j h => by
          by_cases e : j = 4
          · rw [e]; exact hz
          · exact HJ.out j (by omega))
        rw [hz]
        clear hz
        go_wp2_with fail
        go_roundw
        case rel => exact ⟨5, by omega, by go_num, rfl, HJ'.out, HG2.out⟩
        case measure => simp [intOf]
      · have HE : Hid (M = qe c 4) := Lib.hid (by rw [HM.out]; exact ce_at c 4 (by omega) HJ.out hz)
        have tt : (qe c 4 != 0) = true := by simpa using hz
        generalize qe c 4 = E at *
        clear hz
        go_wp2_with fail
        rw [Exit.noGoto_ret]
        go_ret
        exact ⟨ret1 HE.out.symm, gtrans HG1.out HG2.out⟩
    · have hc : wr.cell? ⟨g, 5, none⟩ = some (.func (.func 89) #[] #[]) := HQ.out.later HG.out 5 _ rfl
      clear hk
      go_wp2_with (refine load_at C HZ.out rfl (.tmp 1) rfl w.heap.size rfl ((HA1.out.later HG.out).put _) ?_)
      refine (K5.out _ (HW.out.put _) HJ.out).mono ?_
      rintro e w2 ⟨rfl, hg2⟩
      clear hc
      have HG2 := Lib.hid (gtrans HG.out (off_put hg2))
      clear hg2
      by_cases hz : qe c 5 = 0
      · have HJ' : Hid (∀ j, j < 6 → qe c j = 0) := Lib.hid (fun j h => by
          by_cases e : j = 5
          · rw [e]; exact hz
          · exact HJ.out j (by omega))
        rw [hz]
        clear hz
        go_wp2_with fail
        go_roundw
        case rel => exact ⟨6, by omega, by go_num, rfl, HJ'.out, HG2.out⟩
        case measure => simp [intOf]
      · have HE : Hid (M = qe c 5) := Lib.hid (by rw [HM.out]; exact ce_at c 5 (by omega) HJ.out hz)
        have tt : (qe c 5 != 0) = true := by simpa using hz
        generalize qe c 5 = E at *
        clear hz
        go_wp2_with fail
        rw [Exit.noGoto_ret]
        go_ret
        exact ⟨ret1 HE.out.symm, gtrans HG1.out HG2.out⟩
    · have hc : wr.cell? ⟨g, 6, none⟩ = some (.func (.func 90) #[] #[]) := HQ.out.later HG.out 6 _ rfl
      clear hk
      go_wp2_with (refine load_at C HZ.out rfl (.tmp 1) rfl w.heap.size rfl ((HA1.out.later HG.out).put _) ?_)
      refine (K6.out _ (HW.out.put _) HJ.out).mono ?_
      rintro e w2 ⟨rfl, hg2⟩
      clear hc
      have HG2 := Lib.hid (gtrans HG.out (off_put hg2))
      clear hg2
      by_cases hz : qe c 6 = 0
      · have HJ' : Hid (∀ j, j < 7 → qe c j = 0) := Lib.hid (fun j h => by
          by_cases e : j = 6
          · rw [e]; exact hz
          · exact HJ.out j (by omega))
        rw [hz]
        clear hz
        go_wp2_with fail
        go_roundw
        case rel => exact ⟨7, by omega, by go_num, rfl, HJ'.out, HG2.out⟩
        case measure => simp [intOf]
      · have HE : Hid (M = qe c 6) := Lib.hid (by rw [HM.out]; exact ce_at c 6 (by omega) HJ.out hz)
        have tt : (qe c 6 != 0) = true := by simpa using hz
        generalize qe c 6 = E at *
        clear hz
        go_wp2_with fail
        rw [Exit.noGoto_ret]
        go_ret
        exact ⟨ret1 HE.out.symm, gtrans HG1.out HG2.out⟩
    · have HE : Hid (M = 0) := Lib.hid (by rw [HM.out]; exact ce_zero c HJ.out)
      clear hk
      go_wp2_with fail
      rw [Exit.noGoto_ret]
      go_ret
      exact ⟨ret1 HE.out.symm, HW.out⟩

end Go.Proofs.YtihdijkplmfhfaaGreatDoor.Conf

/- When the sun sets, and the instant at which it does, by the program's At and Moment. Conditions: the numbers are ints, the table of months lies where the program lays it. -/
namespace Go.Proofs.YtihdijkplmfhfaaGreatDoor.Sun
set_option maxRecDepth 100000
open Go.ChangeShapes Go.WideShapes Go.ChangeAt Go.RowKit
open Go.Proofs.YtihdijkplmfhfaaGreatDoor.Divs Go.Proofs.YtihdijkplmfhfaaGreatDoor.Grow Go.Proofs.YtihdijkplmfhfaaGreatDoor.Zone
open Go.Proofs.YtihdijkplmfhfaaGreatDoor.Greg (Laid)
open Go.Proofs.YtihdijkplmfhfaaGreatDoor.Cal (dm yr om od)
open Go.Proofs.YtihdijkplmfhfaaGreatDoor.Zo Go.Proofs.YtihdijkplmfhfaaGreatDoor.Su

theorem ret2 {a b c d : Int} (h1 : a = c) (h2 : b = d) : Ending.returned (.tuple #[.int .i64 a, .int .i64 b]) = .returned (.tuple #[.int .i64 c, .int .i64 d]) := by rw [h1, h2]

theorem date_cell (w : World) (y m d : Int) : (w.alloc (.cells #[.int .i64 y, .int .i64 m, .int .i64 d] 63)).cell? ⟨w.heap.size, 0, none⟩ = some (.int .i64 y) ∧ (w.alloc (.cells #[.int .i64 y, .int .i64 m, .int .i64 d] 63)).cell? ⟨w.heap.size, 1, none⟩ = some (.int .i64 m) ∧ (w.alloc (.cells #[.int .i64 y, .int .i64 m, .int .i64 d] 63)).cell? ⟨w.heap.size, 2, none⟩ = some (.int .i64 d) := by
  refine ⟨?_, ?_, ?_⟩ <;> rw [World.cell?_alloc_new] <;> rfl

theorem at_bad (s : Nat → Int) (n : Int) (w : World) (h : ¬ sk s = 0) : Calls Tryz.prog 239 #[.agg (sc s), .int .i64 n] w fun e w' => e = .returned (.tuple #[.int .i64 (aV s n), .int .i64 (aE s n)]) ∧ Later w w' := by
  have C := Lib.hid (fun W => check_any s W)
  have e0 : (sk s != 0) = true := by simpa using h
  have hE : aE s n = sk s := by unfold aE; rw [if_neg h]
  have HE := Lib.hid hE
  have HV := Lib.hid (show aV s n = 0 by unfold aV; rw [if_neg (by rw [hE]; exact h)])
  clear h hE
  unfold sc at *
  go_enter Tryz.func239, Tryz.ntmps239
  go_wp2_with fail
  refine (C.out _).mono ?_
  rintro e w1 ⟨rfl, hg1⟩
  go_wp2_with fail
  go_ret2
  exact ⟨ret2 HV.out.symm HE.out.symm, gtrans ((Later.refl w).alloc _ _) hg1⟩

theorem at_day (s : Nat → Int) (n : Int) (w : World) (h : sk s = 0) (hn : n < 1 ∨ 3652059 < n) : Calls Tryz.prog 239 #[.agg (sc s), .int .i64 n] w fun e w' => e = .returned (.tuple #[.int .i64 (aV s n), .int .i64 (aE s n)]) ∧ Later w w' := by
  have C := Lib.hid (fun W => check_any s W)
  have O := Lib.hid (fun W => Greg.of_no n W hn)
  have e0 : (sk s != 0) = false := by simpa using h
  have hE : aE s n = 72 := by unfold aE; rw [if_pos h, if_neg (by omega)]
  have HE := Lib.hid hE
  have HV := Lib.hid (show aV s n = 0 by unfold aV; rw [if_neg (by rw [hE]; omega)])
  clear h hE hn
  unfold sc at *
  go_enter Tryz.func239, Tryz.ntmps239
  go_wp2_with fail
  refine (C.out _).mono ?_
  rintro e w1 ⟨rfl, hg1⟩
  go_wp2_with fail
  refine (O.out _).mono ?_
  rintro e w2 ⟨rfl, hg2⟩
  go_wp2_with fail
  go_ret2
  exact ⟨ret2 HV.out.symm HE.out.symm, gtrans ((Later.refl w).alloc _ _) (gtrans hg1 (hg2.alloc _ _))⟩

set_option maxHeartbeats 1000000 in
theorem at_yes (s : Nat → Int) (n : Int) (w : World) (hL : Laid w) (h : sk s = 0) (h1 : 1 ≤ n) (h2 : n ≤ 3652059) : Calls Tryz.prog 239 #[.agg (sc s), .int .i64 n] w fun e w' => e = .returned (.tuple #[.int .i64 (aV s n), .int .i64 (aE s n)]) ∧ Later w w' := by
  have C := Lib.hid (fun W => check_any s W)
  have O := Lib.hid (fun W hW => Greg.of_yes n W hW h1 h2)
  have hd := date_bd n h1 h2
  have hb := gone_bd s n h h1 h2
  have hx : ∀ W, Calls Tryz.prog 135 #[.agg (sc s), .int .i64 (om n)] W fun e w' => e = .returned (.tuple #[.int .i64 (ta s n), .int .i64 (tb s n)]) ∧ Later W w' := fun W => next_any s (om n) W hd.2.2.1 hd.2.2.2.1
  have X := Lib.hid hx
  have D := Lib.hid (fun W hW => same_g (Greg.days_any (yr n) (om n) W hW))
  have V := Lib.hid (fun W => drew_g (div_yes ((tb s n - ta s n) * (od n - 1)) (dm (yr n) (om n)) W (by omega) (by omega) (by omega) (by omega)))
  have e0 : (sk s != 0) = false := by simpa using h
  have hE : aE s n = 0 := (aE_ok s n).2 ⟨h, h1, h2⟩
  have HE := Lib.hid hE
  have HV : Hid (aV s n = ta s n + (tb s n - ta s n) * (od n - 1) / dm (yr n) (om n)) := Lib.hid (by unfold aV; rw [if_pos hE]; rfl)
  have hsa := sa_bd s n h h1 h2
  unfold sa at hsa
  have HN := Lib.hid (Sat.new w s)
  have HL := Lib.hid hL
  clear hL h hE h1 h2 hd hx
  obtain ⟨a0, a1, b0, b1, _, _, o0, o1, _, _, p0, p1⟩ := hb
  unfold sc at *
  go_enter Tryz.func239, Tryz.ntmps239
  go_wp2_with fail
  refine (C.out _).mono ?_
  rintro e w1 ⟨rfl, hg1⟩
  have HG1 := Lib.hid hg1
  clear hg1
  go_wp2_with fail
  refine (O.out _ (HL.out.grown (gtrans ((Later.refl w).alloc _ _) HG1.out))).mono ?_
  rintro e w2 ⟨rfl, hg2⟩
  have HG2 := Lib.hid (gtrans HG1.out hg2)
  clear hg2
  obtain ⟨k0, k1, k2, k3, k4, k5, k6, k7, k8, k9, k10, k11⟩ := (HN.out.later (HG2.out.alloc #[.int .i64 (yr n), .int .i64 (om n), .int .i64 (od n)] 63)).all
  go_wp2_with fail
  refine (X.out _).mono ?_
  rintro e w3 ⟨rfl, hg3⟩
  clear k0 k1 k2 k3 k4 k5 k6 k7 k8 k9 k10 k11
  have HG3 := Lib.hid hg3
  clear hg3
  go_wp2_with fail
  have d0 := gw_cell (gsome HG3.out (date_cell w2 (yr n) (om n) (od n)).1)
  have d1 := gw_cell (gsome HG3.out (date_cell w2 (yr n) (om n) (od n)).2.1)
  have d2 := gw_cell (gsome HG3.out (date_cell w2 (yr n) (om n) (od n)).2.2)
  have HL3 : Laid w3 := HL.out.grown (gtrans ((Later.refl w).alloc _ _) (gtrans (HG2.out.alloc _ _) HG3.out))
  refine region_grown (by kernel_rfl) (by kernel_rfl) ?_
  repeat (go_big_quiet_step (first | (go_at_call 52; exact in_grown (D.out _ (HL3.gw _))) | (go_at_call 69; exact in_grown (V.out _))))
  refine wpQuiet_nil (grown_end ?_)
  intro w4 hg4
  clear d0 d1 d2 HL3
  go_wp2_with fail
  go_ret2
  exact ⟨ret2 HV.out.symm HE.out.symm, gtrans ((Later.refl w).alloc _ _) (gtrans (HG2.out.alloc _ _) (gtrans HG3.out hg4))⟩

theorem at_any (s : Nat → Int) (n : Int) (w : World) (hL : Laid w) : Calls Tryz.prog 239 #[.agg (sc s), .int .i64 n] w fun e w' => e = .returned (.tuple #[.int .i64 (aV s n), .int .i64 (aE s n)]) ∧ Later w w' := by
  by_cases h : sk s = 0
  · by_cases hn : 1 ≤ n ∧ n ≤ 3652059
    · exact at_yes s n w hL h hn.1 hn.2
    · exact at_day s n w h (by omega)
  · exact at_bad s n w h

theorem two_tab (w : World) (z : Zn) (s : Nat → Int) : Sat ((w.alloc (.cells (zc z) 28)).alloc (.cells (sc s) 30)) (w.heap.size + 1) s := by
  have := Sat.new (w.alloc (.cells (zc z) 28)) s
  simpa using this

theorem two_zone (w : World) (z : Zn) (s : Nat → Int) : Zat ((w.alloc (.cells (zc z) 28)).alloc (.cells (sc s) 30)) w.heap.size z :=
  (Zat.new w z).later ((Later.refl _).alloc _ _)

theorem moment_zone (z : Zn) (s : Nat → Int) (n : Int) (w : World) (hL : Laid w) (h : ¬ ck z = 0) : Calls Tryz.prog 236 #[.agg (zc z), .agg (sc s), .int .i64 n] w fun e w' => e = .returned (.tuple #[.int .i64 (mV z s n), .int .i64 (mE z s n)]) ∧ Later w w' := by
  have C := Lib.hid (fun W => Zone.check_any z W)
  have A := Lib.hid (fun W hW => at_any s n W hW)
  have K := Lib.hid (fun n a b W => within_any n a b W)
  have e0 : (ck z != 0) = true := by simpa using h
  have hE : mE z s n = ck z := by unfold mE; rw [if_neg h]
  have HE := Lib.hid hE
  have HV := Lib.hid (show mV z s n = 0 by unfold mV; rw [if_neg (by rw [hE]; exact h)])
  clear h hE
  have HT := Lib.hid (two_tab w z s)
  have HZ := Lib.hid (two_zone w z s)
  have HG0 := Lib.hid (((Later.refl w).alloc (zc z) 28).alloc (sc s) 30)
  have HL := Lib.hid hL
  clear hL
  unfold zc sc at *
  go_enter Tryz.func236, Tryz.ntmps236
  go_wp2_with fail
  refine (C.out _).mono ?_
  rintro e w1 ⟨rfl, hg1⟩
  have HG1 := Lib.hid hg1
  clear hg1
  go_wp2_with fail
  go_ret2
  exact ⟨ret2 HV.out.symm HE.out.symm, gtrans HG0.out HG1.out⟩

theorem moment_at (z : Zn) (s : Nat → Int) (n : Int) (w : World) (hL : Laid w) (h : ck z = 0) (ha : ¬ aE s n = 0) : Calls Tryz.prog 236 #[.agg (zc z), .agg (sc s), .int .i64 n] w fun e w' => e = .returned (.tuple #[.int .i64 (mV z s n), .int .i64 (mE z s n)]) ∧ Later w w' := by
  have C := Lib.hid (fun W => Zone.check_any z W)
  have A := Lib.hid (fun W hW => at_any s n W hW)
  have K := Lib.hid (fun n a b W => within_any n a b W)
  have e0 : (ck z != 0) = false := by simpa using h
  have e1 : (aE s n != 0) = true := by simpa using ha
  have hE : mE z s n = aE s n := by
    unfold mE; rw [if_pos h]
    unfold aE at ha ⊢
    by_cases g : sk s = 0
    · rw [if_pos g] at ha ⊢
      rw [if_pos g]
      by_cases hn : 1 ≤ n ∧ n ≤ 3652059
      · rw [if_pos hn] at ha; exact absurd rfl ha
      · rw [if_neg hn, if_neg (by omega)]
    · rw [if_neg g, if_neg g]
  have HE := Lib.hid hE
  have HV := Lib.hid (show mV z s n = 0 by unfold mV; rw [if_neg (by rw [hE]; exact ha)])
  clear h hE ha
  have HT := Lib.hid (two_tab w z s)
  have HZ := Lib.hid (two_zone w z s)
  have HG0 := Lib.hid (((Later.refl w).alloc (zc z) 28).alloc (sc s) 30)
  have HL := Lib.hid hL
  clear hL
  unfold zc sc at *
  go_enter Tryz.func236, Tryz.ntmps236
  go_wp2_with fail
  refine (C.out _).mono ?_
  rintro e w1 ⟨rfl, hg1⟩
  have HG1 := Lib.hid hg1
  clear hg1
  obtain ⟨k0, k1, k2, k3, k4, k5, k6, k7, k8, k9, k10, k11⟩ := (HT.out.later HG1.out).all
  go_wp2_with fail
  refine (A.out _ (HL.out.grown (gtrans HG0.out HG1.out))).mono ?_
  rintro e w2 ⟨rfl, hg2⟩
  clear k0 k1 k2 k3 k4 k5 k6 k7 k8 k9 k10 k11
  have HG2 := Lib.hid (gtrans HG1.out hg2)
  clear hg2
  go_wp2_with fail
  go_ret2
  exact ⟨ret2 HV.out.symm HE.out.symm, gtrans HG0.out HG2.out⟩

theorem moment_day (z : Zn) (s : Nat → Int) (n : Int) (w : World) (hL : Laid w) (h : ck z = 0) (ha : aE s n = 0) (hn : ¬ (401 ≤ n ∧ n ≤ 3651998)) : Calls Tryz.prog 236 #[.agg (zc z), .agg (sc s), .int .i64 n] w fun e w' => e = .returned (.tuple #[.int .i64 (mV z s n), .int .i64 (mE z s n)]) ∧ Later w w' := by
  have C := Lib.hid (fun W => Zone.check_any z W)
  have A := Lib.hid (fun W hW => at_any s n W hW)
  have K := Lib.hid (fun n a b W => within_any n a b W)
  have e0 : (ck z != 0) = false := by simpa using h
  have e1 : (aE s n != 0) = false := by simpa using ha
  have e2 := wiB_not n 401 3651998 hn
  have hE : mE z s n = 72 := by
    unfold mE; rw [if_pos h, if_pos ((aE_ok s n).1 ha).1, if_neg hn]
  have HE := Lib.hid hE
  have HV := Lib.hid (show mV z s n = 0 by unfold mV; rw [if_neg (by rw [hE]; omega)])
  clear h hE ha hn
  have HT := Lib.hid (two_tab w z s)
  have HZ := Lib.hid (two_zone w z s)
  have HG0 := Lib.hid (((Later.refl w).alloc (zc z) 28).alloc (sc s) 30)
  have HL := Lib.hid hL
  clear hL
  unfold zc sc at *
  go_enter Tryz.func236, Tryz.ntmps236
  go_wp2_with fail
  refine (C.out _).mono ?_
  rintro e w1 ⟨rfl, hg1⟩
  have HG1 := Lib.hid hg1
  clear hg1
  obtain ⟨k0, k1, k2, k3, k4, k5, k6, k7, k8, k9, k10, k11⟩ := (HT.out.later HG1.out).all
  go_wp2_with fail
  refine (A.out _ (HL.out.grown (gtrans HG0.out HG1.out))).mono ?_
  rintro e w2 ⟨rfl, hg2⟩
  clear k0 k1 k2 k3 k4 k5 k6 k7 k8 k9 k10 k11
  have HG2 := Lib.hid (gtrans HG1.out hg2)
  clear hg2
  go_wp2_with (go_at_call 134; refine (K.out _ _ _ _).mono ?_; rintro e w1 ⟨rfl, rfl⟩)
  go_ret2
  exact ⟨ret2 HV.out.symm HE.out.symm, gtrans HG0.out HG2.out⟩

theorem moment_yes (z : Zn) (s : Nat → Int) (n : Int) (w : World) (hL : Laid w) (h : ck z = 0) (ha : aE s n = 0) (hn : 401 ≤ n ∧ n ≤ 3651998) : Calls Tryz.prog 236 #[.agg (zc z), .agg (sc s), .int .i64 n] w fun e w' => e = .returned (.tuple #[.int .i64 (mV z s n), .int .i64 (mE z s n)]) ∧ Later w w' := by
  have C := Lib.hid (fun W => Zone.check_any z W)
  have A := Lib.hid (fun W hW => at_any s n W hW)
  have K := Lib.hid (fun n a b W => within_any n a b W)
  have e0 : (ck z != 0) = false := by simpa using h
  have e1 : (aE s n != 0) = false := by simpa using ha
  have e2 := (wiB_iff n 401 3651998).2 hn
  have hk := ((aE_ok s n).1 ha).1
  have hE : mE z s n = 0 := (mE_ok z s n).2 ⟨h, hk, hn⟩
  have HE := Lib.hid hE
  have hb := sa_bd s n hk (by omega) (by omega)
  have hz := (ck_may z).1 h
  unfold May at hz
  obtain ⟨z0, z1, _⟩ := hz
  have hV : sa s n = aV s n := by unfold aV; rw [if_pos ha]
  rw [hV] at hb
  have HV : Hid (mV z s n = n * 1440 + aV s n - z.b) := Lib.hid (by unfold mV; rw [if_pos hE, hV])
  clear h hE ha hk hV
  have HT := Lib.hid (two_tab w z s)
  have HZ := Lib.hid (two_zone w z s)
  have HG0 := Lib.hid (((Later.refl w).alloc (zc z) 28).alloc (sc s) 30)
  have HL := Lib.hid hL
  clear hL
  unfold zc sc at *
  go_enter Tryz.func236, Tryz.ntmps236
  go_wp2_with fail
  refine (C.out _).mono ?_
  rintro e w1 ⟨rfl, hg1⟩
  have HG1 := Lib.hid hg1
  clear hg1
  obtain ⟨k0, k1, k2, k3, k4, k5, k6, k7, k8, k9, k10, k11⟩ := (HT.out.later HG1.out).all
  go_wp2_with fail
  refine (A.out _ (HL.out.grown (gtrans HG0.out HG1.out))).mono ?_
  rintro e w2 ⟨rfl, hg2⟩
  clear k0 k1 k2 k3 k4 k5 k6 k7 k8 k9 k10 k11
  have HG2 := Lib.hid (gtrans HG1.out hg2)
  clear hg2
  obtain ⟨j0, j1, j2, j3, j4, j5, j6, j7, j8, j9⟩ := HZ.out.later HG2.out
  go_wp2_with (go_at_call 134; refine (K.out _ _ _ _).mono ?_; rintro e w1 ⟨rfl, rfl⟩)
  go_ret2
  exact ⟨ret2 HV.out.symm HE.out.symm, gtrans HG0.out HG2.out⟩

theorem moment_any (z : Zn) (s : Nat → Int) (n : Int) (w : World) (hL : Laid w) : Calls Tryz.prog 236 #[.agg (zc z), .agg (sc s), .int .i64 n] w fun e w' => e = .returned (.tuple #[.int .i64 (mV z s n), .int .i64 (mE z s n)]) ∧ Later w w' := by
  by_cases h : ck z = 0
  · by_cases ha : aE s n = 0
    · by_cases hn : 401 ≤ n ∧ n ≤ 3651998
      · exact moment_yes z s n w hL h ha hn
      · exact moment_day z s n w hL h ha hn
    · exact moment_at z s n w hL h ha
  · exact moment_zone z s n w hL h

end Go.Proofs.YtihdijkplmfhfaaGreatDoor.Sun
