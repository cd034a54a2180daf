/-
  Whether a configuration's stops, times and windows may be, by the program. No condition but those that each theorem states.
-/
import Derived.Test.YthbgllbbliijlaaCe
namespace Go.Proofs.Ythbgllbbliijlaa.Conf
open Go.ChangeShapes Go.WideShapes Go.ChangeAt Go.RowKit
open Go.Proofs.Ythbgllbbliijlaa.Divs Go.Proofs.Ythbgllbbliijlaa.Grow Go.Proofs.Ythbgllbbliijlaa.Zone
open Go.Proofs.Ythbgllbbliijlaa.By (Sk SL)
open Go.Proofs.Ythbgllbbliijlaa.Each
open Go.Proofs.Ythbgllbbliijlaa.Zo Go.Proofs.Ythbgllbbliijlaa.Su Go.Proofs.Ythbgllbbliijlaa.Cf

/-- These cells are the block B, whole. -/
def Row (B : Nat) (t : TypeId) (cs : Array Value) (W : World) : Prop := W.heap[B]? = some (.cells cs t (0, 0))

theorem Row.cell {B : Nat} {t : TypeId} {cs : Array Value} {W : World} (h : Row B t cs W) (i : Nat) {v : Value} (hc : cs[i]? = some v) : W.cell? ⟨B, i, none⟩ = some v := by
  unfold Row at h
  simp [World.cell?, h, hc]

theorem Row.frozen {B : Nat} {t : TypeId} {cs : Array Value} {W : World} (h : Row B t cs W) (i : Nat) : W.frozen? ⟨B, i, none⟩ = false := by
  unfold Row at h
  simp [World.frozen?, h]

theorem Row.lt {B : Nat} {t : TypeId} {cs : Array Value} {W : World} (h : Row B t cs W) : B < W.heap.size := by
  unfold Row at h
  exact (Array.getElem?_eq_some_iff.1 h).1

theorem Row.later {B : Nat} {t : TypeId} {cs : Array Value} {W W' : World} (h : Row B t cs W) (g : Later W W') : Row B t cs W' := (g.2.2.2 B h.lt).trans h

theorem Row.at {B : Nat} {t : TypeId} {cs : Array Value} {W : World} (h : Row B t cs W) : At W B cs := fun i _ hc => h.cell i hc

theorem Row.new (W : World) (cs : Array Value) (t : TypeId) : Row W.heap.size t cs (W.alloc (.cells cs t)) := heap_alloc_new W _

theorem row_set {X : World} {b : Nat} {c : Array Value} {t : TypeId} {fr : Nat × Nat} {k : Nat} {v : Value} (h : X.heap[b]? = some (.cells c t fr)) :
    (X.setCell ⟨b, k, none⟩ v).heap[b]? = some (.cells (c.setIfInBounds k v) t fr) := by
  simp [World.setCell, Array.getElem?_modify, h]

theorem Row.set {B : Nat} {t : TypeId} {cs : Array Value} {W : World} (h : Row B t cs W) (k : Nat) (v : Value) : Row B t (cs.setIfInBounds k v) (W.setCell ⟨B, k, none⟩ v) := row_set h

/-- The first k stops may be; the ends of the next one lie in the block E. -/
def SRel (f : Int) (st : List Int) (w : World) (E : Nat) (i : Value) (wr : World) : Prop :=
  ∃ k : Nat, k ≤ st.length ∧ i = .int .i64 (k : Int) ∧ su f st k ∧ Row E 48 #[.int .i64 (lo st k), .int .i64 (f - 1)] wr ∧ Later w wr

set_option maxHeartbeats 2000000 in
theorem stops_any (c : Cg) (u v : Value) (w : World) (hu : Sk .i64 w u c.st) (h0 : 2 ≤ c.f) (h1 : c.f ≤ 64) : Calls Try.prog 32 #[.agg (cc c u v)] w fun e w' => e = .returned (.int .i64 (if to c = true then 0 else 101)) ∧ Later w w' := by
  obtain ⟨N, hN⟩ : ∃ N : Int, N = if to c = true then 0 else 101 := ⟨_, rfl⟩
  rw [← hN]
  have HY : Hid (2 ≤ c.st.length ∧ su c.f c.st c.st.length → N = 0) := Lib.hid (fun h => by rw [hN, if_pos ((to_iff c).2 h)])
  have HN : Hid (¬ (2 ≤ c.st.length ∧ su c.f c.st c.st.length) → N = 101) := Lib.hid (fun h => by rw [hN, if_neg (fun g => h ((to_iff c).1 g))])
  clear hN
  have F := Lib.hid (fun W => floors_any c u v W h0 h1)
  have K := Lib.hid (fun a b x g W h => hold_one a b x g W h)
  by_cases hl : c.st.length < 2
  · have t : decide ((c.st.length : Int) < 2) = true := by simp; omega
    have HV := Lib.hid (HN.out (by omega))
    obtain ⟨ad, cap, rfl, hm⟩ := hu.len
    clear hu h0 h1
    unfold cc at *
    go_enter Try.func32, Try.ntmps32
    go_wp2_with fail
    go_ret
    exact ⟨ret1 HV.out.symm, (Later.refl w).alloc _ _⟩
  · have t : decide ((c.st.length : Int) < 2) = false := by simp; omega
    obtain ⟨B, off, cap, rfl, hc1, hc2, hB, hc⟩ := hu.has (by omega)
    have HC := Lib.hid hc
    have HM : Hid (c.st.length ≤ 9223372036854775807) := Lib.hid (by omega)
    have HB := Lib.hid hl
    clear hu hc1 hc2 hB hc hl
    obtain ⟨n, hn⟩ : ∃ n, c.st.length = n := ⟨_, rfl⟩
    rw [hn] at t F ⊢
    have HL := Lib.hid hn
    clear hn
    obtain ⟨C, hC⟩ : ∃ C, C = cc c (.slice (some ⟨B, off, none⟩) n cap) v := ⟨_, rfl⟩
    rw [← hC] at F ⊢
    have f3 : C[3]? = some (.slice (some ⟨B, off, none⟩) n cap) := by rw [hC]; rfl
    have HZ : Hid (C.size = 37) := Lib.hid (by rw [hC]; rfl)
    clear hC
    have AC := Lib.hid (At.new w C 33)
    go_enter Try.func32, Try.ntmps32
    go_wp2_with (refine load_at C HZ.out rfl (.tmp 1) rfl w.heap.size rfl AC.out ?_)
    refine (F.out _).mono ?_
    rintro e w1 ⟨rfl, hg1⟩
    have HG1 := Lib.hid (off_put hg1)
    have x3 := (AC.out.later hg1).put (.cells #[.int .i64 0, .int .i64 (c.f - 1)] 48) 3 _ f3
    clear hg1 t f3
    go_wp2_with fail
    clear x3
    go_loopw [15] (fun i wr => SRel c.f c.st w w1.heap.size i wr) (fun i _ => n - (intOf i).toNat)
    case atStart => exact ⟨0, by omega, rfl, su_zero _ _, Row.new _ _ _, HG1.out.put _⟩
    case round =>
      obtain ⟨k, hk, rfl, hsu, hrow, hg⟩ := hrel
      rw [HL.out] at hk
      have HS := Lib.hid hsu
      have HR := Lib.hid hrow
      have HG := Lib.hid hg
      clear hsu hrow hg
      by_cases hlt : k < n
      · have cx := gsome HG.out (HC.out k (by rw [HL.out]; exact hlt))
        obtain ⟨x, hx⟩ : ∃ x, c.st.getD k 0 = x := ⟨_, rfl⟩
        rw [hx] at cx
        have hm : n ≤ 9223372036854775807 := by have := HM.out; rw [HL.out] at this; exact this
        have r0 := HR.out.cell 0 rfl
        have r1 := HR.out.cell 1 rfl
        have rf := HR.out.frozen 0
        have HX := Lib.hid hx
        clear hx
        go_wp2_with fail
        refine (K.out _ _ x _ _ (new_cell _ _ _ 0 _ _ rfl rfl)).mono ?_
        rintro e w2 ⟨rfl, hg2⟩
        have HR2 := Lib.hid (HR.out.later (off_put hg2))
        have HG2 := Lib.hid (gtrans HG.out (off_put hg2))
        clear hg2 r0 r1 rf cx
        cases hb : bt x (lo c.st k) (c.f - 1) with
        | false =>
          have HV := Lib.hid (HN.out (fun h => by
            have := h.2 k (by rw [HL.out]; exact hlt)
            rw [sg, HX.out] at this
            rw [(bt_iff _ _ _).2 this] at hb
            cases hb))
          clear hb
          go_wp2_with fail
          go_ret
          exact ⟨ret1 HV.out.symm, HG2.out⟩
        | true =>
          have hsg : sg c.f c.st k := by rw [sg, HX.out]; exact (bt_iff _ _ _).1 hb
          have HS' := Lib.hid (su_on HS.out hsg)
          have hp := su_pos HS'.out k (by omega)
          rw [HX.out] at hp
          have hlo : lo c.st (k + 1) = x + 1 := by rw [lo_succ, HX.out]
          have HLo := Lib.hid hlo
          have r0 := HR2.out.cell 0 rfl
          have r1 := HR2.out.cell 1 rfl
          have rf := HR2.out.frozen 0
          clear hb hsg hlo
          go_wp2_with fail
          go_roundw
          case rel =>
            refine ⟨k + 1, by rw [HL.out]; omega, by go_num, HS'.out, ?_, HG2.out.setCell (by exact HG1.out.size) _⟩
            rw [HLo.out]
            exact HR2.out.set 0 _
          case measure => simp [intOf]; omega
      · obtain rfl : k = n := by omega
        have HV := Lib.hid (HY.out ⟨by have := HB.out; omega, by rw [HL.out]; exact HS.out⟩)
        go_wp2_with fail
        go_ret
        exact ⟨ret1 HV.out.symm, HG.out⟩

end Go.Proofs.Ythbgllbbliijlaa.Conf
