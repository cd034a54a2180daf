/-
  The chapter's example, played by the program. Condition: the table lies where the program lays it.
-/
import Derived.Test.YtdljmpaabpkmkaaDoorGb
namespace Go.Proofs.YtdljmpaabpkmkaaDoor.Fls
set_option maxRecDepth 100000
open Go.ChangeShapes Go.WideShapes Go.ChangeAt Go.RowKit
open Go.Proofs.YtdljmpaabpkmkaaDoor.Divs Go.Proofs.YtdljmpaabpkmkaaDoor.Grow Go.Proofs.YtdljmpaabpkmkaaDoor.By Go.Proofs.YtdljmpaabpkmkaaDoor.Wi Go.Proofs.YtdljmpaabpkmkaaDoor.Fa
open Go.Proofs.YtdljmpaabpkmkaaDoor.Crc (Laid)

/-- The example's record. -/
def r1 : Rc := ⟨1, 0, 3, []⟩

theorem ex_may : may r1 = true := by decide +kernel
theorem ex_fit : Fit r1 := ⟨by unfold In r1; exact ⟨by decide, by decide⟩, by unfold By r1; simp⟩
theorem ex_len : (co r1).length = 7 := by decide +kernel
theorem ex_take : (co r1).take 5 = [6, 2, 0, 6, 0] := by decide +kernel
theorem ex_nil : (rd []).2 ≠ 0 := by decide +kernel
theorem ex_co : rd (co r1) = (r1, 0) := rd_co ex_may ex_fit
theorem ex_lt0 : lt [] [] = (r0, false, false) := by
  unfold lt
  rw [if_neg (fun k => ex_nil k.1), if_neg ex_nil]
theorem ex_lt : lt (co r1) [] = (r1, false, true) := by
  unfold lt
  rw [ex_co, if_pos ⟨rfl, .inl ex_nil⟩]
theorem ex_we : wE [] [] r1 = 0 := by
  unfold wE
  rw [if_pos ex_may, ex_lt0]
  rfl
theorem ex_al : al r1 99 = true := by
  unfold al
  rw [ex_len]
  decide
theorem ex_fi : fi [] [] = true := by
  unfold fi
  rw [ex_lt0]
  rfl
theorem ex_wa : wa [] [] r1 99 = co r1 := by
  unfold wa
  rw [if_pos ex_fi, wc_all ex_al]
theorem ex_wb : wb [] [] r1 99 = [] := by
  unfold wb
  rw [if_pos ex_fi]
theorem ex_sm : sm r1 r0 = false := by decide

/-- v is the example's record. -/
def R1 (W : World) (v : Value) : Prop := ∃ u, v = .agg #[.int .i64 1, .int .i64 0, .int .i64 3, u] ∧ Sk .u8 W u []

theorem R1.rk {W : World} {v : Value} (h : R1 W v) : Rk W v r1 := h

theorem ex_read (v : Value) (w : World) (hs : Sk .u8 w v (co r1)) (hL : Laid w) : Calls Tryd.prog 19 #[v] w fun e w' => ∃ u, e = .returned (.tuple #[u, .int .i64 0]) ∧ R1 w' u ∧ Later w w' := by
  have h := pread_any (co r1) (co_byte ex_may ex_fit) (by rw [ex_len]; decide) v w hs hL
  rw [ex_co] at h
  exact h

theorem ex_write (v : Value) (w : World) (hr : Rk w v r1) (hL : Laid w) : Calls Tryd.prog 11 #[.agg #[.slice none 0 0, .slice none 0 0], v, .int .i64 99] w fun e w' => ∃ q, e = .returned (.tuple #[q, .bool true, .int .i64 0]) ∧ Fv w' q (co r1) [] ∧ Later w w' := by
  have h := pwrite_yes [] [] r1 99 _ v w (fv_nil w) hr ex_may ex_fit (by unfold By; simp) (by unfold By; simp) (by simp) (by simp) hL
  rw [ex_we, ex_al, if_pos rfl, if_pos rfl, ex_wa, ex_wb] at h
  exact h

theorem ex_recover (v : Value) (w : World) (hs : Fv w v (co r1) []) (hL : Laid w) : Calls Tryd.prog 14 #[v] w fun e w' => ∃ u, e = .returned (.tuple #[u, .bool false, .int .i64 0]) ∧ R1 w' u ∧ Later w w' := by
  have h := precover_any (co r1) [] (co_byte ex_may ex_fit) (by unfold By; simp) (by rw [ex_len]; decide) (by simp) v w hs hL
  rw [ex_lt] at h
  exact h

set_option maxHeartbeats 4000000 in
theorem awake_any (w : World) (hL : Laid w) : Calls Tryd.prog 10 #[] w fun e w' => e = .returned (.bool true) ∧ Later w w' := by
  have KC := Lib.hid (fun W (g : Later w W) v (h : Rk W v r1) => pcode_yes r1 v W h ex_may ex_fit (hL.grown g))
  have KR := Lib.hid (fun W (g : Later w W) v (h : Sk .u8 W v (co r1)) => ex_read v W h (hL.grown g))
  have KW := Lib.hid (fun W (g : Later w W) v (h : Rk W v r1) => ex_write v W h (hL.grown g))
  have KV := Lib.hid (fun W (g : Later w W) v (h : Fv W v (co r1) []) => ex_recover v W h (hL.grown g))
  have KB := Lib.hid (fun W u v (hu : Sk .u8 W u [6, 2, 0, 6, 0]) (hv : Sk .u8 W v [6, 2, 0, 6, 0]) => bsame_yes [6, 2, 0, 6, 0] u v W hu hv)
  have KS := Lib.hid (fun W u v (hu : Rk W u r1) (hv : Rk W v r1) => (psame_any r1 r1 u v W hu hv ex_fit.2 ex_fit.2))
  rw [sm_self] at KS
  have KZ := Lib.hid (fun W u v (hu : Rk W u r1) (hv : Rk W v r0) => (psame_any r1 r0 u v W hu hv ex_fit.2 (by unfold By r0; simp)))
  rw [ex_sm] at KZ
  have HL0 : Hid (Later w (w.alloc (.cells #[.int .i64 1, .int .i64 0, .int .i64 3, .slice none 0 0] 26))) := Lib.hid ((Later.refl w).put _)
  have HB0 : Hid (RA (w.alloc (.cells #[.int .i64 1, .int .i64 0, .int .i64 3, .slice none 0 0] 26)) w.heap.size _ _) := Lib.hid (RA.new w _ _)
  have HK : Hid (∀ W, Rk W (.agg #[.int .i64 1, .int .i64 0, .int .i64 3, .slice none 0 0]) r1) := Lib.hid (fun W => ⟨_, rfl, sk_nil _ _⟩)
  clear hL
  go_enter Tryd.func10, Tryd.ntmps10
  go_wp2_with fail
  refine (KC.out _ HL0.out _ (HK.out _)).mono ?_
  rintro e w1 ⟨u, rfl, hu, hg1⟩
  obtain ⟨ad, cap, u5, rfl, sl, hu5⟩ := cut_h hu 5 (by rw [ex_len]; decide)
  rw [show ((5 : Nat) : Int) = 5 from rfl] at sl
  rw [ex_take] at hu5
  rw [ex_len] at sl ⊢
  rw [ex_len] at hu
  have HU := Lib.hid hu
  have HU5 := Lib.hid hu5
  have HL1 := Lib.hid (gtrans HL0.out hg1)
  have HB1 := Lib.hid (HB0.out.later hg1)
  clear hu hu5 hg1
  go_wp2_with fail
  refine (KR.out _ HL1.out _ HU.out).mono ?_
  rintro e w2 ⟨v, rfl, ⟨v1, rfl, hv1⟩, hg2⟩
  obtain ⟨p1, q1, rfl, _⟩ := hv1.len
  have HP2 : Hid (Later w2 (w2.alloc (.cells #[.int .i64 1, .int .i64 0, .int .i64 3, .slice p1 0 q1] 26))) := Lib.hid ((Later.refl _).put _)
  have HL2 := Lib.hid (gtrans HL1.out (gtrans hg2 HP2.out))
  have HB2 := Lib.hid (HB1.out.later (gtrans hg2 HP2.out))
  have HU5 := Lib.hid (HU5.out.later (gtrans hg2 HP2.out))
  have HX2 : Hid (RA (w2.alloc (.cells #[.int .i64 1, .int .i64 0, .int .i64 3, .slice p1 0 q1] 26)) w2.heap.size #[.int .i64 1, .int .i64 0, .int .i64 3, .slice p1 0 q1] 26) := Lib.hid (RA.new w2 _ _)
  have HV2 := Lib.hid (hv1.later HP2.out)
  have a0 := HB2.out.cell 0 _ rfl; have a1 := HB2.out.cell 1 _ rfl; have a2 := HB2.out.cell 2 _ rfl; have a3 := HB2.out.cell 3 _ rfl
  clear hv1 hg2
  go_wp2_with fail
  clear a0 a1 a2 a3
  refine (KW.out _ HL2.out _ (HK.out _)).mono ?_
  rintro e w3 ⟨q, rfl, ⟨x3, y3, rfl, hx3, hy3⟩, hg3⟩
  obtain ⟨e1, f1, rfl, _⟩ := hx3.len
  obtain ⟨e2, f2, rfl, _⟩ := hy3.len
  simp only [List.length_nil]
  have HX3 := Lib.hid hx3
  have HY3 := Lib.hid hy3
  generalize (co r1).length = le at *
  have HP3 : Hid (Later w3 (w3.alloc (.cells #[.slice e1 le f1, .slice e2 0 f2] 24))) := Lib.hid ((Later.refl _).put _)
  have HL3 := Lib.hid (gtrans HL2.out (gtrans hg3 HP3.out))
  have HB3 := Lib.hid (HB2.out.later (gtrans hg3 HP3.out))
  have HX23 := Lib.hid (HX2.out.later (gtrans hg3 HP3.out))
  have HV3 := Lib.hid (HV2.out.later (gtrans hg3 HP3.out))
  have HU53 := Lib.hid (HU5.out.later (gtrans hg3 HP3.out))
  clear hx3 hy3 hg3
  go_wp2_with fail
  refine (KV.out _ HL3.out _ ⟨_, _, rfl, HX3.out.later HP3.out, HY3.out.later HP3.out⟩).mono ?_
  rintro e w4 ⟨q, rfl, ⟨v3, rfl, hv3⟩, hg4⟩
  obtain ⟨p3, q3, rfl, _⟩ := hv3.len
  have HP4 : Hid (Later w4 ((w4.alloc (.cells #[.int .i64 1, .int .i64 0, .int .i64 3, .slice p3 0 q3] 26)).alloc (.cells #[.int .u8 6, .int .u8 2, .int .u8 0, .int .u8 6, .int .u8 0] 5))) := Lib.hid (((Later.refl _).put _).put _)
  have HL4 := Lib.hid (gtrans HL3.out (gtrans hg4 HP4.out))
  have HB4 := Lib.hid (HB3.out.later (gtrans hg4 HP4.out))
  have HX4 := Lib.hid (HX23.out.later (gtrans hg4 HP4.out))
  have HV4 := Lib.hid (HV3.out.later (gtrans hg4 HP4.out))
  have HU4 := Lib.hid (HU53.out.later (gtrans hg4 HP4.out))
  have HW4 := Lib.hid (hv3.later HP4.out)
  have HZ4 : Hid (RA ((w4.alloc (.cells #[.int .i64 1, .int .i64 0, .int .i64 3, .slice p3 0 q3] 26)).alloc (.cells #[.int .u8 6, .int .u8 2, .int .u8 0, .int .u8 6, .int .u8 0] 5)) w4.heap.size #[.int .i64 1, .int .i64 0, .int .i64 3, .slice p3 0 q3] 26) := Lib.hid ((RA.new w4 _ _).later ((Later.refl _).put _))
  have HS4 : Hid (Sk .u8 ((w4.alloc (.cells #[.int .i64 1, .int .i64 0, .int .i64 3, .slice p3 0 q3] 26)).alloc (.cells #[.int .u8 6, .int .u8 2, .int .u8 0, .int .u8 6, .int .u8 0] 5)) (.slice (some ⟨w4.heap.size + 1, 0, none⟩) 5 5) [6, 2, 0, 6, 0]) := Lib.hid (by
    have h := sk_new .u8 5 [6, 2, 0, 6, 0] (w4.alloc (.cells #[.int .i64 1, .int .i64 0, .int .i64 3, .slice p3 0 q3] 26)) (by simp)
    rw [World.size_alloc] at h
    exact h)
  clear hv3 hg4
  go_wp2_with fail
  refine (KB.out _ _ _ HU4.out HS4.out).mono ?_
  rintro e w5 ⟨rfl, hg5⟩
  have HL5 := Lib.hid (gtrans HL4.out hg5)
  have HB5 := Lib.hid (HB4.out.later hg5)
  have HX5 := Lib.hid (HX4.out.later hg5)
  have HZ5 := Lib.hid (HZ4.out.later hg5)
  have HV5 := Lib.hid (HV4.out.later hg5)
  have HW5 := Lib.hid (HW4.out.later hg5)
  have a0 := HB5.out.cell 0 _ rfl; have a1 := HB5.out.cell 1 _ rfl; have a2 := HB5.out.cell 2 _ rfl; have a3 := HB5.out.cell 3 _ rfl
  have b0 := HX5.out.cell 0 _ rfl; have b1 := HX5.out.cell 1 _ rfl; have b2 := HX5.out.cell 2 _ rfl; have b3 := HX5.out.cell 3 _ rfl
  clear hg5
  go_wp2_with fail
  clear a0 a1 a2 a3
  clear b0 b1 b2 b3
  refine (KS.out _ _ _ ⟨_, rfl, HV5.out⟩ (HK.out _)).mono ?_
  rintro e w6 ⟨rfl, hg6⟩
  have HL6 := Lib.hid (gtrans HL5.out hg6)
  have HX6 := Lib.hid (HX5.out.later hg6)
  have HV6 := Lib.hid (HV5.out.later hg6)
  have HW6 := Lib.hid (HW5.out.later hg6)
  have a0 := (HB5.out.later hg6).cell 0 _ rfl; have a1 := (HB5.out.later hg6).cell 1 _ rfl; have a2 := (HB5.out.later hg6).cell 2 _ rfl; have a3 := (HB5.out.later hg6).cell 3 _ rfl
  have b0 := (HZ5.out.later hg6).cell 0 _ rfl; have b1 := (HZ5.out.later hg6).cell 1 _ rfl; have b2 := (HZ5.out.later hg6).cell 2 _ rfl; have b3 := (HZ5.out.later hg6).cell 3 _ rfl
  clear hg6
  go_wp2_with fail
  clear a0 a1 a2 a3
  clear b0 b1 b2 b3
  refine (KS.out _ _ _ ⟨_, rfl, HW6.out⟩ (HK.out _)).mono ?_
  rintro e w7 ⟨rfl, hg7⟩
  have HL7 := Lib.hid (gtrans HL6.out hg7)
  have HV7 := Lib.hid (HV6.out.later hg7)
  have b0 := (HX6.out.later hg7).cell 0 _ rfl; have b1 := (HX6.out.later hg7).cell 1 _ rfl; have b2 := (HX6.out.later hg7).cell 2 _ rfl; have b3 := (HX6.out.later hg7).cell 3 _ rfl
  clear hg7
  go_wp2_with fail
  clear b0 b1 b2 b3
  refine (KZ.out _ _ _ ⟨_, rfl, HV7.out⟩ (rk_zero _)).mono ?_
  rintro e w8 ⟨rfl, hg8⟩
  go_wp2_with fail
  go_ret
  exact ⟨rfl, gtrans HL7.out hg8⟩

end Go.Proofs.YtdljmpaabpkmkaaDoor.Fls
