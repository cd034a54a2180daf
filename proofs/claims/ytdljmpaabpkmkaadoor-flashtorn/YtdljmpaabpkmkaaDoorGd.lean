/-
  A record that is written is read, the same; what is read is written in just those bytes; a slot that was cut has no record: the laws' walks. Conditions: the table lies where the program lays it; bytes are bytes.
-/
import Derived.Test.YtdljmpaabpkmkaaDoorGc
namespace Go.Proofs.YtdljmpaabpkmkaaDoor.Fls
set_option maxRecDepth 100000
open Go.ChangeShapes Go.WideShapes Go.ChangeAt Go.RowKit
open Go.Proofs.YtdljmpaabpkmkaaDoor.Divs Go.Proofs.YtdljmpaabpkmkaaDoor.Grow Go.Proofs.YtdljmpaabpkmkaaDoor.By Go.Proofs.YtdljmpaabpkmkaaDoor.Wi Go.Proofs.YtdljmpaabpkmkaaDoor.Fa
open Go.Proofs.YtdljmpaabpkmkaaDoor.Crc (Laid)

set_option maxHeartbeats 1000000 in
theorem back_core (w : World) (hL : Laid w) (r : Rc) (v : Value) (hr : Rk w v r) (hf : Fit r) : Calls Tryd.prog 4 #[v] w fun e w' => e = .returned (.bool true) ∧ Later w w' := by
  have A := Lib.hid (fun W (g : Later w W) => awake_any W (hL.grown g))
  obtain ⟨u, rfl, hu⟩ := hr
  obtain ⟨a1, k1, rfl, _⟩ := hu.len
  obtain ⟨ln, hln⟩ : ∃ n, r.b.length = n := ⟨_, rfl⟩
  rw [hln] at hu ⊢
  have HU := Lib.hid hu
  have HL0 : Hid (Later w (w.alloc (.cells #[.int .i64 r.g, .int .i64 r.c, .int .i64 r.m, .slice a1 ln k1] 26))) := Lib.hid ((Later.refl w).put _)
  have HB0 : Hid (RA (w.alloc (.cells #[.int .i64 r.g, .int .i64 r.c, .int .i64 r.m, .slice a1 ln k1] 26)) w.heap.size #[.int .i64 r.g, .int .i64 r.c, .int .i64 r.m, .slice a1 ln k1] 26) := Lib.hid (RA.new w _ _)
  by_cases h0 : 5000 < ln
  · have t : (ln : Int) > 5000 := by omega
    clear hu hL hf hln h0
    go_enter Tryd.func4, Tryd.ntmps4
    go_wp2_with fail
    refine (A.out _ HL0.out).mono ?_
    rintro e w1 ⟨rfl, hg1⟩
    go_wp2_with fail
    go_ret
    exact ⟨rfl, gtrans HL0.out hg1⟩
  · have t : ¬ (ln : Int) > 5000 := by omega
    by_cases hm : may r = true
    · have K := Lib.hid (fun W (g : Later w W) => pcode_yes r _ W ⟨_, rfl, hu.later g⟩ hm hf (hL.grown g))
      have KR := Lib.hid (fun W v (g : Later w W) (h : Sk .u8 W v (co r)) => pread_any (co r) (co_byte hm hf) (by have := co_len hm; omega) v W h (hL.grown g))
      rw [rd_co hm hf] at KR
      have KS := Lib.hid (fun W u v (h1 : Rk W u r) (h2 : Rk W v r) => psame_any r r u v W h1 h2 hf.2 hf.2)
      have KT := Lib.hid (fun W u v (h1 : Rk W u r) (h2 : Rk W v r) => rsame_any r r u v W h1 h2)
      rw [sm_self] at KS KT
      have HLN := Lib.hid hln
      clear hu hL hf hln h0 hm
      go_enter Tryd.func4, Tryd.ntmps4
      go_wp2_with fail
      refine (K.out _ HL0.out).mono ?_
      rintro e w1 ⟨b, rfl, hb, hg1⟩
      obtain ⟨ab, kb, rfl, _⟩ := hb.len
      have HC := Lib.hid hb
      have HL1 := Lib.hid (gtrans HL0.out hg1)
      have HB1 := Lib.hid (HB0.out.later hg1)
      clear hb hg1
      go_wp2_with fail
      refine (KR.out _ _ HL1.out HC.out).mono ?_
      rintro e w2 ⟨x, rfl, ⟨y, rfl, hy⟩, hg2⟩
      obtain ⟨p1, q1, rfl, _⟩ := hy.len
      rw [HLN.out] at hy ⊢
      have HP : Hid (Later w2 (w2.alloc (.cells #[.int .i64 r.g, .int .i64 r.c, .int .i64 r.m, .slice p1 ln q1] 26))) := Lib.hid ((Later.refl _).put _)
      have HL2 := Lib.hid (gtrans HL1.out (gtrans hg2 HP.out))
      have HB2 := Lib.hid (HB1.out.later (gtrans hg2 HP.out))
      have HX2 : Hid (RA (w2.alloc (.cells #[.int .i64 r.g, .int .i64 r.c, .int .i64 r.m, .slice p1 ln q1] 26)) w2.heap.size #[.int .i64 r.g, .int .i64 r.c, .int .i64 r.m, .slice p1 ln q1] 26) := Lib.hid (RA.new w2 _ _)
      have HY2 := Lib.hid (hy.later HP.out)
      clear hy hg2
      go_wp2_with fail
      refine (A.out _ HL2.out).mono ?_
      rintro e w3 ⟨rfl, hg3⟩
      have HL3 := Lib.hid (gtrans HL2.out hg3)
      have HB3 := Lib.hid (HB2.out.later hg3)
      have HX3 := Lib.hid (HX2.out.later hg3)
      have HY3 := Lib.hid (HY2.out.later hg3)
      have a0 := HB3.out.cell 0 _ rfl; have a1 := HB3.out.cell 1 _ rfl; have a2 := HB3.out.cell 2 _ rfl; have a3 := HB3.out.cell 3 _ rfl
      have b0 := HX3.out.cell 0 _ rfl; have b1 := HX3.out.cell 1 _ rfl; have b2 := HX3.out.cell 2 _ rfl; have b3 := HX3.out.cell 3 _ rfl
      clear hg3
      go_wp2_with fail
      clear a0 a1 a2 a3
      clear b0 b1 b2 b3
      refine (KS.out _ _ _ ⟨_, rfl, HY3.out⟩ ⟨_, rfl, HU.out.later HL3.out⟩).mono ?_
      rintro e w4 ⟨rfl, hg4⟩
      have HL4 := Lib.hid (gtrans HL3.out hg4)
      have HY4 := Lib.hid (HY3.out.later hg4)
      have a0 := (HB3.out.later hg4).cell 0 _ rfl; have a1 := (HB3.out.later hg4).cell 1 _ rfl; have a2 := (HB3.out.later hg4).cell 2 _ rfl; have a3 := (HB3.out.later hg4).cell 3 _ rfl
      have b0 := (HX3.out.later hg4).cell 0 _ rfl; have b1 := (HX3.out.later hg4).cell 1 _ rfl; have b2 := (HX3.out.later hg4).cell 2 _ rfl; have b3 := (HX3.out.later hg4).cell 3 _ rfl
      clear hg4
      go_wp2_with fail
      clear a0 a1 a2 a3
      clear b0 b1 b2 b3
      refine (KT.out _ _ _ ⟨_, rfl, HY4.out⟩ ⟨_, rfl, HU.out.later HL4.out⟩).mono ?_
      rintro e w5 ⟨rfl, hg5⟩
      go_wp2_with fail
      go_ret
      exact ⟨rfl, gtrans HL4.out hg5⟩
    · have hm : may r = false := by simpa using hm
      have K := Lib.hid (fun W (g : Later w W) => pcode_no r _ W ⟨_, rfl, hu.later g⟩ hm)
      clear hu hL hf hln h0 hm
      go_enter Tryd.func4, Tryd.ntmps4
      go_wp2_with fail
      refine (K.out _ HL0.out).mono ?_
      rintro e w1 ⟨rfl, hg1⟩
      have HL1 := Lib.hid (gtrans HL0.out hg1)
      clear hg1
      go_wp2_with fail
      refine (A.out _ HL1.out).mono ?_
      rintro e w2 ⟨rfl, hg2⟩
      go_wp2_with fail
      go_ret
      exact ⟨rfl, gtrans HL1.out hg2⟩

set_option maxHeartbeats 1000000 in
theorem torn_core (w : World) (hL : Laid w) (r : Rc) (v : Value) (hr : Rk w v r) (hf : Fit r) (cut : Int) : Calls Tryd.prog 6 #[v, .int .i64 cut] w fun e w' => e = .returned (.bool true) ∧ Later w w' := by
  have A := Lib.hid (fun W (g : Later w W) => awake_any W (hL.grown g))
  obtain ⟨u, rfl, hu⟩ := hr
  obtain ⟨a1, k1, rfl, _⟩ := hu.len
  obtain ⟨ln, hln⟩ : ∃ n, r.b.length = n := ⟨_, rfl⟩
  rw [hln] at hu ⊢
  have HL0 : Hid (Later w (w.alloc (.cells #[.int .i64 r.g, .int .i64 r.c, .int .i64 r.m, .slice a1 ln k1] 26))) := Lib.hid ((Later.refl w).put _)
  by_cases h0 : 5000 < ln
  · have t : (ln : Int) > 5000 := by omega
    clear hu hL hf hln h0
    go_enter Tryd.func6, Tryd.ntmps6
    go_wp2_with fail
    refine (A.out _ HL0.out).mono ?_
    rintro e w1 ⟨rfl, hg1⟩
    go_wp2_with fail
    go_ret
    exact ⟨rfl, gtrans HL0.out hg1⟩
  · have t : ¬ (ln : Int) > 5000 := by omega
    by_cases hm : may r = true
    · have K := Lib.hid (fun W (g : Later w W) => pcode_yes r _ W ⟨_, rfl, hu.later g⟩ hm hf (hL.grown g))
      obtain ⟨lc, hlc⟩ : ∃ n, (co r).length = n := ⟨_, rfl⟩
      by_cases hc : 0 ≤ cut ∧ cut < lc
      · obtain ⟨c0, c1⟩ := hc
        obtain ⟨k, rfl⟩ := Int.eq_ofNat_of_zero_le c0
        have hk : k < (co r).length := by omega
        have hcb : By ((co r).take k) := fun x hx => co_byte hm hf x (List.mem_of_mem_take hx)
        have hcl : ((co r).take k).length ≤ 20000 := by rw [List.length_take]; have := co_len hm; omega
        have KR := Lib.hid (fun W v (g : Later w W) (h : Sk .u8 W v ((co r).take k)) => pread_any ((co r).take k) hcb hcl v W h (hL.grown g))
        have hE := rd_cut hm hf k hk
        have hz := rd_err ((co r).take k) (by rcases hE with h | h <;> rw [h] <;> decide)
        rw [hz] at KR
        obtain ⟨E, hEE⟩ : ∃ E, (rd ((co r).take k)).2 = E := ⟨_, rfl⟩
        rw [hEE] at KR hE
        have HLC := Lib.hid hlc
        have HE := Lib.hid hE
        have q1 : ¬ (k : Int) < 0 := by omega
        have q2 : ¬ (k : Int) ≥ (lc : Int) := by omega
        clear hu hL hf hln h0 hm hlc hk hcb hcl hE hz hEE c0
        go_enter Tryd.func6, Tryd.ntmps6
        go_wp2_with fail
        refine (K.out _ HL0.out).mono ?_
        rintro e w1 ⟨b, rfl, hb, hg1⟩
        obtain ⟨ab, kb, u5, rfl, sl, hu5⟩ := cut_h hb k (by rw [HLC.out]; omega)
        rw [HLC.out] at sl ⊢
        have HU5 := Lib.hid hu5
        have HL1 := Lib.hid (gtrans HL0.out hg1)
        clear hb hu5 hg1
        go_wp2_with fail
        refine (KR.out _ _ HL1.out HU5.out).mono ?_
        rintro e w2 ⟨x, rfl, ⟨y, rfl, hy⟩, hg2⟩
        obtain ⟨p1, q3, rfl, _⟩ := hy.len
        have HL2 : Hid (Later w (w2.alloc (.cells #[.int .i64 0, .int .i64 0, .int .i64 0, .slice p1 0 q3] 26))) := Lib.hid (gtrans HL1.out (gtrans hg2 ((Later.refl _).put _)))
        simp only [r0, List.length_nil]
        clear hy hg2
        go_wp2_with fail
        refine (A.out _ HL2.out).mono ?_
        rintro e w3 ⟨rfl, hg3⟩
        rcases HE.out with rfl | rfl
        · go_wp2_with fail
          go_ret
          exact ⟨rfl, gtrans HL2.out hg3⟩
        · go_wp2_with fail
          go_ret
          exact ⟨rfl, gtrans HL2.out hg3⟩
      · have HLC := Lib.hid hlc
        have HC := Lib.hid hc
        clear hu hL hf hln h0 hm hlc hc
        by_cases c0 : cut < 0
        · go_enter Tryd.func6, Tryd.ntmps6
          go_wp2_with fail
          refine (K.out _ HL0.out).mono ?_
          rintro e w1 ⟨b, rfl, hb, hg1⟩
          obtain ⟨ab, kb, rfl, _⟩ := hb.len
          have HL1 := Lib.hid (gtrans HL0.out hg1)
          clear hb hg1
          go_wp2_with fail
          refine (A.out _ HL1.out).mono ?_
          rintro e w3 ⟨rfl, hg3⟩
          go_wp2_with fail
          go_ret
          exact ⟨rfl, gtrans HL1.out hg3⟩
        · have c1 : cut ≥ (lc : Int) := by have := HC.out; omega
          go_enter Tryd.func6, Tryd.ntmps6
          go_wp2_with fail
          refine (K.out _ HL0.out).mono ?_
          rintro e w1 ⟨b, rfl, hb, hg1⟩
          obtain ⟨ab, kb, rfl, _⟩ := hb.len
          rw [HLC.out]
          have HL1 := Lib.hid (gtrans HL0.out hg1)
          clear hb hg1
          go_wp2_with fail
          refine (A.out _ HL1.out).mono ?_
          rintro e w3 ⟨rfl, hg3⟩
          go_wp2_with fail
          go_ret
          exact ⟨rfl, gtrans HL1.out hg3⟩
    · have hm : may r = false := by simpa using hm
      have K := Lib.hid (fun W (g : Later w W) => pcode_no r _ W ⟨_, rfl, hu.later g⟩ hm)
      clear hu hL hf hln h0 hm
      go_enter Tryd.func6, Tryd.ntmps6
      go_wp2_with fail
      refine (K.out _ HL0.out).mono ?_
      rintro e w1 ⟨rfl, hg1⟩
      have HL1 := Lib.hid (gtrans HL0.out hg1)
      clear hg1
      go_wp2_with fail
      refine (A.out _ HL1.out).mono ?_
      rintro e w2 ⟨rfl, hg2⟩
      go_wp2_with fail
      go_ret
      exact ⟨rfl, gtrans HL1.out hg2⟩

end Go.Proofs.YtdljmpaabpkmkaaDoor.Fls
