/-
  What is read is written in just those bytes: the law's walk. Conditions: the table lies where the program lays it; the bytes are bytes.
-/
import Derived.Test.YtdljmpaabpkmkaaDoorGc
namespace Go.Proofs.YtdljmpaabpkmkaaDoor.Fls
set_option maxRecDepth 100000
open Go.ChangeShapes Go.WideShapes Go.ChangeAt Go.RowKit
open Go.Proofs.YtdljmpaabpkmkaaDoor.Divs Go.Proofs.YtdljmpaabpkmkaaDoor.Grow Go.Proofs.YtdljmpaabpkmkaaDoor.By Go.Proofs.YtdljmpaabpkmkaaDoor.Wi Go.Proofs.YtdljmpaabpkmkaaDoor.Fa
open Go.Proofs.YtdljmpaabpkmkaaDoor.Crc (Laid)

set_option maxHeartbeats 1000000 in
theorem only_core (w : World) (hL : Laid w) (bs : List Int) (v : Value) (hs : Sk .u8 w v bs) (hb : By bs) : Calls Tryd.prog 5 #[v] w fun e w' => e = .returned (.bool true) ∧ Later w w' := by
  have A := Lib.hid (fun W (g : Later w W) => awake_any W (hL.grown g))
  have HS := Lib.hid hs
  have HLL := Lib.hid hL
  obtain ⟨a1, k1, rfl, _⟩ := hs.len
  obtain ⟨ln, hln⟩ : ∃ n, bs.length = n := ⟨_, rfl⟩
  rw [hln] at HS ⊢
  have HLN := Lib.hid hln
  by_cases h0 : 5000 < ln
  · have t : (ln : Int) > 5000 := by omega
    clear hs hL hb hln h0
    go_enter Tryd.func5, Tryd.ntmps5
    go_wp2_with fail
    refine (A.out _ (Later.refl w)).mono ?_
    rintro e w1 ⟨rfl, hg1⟩
    go_wp2_with fail
    go_ret
    exact ⟨rfl, hg1⟩
  · have t : ¬ (ln : Int) > 5000 := by omega
    have hn : bs.length ≤ 5000 := by omega
    have HN := Lib.hid hn
    have KR := Lib.hid (fun W v (g : Later w W) (h : Sk .u8 W v bs) => pread_any bs hb (by omega) v W h (hL.grown g))
    have HD := Lib.hid (fun h => co_rd bs hb h)
    have HZ := Lib.hid (fun h => rd_err bs h)
    clear hs hL hb hln h0 hn
    obtain ⟨R, hR⟩ : ∃ R, (rd bs).1 = R := ⟨_, rfl⟩
    obtain ⟨E, hE⟩ : ∃ E, (rd bs).2 = E := ⟨_, rfl⟩
    rw [hR, hE] at KR HD HZ
    clear hR hE
    go_enter Tryd.func5, Tryd.ntmps5
    go_wp2_with (at_builtin; refine append_sk rfl (.tmp 12) (.tmp 13) rfl w ((Later.refl w).put _) _ [] rfl (SL.made w _ (Later.refl w)) _ bs rfl (HS.out.later ((Later.refl w).put _)) (by have := HN.out; simp; omega) ?_; intro v2 w2 ho2 hg2; have HO2 := Lib.hid ho2; have HG2 := Lib.hid hg2; clear ho2 hg2)
    refine (KR.out _ _ HG2.out (by have := HO2.out.sk; simpa using this)).mono ?_
    rintro e w3 ⟨x, rfl, ⟨y, rfl, hy⟩, hg3⟩
    obtain ⟨p1, q1, rfl, _⟩ := hy.len
    obtain ⟨n1, hn1⟩ : ∃ n, R.b.length = n := ⟨_, rfl⟩
    rw [hn1] at hy ⊢
    have HP : Hid (Later w3 (w3.alloc (.cells #[.int .i64 R.g, .int .i64 R.c, .int .i64 R.m, .slice p1 n1 q1] 26))) := Lib.hid ((Later.refl _).put _)
    have HL3 := Lib.hid (gtrans HG2.out (gtrans hg3 HP.out))
    have HX3 : Hid (RA (w3.alloc (.cells #[.int .i64 R.g, .int .i64 R.c, .int .i64 R.m, .slice p1 n1 q1] 26)) w3.heap.size #[.int .i64 R.g, .int .i64 R.c, .int .i64 R.m, .slice p1 n1 q1] 26) := Lib.hid (RA.new w3 _ _)
    have HY3 := Lib.hid (hy.later HP.out)
    clear hy hg3 hn1
    by_cases hE : E = 0
    · obtain ⟨hm, hf, hco⟩ := HD.out hE
      subst hE
      have K := Lib.hid (fun W (g : Later w W) v (h : Rk W v R) => pcode_yes R v W h hm hf (HLL.out.grown g))
      rw [hco] at K
      have KB := Lib.hid (fun W u v (hu : Sk .u8 W u bs) (hv : Sk .u8 W v bs) => bsame_yes bs u v W hu hv)
      clear hm hf hco
      go_wp2_with fail
      refine (K.out _ HL3.out _ ⟨_, rfl, HY3.out⟩).mono ?_
      rintro e w4 ⟨c, rfl, hc, hg4⟩
      obtain ⟨ac, kc, rfl, _⟩ := hc.len
      have HC := Lib.hid hc
      have HL4 := Lib.hid (gtrans HL3.out hg4)
      clear hc hg4
      go_wp2_with fail
      refine (A.out _ HL4.out).mono ?_
      rintro e w5 ⟨rfl, hg5⟩
      have HL5 := Lib.hid (gtrans HL4.out hg5)
      have HC5 := Lib.hid (HC.out.later hg5)
      clear hg5
      go_wp2_with fail
      refine (KB.out _ _ _ (HS.out.later HL5.out) HC5.out).mono ?_
      rintro e w6 ⟨rfl, hg6⟩
      go_wp2_with fail
      go_ret
      exact ⟨rfl, gtrans HL5.out hg6⟩
    · have hz := HZ.out hE
      have t2 : (E != 0) = true := by simpa using hE
      subst hz
      have KT := Lib.hid (fun W u v (h1 : Rk W u r0) (h2 : Rk W v r0) => rsame_any r0 r0 u v W h1 h2)
      rw [sm_self] at KT
      clear hE
      go_wp2_with fail
      refine (A.out _ HL3.out).mono ?_
      rintro e w5 ⟨rfl, hg5⟩
      have HL5 := Lib.hid (gtrans HL3.out hg5)
      have HY5 := Lib.hid (HY3.out.later hg5)
      have b0 := (HX3.out.later hg5).cell 0 _ rfl; have b1 := (HX3.out.later hg5).cell 1 _ rfl; have b2 := (HX3.out.later hg5).cell 2 _ rfl; have b3 := (HX3.out.later hg5).cell 3 _ rfl
      clear hg5
      go_wp2_with fail
      clear b0 b1 b2 b3
      refine (KT.out _ _ _ ⟨_, rfl, HY5.out⟩ (rk_zero _)).mono ?_
      rintro e w6 ⟨rfl, hg6⟩
      go_wp2_with fail
      go_ret
      exact ⟨rfl, gtrans HL5.out hg6⟩

end Go.Proofs.YtdljmpaabpkmkaaDoor.Fls
