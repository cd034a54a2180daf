/-
  What Open answers by the document's reckoning. Conditions: the bytes are bytes.
-/
import Derived.Test.YtdljmpaabpkmkaaDoorKo
namespace Go.Proofs.YtdljmpaabpkmkaaDoor.Crc
open Go.ChangeShapes Go.WideShapes Go.ChangeAt Go.RowKit
open Go.Proofs.YtdljmpaabpkmkaaDoor.Divs Go.Proofs.YtdljmpaabpkmkaaDoor.Grow Go.Proofs.YtdljmpaabpkmkaaDoor.By Go.Proofs.YtdljmpaabpkmkaaDoor.Cr

set_option maxHeartbeats 1000000 in
theorem ropen_any (xs : List Int) (v : Value) (w : World) (hs : Sk .u8 w v xs) (hb : ∀ x ∈ xs, 0 ≤ x ∧ x ≤ 255) :
    Calls Tryd.prog 43 #[v] w fun e w' => ∃ u, e = .returned (.tuple #[u, .int .i64 (op xs).2]) ∧ Sk .u8 w' u (op xs).1 ∧ Later w w' := by
  by_cases hl : xs.length < 2
  · have e : op xs = ([], 90) := by unfold op; rw [if_pos hl]
    rw [e]
    obtain ⟨ad, cap, rfl, hm⟩ := hs.len
    clear hs hb e
    go_enter Tryd.func43, Tryd.ntmps43
    go_wp2
    go_ret2
    exact ⟨_, rfl, sk_nil _ _, Later.refl w⟩
  · obtain ⟨p, x, y, e, hp, hx, hy⟩ := two_last xs (by omega)
    obtain ⟨bx0, bx1⟩ := hb x (List.mem_of_getElem? hx)
    obtain ⟨by0, by1⟩ := hb y (List.mem_of_getElem? hy)
    obtain ⟨k, hk⟩ : ∃ k, xs.length = k + 2 := ⟨xs.length - 2, by omega⟩
    rw [hk, show k + 2 - 2 = k by omega] at hx hp
    rw [hk, show k + 2 - 1 = k + 1 by omega] at hy
    have O := op_two p x y ⟨bx0, bx1⟩ ⟨by0, by1⟩
    rw [← e] at O
    obtain ⟨b, off, cap, rfl, m1, m2, _, hc⟩ := hs.has (by omega)
    have c1 := hc k (by omega)
    rw [List.getD_eq_getElem?_getD, hx, Option.getD_some] at c1
    have c2 := hc (k + 1) (by omega)
    rw [List.getD_eq_getElem?_getD, hy, Option.getD_some] at c2
    obtain ⟨ad', cap', u, ev, sl, hu⟩ := cut_h hs k (by omega)
    simp only [Value.slice.injEq] at ev
    obtain ⟨rfl, _, rfl⟩ := ev
    rw [← hp] at hu
    have hpb : ∀ z ∈ p, 0 ≤ z ∧ z ≤ 255 := fun z hz => hb z (by rw [hp] at hz; exact List.mem_of_mem_take hz)
    have S := Lib.hid (rmore_any 65535 p _ w hu hpb)
    rw [show b16 65535 = st by decide] at S
    have HU := Lib.hid hu
    obtain ⟨n0, n1⟩ := sn_bd (mo st p)
    rw [show ((mo st p).toNat : Int) = sn (mo st p) from rfl] at O
    rw [hk] at sl m1 ⊢
    generalize sn (mo st p) = m at *
    clear hs hc hu hpb hp hx hy e hb
    by_cases hq : x = m / 256
    · by_cases hr : y = m % 256
      · rw [if_pos (by omega)] at O
        rw [O]
        have t1 : (x != m / 256) = false := by simpa using hq
        have t2 : (y != m % 256) = false := by simpa using hr
        clear O hq hr
        go_enter Tryd.func43, Tryd.ntmps43
        go_wp2_with fail
        refine S.out.mono ?_
        rintro e w1 ⟨rfl, rfl⟩
        go_wp2_with fail
        go_ret2
        exact ⟨_, rfl, HU.out, Later.refl w⟩
      · rw [if_neg (by omega)] at O
        rw [O]
        have t1 : (x != m / 256) = false := by simpa using hq
        have t2 : (y != m % 256) = true := by simpa using hr
        clear O hq hr
        go_enter Tryd.func43, Tryd.ntmps43
        go_wp2_with fail
        refine S.out.mono ?_
        rintro e w1 ⟨rfl, rfl⟩
        go_wp2_with fail
        go_ret2
        exact ⟨_, rfl, sk_nil _ _, Later.refl w⟩
    · rw [if_neg (by omega)] at O
      rw [O]
      have t1 : (x != m / 256) = true := by simpa using hq
      clear O hq
      go_enter Tryd.func43, Tryd.ntmps43
      go_wp2_with fail
      refine S.out.mono ?_
      rintro e w1 ⟨rfl, rfl⟩
      go_wp2_with fail
      go_ret2
      exact ⟨_, rfl, sk_nil _ _, Later.refl w⟩

end Go.Proofs.YtdljmpaabpkmkaaDoor.Crc
