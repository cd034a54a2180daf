/-
  What Open answers by the document's reckoning; and the chapter's example, played by the program. Conditions: the table lies where the program lays it; the bytes are bytes, and at most 1000.
-/
import Derived.Test.YtbelhaaibieehaaDoorCo
namespace Go.Proofs.YtbelhaaibieehaaDoor.Crc
open Go.ChangeShapes Go.WideShapes Go.ChangeAt Go.RowKit
open Go.Proofs.YtbelhaaibieehaaDoor.Divs Go.Proofs.YtbelhaaibieehaaDoor.Grow Go.Proofs.YtbelhaaibieehaaDoor.By Go.Proofs.YtbelhaaibieehaaDoor.Cr

set_option maxHeartbeats 1000000 in
theorem ropen_any (xs : List Int) (v : Value) (w : World) (hs : Sk .u8 w v xs) (hb : ∀ x ∈ xs, 0 ≤ x ∧ x ≤ 255) :
    Calls Tryd.prog 14 #[v] w fun e w' => ∃ u, e = .returned (.tuple #[u, .int .i64 (op xs).2]) ∧ Sk .u8 w' u (op xs).1 ∧ Later w w' := by
  by_cases hl : xs.length < 2
  · have e : op xs = ([], 90) := by unfold op; rw [if_pos hl]
    rw [e]
    obtain ⟨ad, cap, rfl, hm⟩ := hs.len
    clear hs hb e
    go_enter Tryd.func14, Tryd.ntmps14
    go_wp2
    go_ret2
    exact ⟨_, rfl, sk_nil _ _, Later.refl w⟩
  · obtain ⟨p, x, y, e, hp, hx, hy⟩ := two_last xs (by omega)
    obtain ⟨bx0, bx1⟩ := hb x (List.mem_of_getElem? hx)
    obtain ⟨by0, by1⟩ := hb y (List.mem_of_getElem? hy)
    obtain ⟨k, hk⟩ : ∃ k, xs.length = k + 2 := ⟨xs.length - 2, by omega⟩
    rw [hk, show k + 2 - 2 = k by omega] at hx hp
    rw [hk, show k + 2 - 1 = k + 1 by omega] at hy
    have O := op_two p x y ⟨bx0, bx1⟩ ⟨by0, by1⟩
    rw [← e] at O
    obtain ⟨b, off, cap, rfl, m1, m2, _, hc⟩ := hs.has (by omega)
    have c1 := hc k (by omega)
    rw [List.getD_eq_getElem?_getD, hx, Option.getD_some] at c1
    have c2 := hc (k + 1) (by omega)
    rw [List.getD_eq_getElem?_getD, hy, Option.getD_some] at c2
    obtain ⟨ad', cap', u, ev, sl, hu⟩ := cut_h hs k (by omega)
    simp only [Value.slice.injEq] at ev
    obtain ⟨rfl, _, rfl⟩ := ev
    rw [← hp] at hu
    have hpb : ∀ z ∈ p, 0 ≤ z ∧ z ≤ 255 := fun z hz => hb z (by rw [hp] at hz; exact List.mem_of_mem_take hz)
    have S := Lib.hid (rmore_any 65535 p _ w hu hpb)
    rw [show b16 65535 = st by decide] at S
    have HU := Lib.hid hu
    obtain ⟨n0, n1⟩ := sn_bd (mo st p)
    rw [show ((mo st p).toNat : Int) = sn (mo st p) from rfl] at O
    rw [hk] at sl m1 ⊢
    generalize sn (mo st p) = m at *
    clear hs hc hu hpb hp hx hy e hb
    by_cases hq : x = m / 256
    · by_cases hr : y = m % 256
      · rw [if_pos (by omega)] at O
        rw [O]
        have t1 : (x != m / 256) = false := by simpa using hq
        have t2 : (y != m % 256) = false := by simpa using hr
        clear O hq hr
        go_enter Tryd.func14, Tryd.ntmps14
        go_wp2_with fail
        refine S.out.mono ?_
        rintro e w1 ⟨rfl, rfl⟩
        go_wp2_with fail
        go_ret2
        exact ⟨_, rfl, HU.out, Later.refl w⟩
      · rw [if_neg (by omega)] at O
        rw [O]
        have t1 : (x != m / 256) = false := by simpa using hq
        have t2 : (y != m % 256) = true := by simpa using hr
        clear O hq hr
        go_enter Tryd.func14, Tryd.ntmps14
        go_wp2_with fail
        refine S.out.mono ?_
        rintro e w1 ⟨rfl, rfl⟩
        go_wp2_with fail
        go_ret2
        exact ⟨_, rfl, sk_nil _ _, Later.refl w⟩
    · rw [if_neg (by omega)] at O
      rw [O]
      have t1 : (x != m / 256) = true := by simpa using hq
      clear O hq
      go_enter Tryd.func14, Tryd.ntmps14
      go_wp2_with fail
      refine S.out.mono ?_
      rintro e w1 ⟨rfl, rfl⟩
      go_wp2_with fail
      go_ret2
      exact ⟨_, rfl, sk_nil _ _, Later.refl w⟩

theorem ex_open : op [49, 50, 51, 52, 53, 54, 55, 56, 57, 41, 177] = ([49, 50, 51, 52, 53, 54, 55, 56, 57], 0) := by decide +kernel

theorem ex_sum : sn (mo st [49, 50, 51, 52, 53, 54, 55, 56, 57]) = 10673 := by decide +kernel

theorem ex1 (W : World) (hL : Laid W) : Calls Tryd.prog 13 #[.slice (some ⟨W.heap.size, 0, none⟩) 11 11] (W.alloc (.cells #[.int .u8 49, .int .u8 50, .int .u8 51, .int .u8 52, .int .u8 53, .int .u8 54, .int .u8 55, .int .u8 56, .int .u8 57, .int .u8 41, .int .u8 177] 5)) fun e w' => ∃ u, e = .returned (.tuple #[u, .int .i64 0]) ∧ Sk .u8 w' u [49, 50, 51, 52, 53, 54, 55, 56, 57] ∧ Later W w' := by
  have := open_any [49, 50, 51, 52, 53, 54, 55, 56, 57, 41, 177] _ _ (sk_new .u8 5 [49, 50, 51, 52, 53, 54, 55, 56, 57, 41, 177] W (by decide)) (by decide) (by decide) (hL.grown ((Later.refl W).put _))
  rw [ex_open] at this
  exact this.mono fun e w' ⟨u, h1, h2, h3⟩ => ⟨u, h1, h2, gtrans ((Later.refl W).put _) h3⟩

theorem ex2 (W : World) (hL : Laid W) : Calls Tryd.prog 12 #[.slice (some ⟨W.heap.size, 0, none⟩) 9 9] (W.alloc (.cells #[.int .u8 49, .int .u8 50, .int .u8 51, .int .u8 52, .int .u8 53, .int .u8 54, .int .u8 55, .int .u8 56, .int .u8 57] 5)) fun e w' => e = .returned (.int .i64 10673) ∧ Later W w' := by
  have := sum_any [49, 50, 51, 52, 53, 54, 55, 56, 57] _ _ (sk_new .u8 5 [49, 50, 51, 52, 53, 54, 55, 56, 57] W (by decide)) (by decide) (hL.grown ((Later.refl W).put _))
  rw [ex_sum] at this
  exact this.mono fun e w' ⟨h1, h2⟩ => ⟨h1, h2 ▸ (Later.refl W).put _⟩

set_option maxHeartbeats 1000000 in
theorem awake_any (w : World) (hL : Laid w) : Calls Tryd.prog 9 #[] w fun e w' => e = .returned (.bool true) ∧ Later w w' := by
  have O := Lib.hid ex1
  have S := Lib.hid ex2
  have E := Lib.hid (fun W (h : Laid W) => seal_any [] (.slice none 0 0) W (sk_nil _ _) (by simp) (by simp) h)
  have HL := Lib.hid hL
  clear hL
  go_enter Tryd.func9, Tryd.ntmps9
  go_wp2_with fail
  refine (O.out _ HL.out).mono ?_
  rintro e w1 ⟨u, rfl, hu, hg1⟩
  obtain ⟨ad, cap, rfl, _⟩ := hu.len
  have HG1 := Lib.hid hg1
  clear hg1 hu
  go_wp2_with fail
  refine (S.out _ (HL.out.grown HG1.out)).mono ?_
  rintro e w2 ⟨rfl, hg2⟩
  have HG2 := Lib.hid (gtrans HG1.out hg2)
  clear hg2
  go_wp2_with fail
  refine (E.out _ (HL.out.grown HG2.out)).mono ?_
  rintro e w3 ⟨v, rfl, hv, hg3⟩
  have HG3 := Lib.hid (gtrans HG2.out hg3)
  obtain ⟨ad3, cap3, rfl, _⟩ := hv.sk.len
  clear hg3 hv
  rw [se_len]
  go_wp2_with fail
  go_ret
  exact ⟨rfl, HG3.out⟩

end Go.Proofs.YtbelhaaibieehaaDoor.Crc
