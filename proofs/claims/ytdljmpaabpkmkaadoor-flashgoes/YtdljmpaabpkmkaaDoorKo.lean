/-
  What Seal and Open answer, by the program and by the document's reckoning. Conditions: the table lies where the program lays it; the bytes are bytes, and at most 20000.
-/
import Derived.Test.YtdljmpaabpkmkaaDoorKm
import Derived.ArgAppend
import Derived.Laws.Cover3
namespace Go.Proofs.YtdljmpaabpkmkaaDoor.Crc
open Go.ChangeShapes Go.WideShapes Go.ChangeAt Go.RowKit
open Go.Proofs.YtdljmpaabpkmkaaDoor.Divs Go.Proofs.YtdljmpaabpkmkaaDoor.Grow Go.Proofs.YtdljmpaabpkmkaaDoor.By Go.Proofs.YtdljmpaabpkmkaaDoor.Cr

/-- A slice cut at its end, and its room with it. -/
theorem cut_hm {bs : List Int} {v : Value} {w : World} (hs : Sk .u8 w v bs) (h : Nat) (hh : h ≤ bs.length) :
    ∃ ad cap, v = .slice ad bs.length cap ∧ (∀ W : World, (Instr.slice 22 (.slice ad bs.length cap) none (some (.int .i64 (h : Int))) (some (.int .i64 (h : Int)))).run Tryd.prog W = .ok (.slice ad h h) W) ∧ Sk .u8 w (.slice ad h h) (bs.take h) := by
  obtain ⟨ad, cap, rfl, h1, h2, h3, h4⟩ := hs
  refine ⟨ad, cap, rfl, fun W => ?_, ?_⟩
  · have := run_slice_hm (P := Tryd.prog) W 22 ad bs.length cap (by kernel_rfl) .i64 .i64 h h (by omega) (by omega) (by omega)
    rw [this]
    go_simp
  · refine ⟨ad, h, ?_, by rw [List.length_take]; omega, by omega, fun e => by have := h3 e; omega, ?_⟩
    · rw [show (bs.take h).length = h by rw [List.length_take]; omega]
    · intro i x hx
      have hi : i < h := by
        have := (List.getElem?_eq_some_iff.1 hx).1
        rw [List.length_take] at this
        omega
      rw [List.getElem?_take_of_lt hi] at hx
      exact h4 i x hx

/-- Bytes appended to a slice without room: new memory. -/
theorem append_full {w : World} {ops : Array Oper} {rest : List Oper} {o : Oper} {a : Act} {Q : Exit → Act → World → Prop} (hgd : o.guard = none) (s x : Operand)
    (ho : o.op = .call { callee := .builtin .append, args := #[s, x], argTypes := #[22, 22] })
    (ad : Option Addr) (n : Nat) (xs : List Int) (hn : xs.length = n) (hs : a.eval s = .slice ad n n) (hk : Sk .u8 w (.slice ad n n) xs)
    (u : Value) (ys : List Int) (hx : a.eval x = u) (hy : Sk .u8 w u ys) (hp : 0 < ys.length) (hb : xs.length + ys.length ≤ 100000)
    (h : ∀ v' w', SL .u8 5 w' w.heap.size v' (xs ++ ys) → Later w w' → wpList Tryd.prog ops Q rest (a.put o.dst v') w') : wpList Tryd.prog ops Q (o :: rest) a w := by
  subst hn
  obtain ⟨i0, hi, hz0, hz1, hz2⟩ := info_parts info_byte
  rcases hy.src with ⟨_, rfl⟩ | ⟨ad2, cap2, rfl, hc⟩
  · simp at hp
  · refine wpList_append_grows w hgd s x 22 ho 5 i0 (.int .u8 0) 1 1 Tryd.underlying22 hi hz0 hz1 hz2 rfl (by decide) ad xs.length xs.length (xs.map (Value.int .u8)) hs ?_ (by simp) ?_ ad2 ys.length cap2 (ys.map (Value.int .u8)) hx (by simp) hc (by intro u hu; obtain ⟨y, _, rfl⟩ := List.mem_map.1 hu; rfl) (by omega) (by simp only [maxLen]; omega) (by omega) ?_
    · intro e
      obtain ⟨ad', cap', e', _, _, h3, _⟩ := hk
      simp only [Value.slice.injEq] at e'
      obtain ⟨rfl, _, rfl⟩ := e'
      have := h3 e
      omega
    · intro b e j u hu
      subst e
      rcases hk.src with ⟨e', _⟩ | ⟨a', cap', e', hc'⟩
      · simp at e'
      · simp only [Value.slice.injEq, Option.some.injEq] at e'
        obtain ⟨rfl, _, _⟩ := e'
        exact hc' j u hu
    · intro v' w' h1 h2
      refine h v' w' ?_ (Later.of_grownBy h2)
      unfold SL
      rw [List.length_append, List.map_append]
      exact h1

theorem seal_any (xs : List Int) (v : Value) (w : World) (hs : Sk .u8 w v xs) (hb : ∀ x ∈ xs, 0 ≤ x ∧ x ≤ 255) (hn : xs.length ≤ 20000) (hL : Laid w) :
    Calls Tryd.prog 30 #[v] w fun e w' => ∃ u, e = .returned u ∧ SL .u8 5 w' w.heap.size u (se xs) ∧ Later w w' := by
  obtain ⟨ad, cap, rfl, sl, hc⟩ := cut_hm hs xs.length (Nat.le_refl _)
  rw [List.take_length] at hc
  have S := Lib.hid (sum_any xs _ w hc hb hL)
  have HC := Lib.hid hc
  obtain ⟨n0, n1⟩ := sn_bd (mo st xs)
  have HN := Lib.hid hn
  have HE : Hid (se xs = xs ++ [sn (mo st xs) / 256, sn (mo st xs) % 256]) := Lib.hid rfl
  generalize sn (mo st xs) = m at *
  clear hs hc hb
  go_enter Tryd.func30, Tryd.ntmps30
  go_wp2_with fail
  refine S.out.mono ?_
  rintro e w' ⟨rfl, rfl⟩
  go_wp2_with (at_builtin; refine append_full rfl (.tmp 13) (.tmp 19) rfl ad xs.length xs rfl rfl (HC.out.later ((Later.refl w).put _)) _ [m / 256, m % 256] rfl (sk_new .u8 5 [m / 256, m % 256] w (by simp)) (by simp) (by have := HN.out; simp; omega) ?_; intro v2 w2 ho2 hg2; have HO2 := Lib.hid ho2; have HG2 := Lib.hid (gtrans ((Later.refl w).put _) hg2); clear ho2 hg2)
  go_ret
  refine ⟨_, rfl, ?_, HG2.out⟩
  rw [HE.out]
  exact HO2.out.base (by simp)

theorem eql_nil (a : Option Addr) (l c : Nat) : ∀ W : World, (binOp .eql 22 (.slice a l c) (.slice none 0 0)).run Tryd.prog W = .ok (.bool a.isNone) W := by
  intro W
  simp only [binOp]
  simp [run_equal_slice_nil W 22 _ a l c Tryd.underlying22]

theorem clone_any (xs : List Int) (v : Value) (w : World) (hs : Sk .u8 w v xs) (hn : xs.length ≤ 20000) :
    Calls Tryd.prog 37 #[v] w fun e w' => ∃ u, e = .returned u ∧ Sk .u8 w' u xs ∧ Later w w' := by
  have HS := Lib.hid hs
  have HN := Lib.hid hn
  rcases hs.src with ⟨rfl, rfl⟩ | ⟨ad, cap, rfl, _⟩
  · have q := eql_nil none 0 0
    clear hs
    go_enter Tryd.func37, Tryd.ntmps37
    go_wp2
    go_ret
    exact ⟨_, rfl, sk_nil _ _, Later.refl w⟩
  · have q := eql_nil (some ad) xs.length cap
    clear hs
    go_enter Tryd.func37, Tryd.ntmps37
    go_wp2_with (at_builtin; refine append_sk rfl (.tmp 5) (.tmp 6) rfl w ((Later.refl w).put _) _ [] rfl (SL.made w _ (Later.refl w)) _ xs rfl (HS.out.later ((Later.refl w).put _)) (by have := HN.out; simp; omega) ?_; intro v2 w2 ho2 hg2; have HO2 := Lib.hid ho2; have HG2 := Lib.hid hg2; clear ho2 hg2)
    go_ret
    exact ⟨_, rfl, by have := HO2.out.sk; simpa using this, HG2.out⟩

theorem ret_two {u : Value} {a b : Int} (h : a = b) : Ending.returned (.tuple #[u, .int .i64 a]) = .returned (.tuple #[u, .int .i64 b]) := by rw [h]

set_option maxHeartbeats 1000000 in
theorem open_any (xs : List Int) (v : Value) (w : World) (hs : Sk .u8 w v xs) (hb : ∀ x ∈ xs, 0 ≤ x ∧ x ≤ 255) (hn : xs.length ≤ 20000) (hL : Laid w) :
    Calls Tryd.prog 35 #[v] w fun e w' => ∃ u, e = .returned (.tuple #[u, .int .i64 (op xs).2]) ∧ Sk .u8 w' u (op xs).1 ∧ Later w w' := by
  by_cases hl : xs.length < 2
  · have e : op xs = ([], 90) := by unfold op; rw [if_pos hl]
    rw [e]
    obtain ⟨ad, cap, rfl, hm⟩ := hs.len
    clear hs hb e
    go_enter Tryd.func35, Tryd.ntmps35
    go_wp2
    go_ret2
    exact ⟨_, rfl, sk_nil _ _, Later.refl w⟩
  · obtain ⟨p, x, y, e, hp, hx, hy⟩ := two_last xs (by omega)
    have bx := hb x (List.mem_of_getElem? hx)
    have by' := hb y (List.mem_of_getElem? hy)
    obtain ⟨k, hk⟩ : ∃ k, xs.length = k + 2 := ⟨xs.length - 2, by omega⟩
    rw [hk, show k + 2 - 2 = k by omega] at hx hp
    rw [hk, show k + 2 - 1 = k + 1 by omega] at hy
    have O := op_two p x y bx by'
    rw [← e] at O
    obtain ⟨ad, cap, rfl, sl, hc⟩ := cut_hm hs k (by omega)
    rw [← hp] at hc
    have hpb : ∀ z ∈ p, 0 ≤ z ∧ z ≤ 255 := fun z hz => hb z (by rw [hp] at hz; exact List.mem_of_mem_take hz)
    have A := Lib.hid (sumat_any xs k x y _ w hs hx hy bx by')
    have S := Lib.hid (fun W (h : Later w W) => sum_any p _ W (hc.later h) hpb (hL.grown h))
    have hpn : p.length ≤ 20000 := by rw [hp, List.length_take]; omega
    have C := Lib.hid (fun W (h : Later w W) => clone_any p _ W (hc.later h) hpn)
    rw [hk] at A sl ⊢
    clear hs hc hpb hp hx hy e hb hpn
    by_cases hq : x * 256 + y = sn (mo st p)
    · rw [if_pos (by rw [hq]; rfl)] at O
      rw [O]
      rw [hq] at A
      generalize sn (mo st p) = m at *
      have t : (m != m) = false := by simp
      clear O hq bx by'
      go_enter Tryd.func35, Tryd.ntmps35
      go_wp2_with fail
      refine A.out.mono ?_
      rintro e w1 ⟨rfl, hg1⟩
      go_wp2_with fail
      refine (S.out _ hg1).mono ?_
      rintro e w2 ⟨rfl, rfl⟩
      go_wp2_with fail
      refine (C.out _ hg1).mono ?_
      rintro e w3 ⟨u, rfl, hu, hg3⟩
      go_wp2_with fail
      go_ret2
      exact ⟨_, rfl, hu, gtrans hg1 hg3⟩
    · rw [if_neg (fun h => hq (by rw [← h]; rfl))] at O
      rw [O]
      generalize sn (mo st p) = m at *
      generalize x * 256 + y = q at *
      have t : (q != m) = true := by simpa using hq
      clear O hq bx by'
      go_enter Tryd.func35, Tryd.ntmps35
      go_wp2_with fail
      refine A.out.mono ?_
      rintro e w1 ⟨rfl, hg1⟩
      go_wp2_with fail
      refine (S.out _ hg1).mono ?_
      rintro e w2 ⟨rfl, rfl⟩
      go_wp2_with fail
      go_ret2
      exact ⟨_, rfl, sk_nil _ _, hg1⟩

theorem rseal_any (xs : List Int) (v : Value) (w : World) (hs : Sk .u8 w v xs) (hb : ∀ x ∈ xs, 0 ≤ x ∧ x ≤ 255) (hn : xs.length ≤ 20000) :
    Calls Tryd.prog 40 #[v] w fun e w' => ∃ u, e = .returned u ∧ Sk .u8 w' u (se xs) ∧ Later w w' := by
  have S := Lib.hid (rmore_any 65535 xs _ w hs hb)
  rw [show b16 65535 = st by decide] at S
  have HS := Lib.hid hs
  obtain ⟨n0, n1⟩ := sn_bd (mo st xs)
  have HN := Lib.hid hn
  have HE : Hid (se xs = xs ++ [sn (mo st xs) / 256, sn (mo st xs) % 256]) := Lib.hid rfl
  generalize sn (mo st xs) = m at *
  clear hs hb
  go_enter Tryd.func40, Tryd.ntmps40
  go_wp2_with fail
  refine S.out.mono ?_
  rintro e w' ⟨rfl, rfl⟩
  go_wp2_with (first | (at_builtin; refine append_sk rfl (.tmp 7) (.tmp 8) rfl w (Later.refl w) _ [] rfl (SL.nil _ _ _ _) _ xs rfl HS.out (by have := HN.out; simp; omega) ?_; intro v2 w2 ho2 hg2; have HO2 := Lib.hid ho2; have HG2 := Lib.hid hg2; clear ho2 hg2) | (at_builtin; refine append_sk rfl (.tmp 10) (.tmp 17) rfl w (HG2.out.put _) _ _ rfl (HO2.out.later ((Later.refl _).put _)) _ [m / 256, m % 256] rfl (sk_new .u8 5 [m / 256, m % 256] w2 (by simp)) (by have := HN.out; simp; omega) ?_; intro v3 w3 ho3 hg3; have HO3 := Lib.hid ho3; have HG3 := Lib.hid hg3; clear ho3 hg3))
  go_ret
  refine ⟨_, rfl, ?_, HG3.out⟩
  rw [HE.out]
  have := HO3.out.sk
  simpa using this

end Go.Proofs.YtdljmpaabpkmkaaDoor.Crc
