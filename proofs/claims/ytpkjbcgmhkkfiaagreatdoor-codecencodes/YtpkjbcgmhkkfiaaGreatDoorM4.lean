/-
  Texts of mine, merged: each part says what it holds. Conditions: as each theorem states.
-/
import Derived.Deep.RegionLawGrows
import Derived.Test.YtpkjbcgmhkkfiaaGreatDoorM3

/- The document's rows, by the reference. Conditions: as each theorem states. -/
namespace Go.Proofs.YtpkjbcgmhkkfiaaGreatDoor.Cod
set_option maxRecDepth 100000
set_option linter.unusedVariables false
open Go.ChangeShapes Go.WideShapes Go.ChangeAt Go.RowKit
open Go.Proofs.YtpkjbcgmhkkfiaaGreatDoor.Divs Go.Proofs.YtpkjbcgmhkkfiaaGreatDoor.Grow Go.Proofs.YtpkjbcgmhkkfiaaGreatDoor.Zone
open Go.Proofs.YtpkjbcgmhkkfiaaGreatDoor.By (Sk SL)
open Go.Proofs.YtpkjbcgmhkkfiaaGreatDoor.Each
open Go.Proofs.YtpkjbcgmhkkfiaaGreatDoor.Zo Go.Proofs.YtpkjbcgmhkkfiaaGreatDoor.Su Go.Proofs.YtpkjbcgmhkkfiaaGreatDoor.Cf Go.Proofs.YtpkjbcgmhkkfiaaGreatDoor.Conf

/-- Numbers that have just been laid. -/
theorem sl_new (W : World) (b : Nat) (hb : b ≤ W.heap.size) (xs : List Int) (hn : xs.length ≤ 1000) : SL .i64 3 (W.alloc (.cells (xs.map (Value.int .i64)).toArray 3)) b (.slice (some ⟨W.heap.size, 0, none⟩) xs.length xs.length) xs := by
  refine ⟨by rw [List.length_map, Nat.mul_one], .inr ⟨W.heap.size, xs.length, (xs.map (Value.int .i64)).toArray, rfl, hb, heap_alloc_new _ _, Nat.le_refl _, by first | omega | (simp only [maxLen]; omega), ?_, ?_⟩⟩
  · simp
  · rw [Nat.mul_one]; exact List.take_of_length_le (by simp)

theorem turn_any (a b c d : Int) (w : World) : Calls Tryz.prog 50 #[.agg #[.int .i64 a, .int .i64 b, .int .i64 c, .int .i64 d]] w fun e w' => ∃ u, e = .returned u ∧ SL .i64 3 w' w.heap.size u [a, b, c, d] ∧ Later w w' := by
  go_enter Tryz.func50, Tryz.ntmps50
  go_wp2_with fail
  go_ret
  have h := sl_new (w.alloc (.cells #[.int .i64 a, .int .i64 b, .int .i64 c, .int .i64 d] 26)) w.heap.size (by rw [World.size_alloc]; omega) [a, b, c, d] (by simp)
  rw [World.size_alloc] at h
  exact ⟨_, rfl, h, ((Later.refl w).put _).put _⟩

/-- The cells of a configuration. -/
structure Cs (C : Array Value) (c : Cg) (u v : Value) : Prop where
  size : C.size = 37
  u3 : C[3]? = some u
  v36 : C[36]? = some v
  b35 : C[35]? = some (.bool c.ab)
  c0 : C[0]? = some (.int .i64 c.f)
  c1 : C[1]? = some (.int .i64 c.n)
  c2 : C[2]? = some (.int .i64 c.p)
  c4 : C[4]? = some (.int .i64 c.t)
  c5 : C[5]? = some (.int .i64 c.l)
  c6 : C[6]? = some (.int .i64 c.o)
  c7 : C[7]? = some (.int .i64 c.d)
  c8 : C[8]? = some (.int .i64 c.e)
  c9 : C[9]? = some (.int .i64 c.c)
  c10 : C[10]? = some (.int .i64 c.h)
  c11 : C[11]? = some (.int .i64 c.r)
  c12 : C[12]? = some (.int .i64 c.q)
  c13 : C[13]? = some (.int .i64 c.z.b)
  c14 : C[14]? = some (.int .i64 c.z.s)
  c15 : C[15]? = some (.int .i64 c.z.p.m)
  c16 : C[16]? = some (.int .i64 c.z.p.k)
  c17 : C[17]? = some (.int .i64 c.z.p.v)
  c18 : C[18]? = some (.int .i64 c.z.p.u)
  c19 : C[19]? = some (.int .i64 c.z.q.m)
  c20 : C[20]? = some (.int .i64 c.z.q.k)
  c21 : C[21]? = some (.int .i64 c.z.q.v)
  c22 : C[22]? = some (.int .i64 c.z.q.u)
  c23 : C[23]? = some (.int .i64 (c.s 0))
  c24 : C[24]? = some (.int .i64 (c.s 1))
  c25 : C[25]? = some (.int .i64 (c.s 2))
  c26 : C[26]? = some (.int .i64 (c.s 3))
  c27 : C[27]? = some (.int .i64 (c.s 4))
  c28 : C[28]? = some (.int .i64 (c.s 5))
  c29 : C[29]? = some (.int .i64 (c.s 6))
  c30 : C[30]? = some (.int .i64 (c.s 7))
  c31 : C[31]? = some (.int .i64 (c.s 8))
  c32 : C[32]? = some (.int .i64 (c.s 9))
  c33 : C[33]? = some (.int .i64 (c.s 10))
  c34 : C[34]? = some (.int .i64 (c.s 11))

theorem Cs.sun {C : Array Value} {c : Cg} {u v : Value} (h : Cs C c u v) (k : Nat) (hk : k < 12) : C[23 + k]? = some (.int .i64 (c.s k)) := by
  have : k = 0 ∨ k = 1 ∨ k = 2 ∨ k = 3 ∨ k = 4 ∨ k = 5 ∨ k = 6 ∨ k = 7 ∨ k = 8 ∨ k = 9 ∨ k = 10 ∨ k = 11 := by omega
  rcases this with rfl | rfl | rfl | rfl | rfl | rfl | rfl | rfl | rfl | rfl | rfl | rfl
  · exact h.c23
  · exact h.c24
  · exact h.c25
  · exact h.c26
  · exact h.c27
  · exact h.c28
  · exact h.c29
  · exact h.c30
  · exact h.c31
  · exact h.c32
  · exact h.c33
  · exact h.c34

theorem r5_on (s : Nat → Int) (k : Nat) (hk : k < 12) : (Ka.r5 s).take (k + 1) = (Ka.r5 s).take k ++ [s k] := by
  have : k = 0 ∨ k = 1 ∨ k = 2 ∨ k = 3 ∨ k = 4 ∨ k = 5 ∨ k = 6 ∨ k = 7 ∨ k = 8 ∨ k = 9 ∨ k = 10 ∨ k = 11 := by omega
  rcases this with rfl | rfl | rfl | rfl | rfl | rfl | rfl | rfl | rfl | rfl | rfl | rfl <;> rfl

def MRel (s : Nat → Int) (w : World) (v i : Value) (wr : World) : Prop :=
  ∃ k : Nat, k ≤ 12 ∧ i = .int .i64 (k : Int) ∧ SL .i64 3 wr w.heap.size v ((Ka.r5 s).take k) ∧ Later w wr

theorem cs_cc (c : Cg) (u v : Value) : Cs (cc c u v) c u v := by
  constructor <;> rfl

/-- Numbers appended to a full slice of numbers: it is laid anew. -/
theorem wp_append_full {o : Oper} {a : Act} {W : World} {K : Act → World → Prop} {Q : Exit → Act → World → Prop} (hg : o.guard = none) (s x : Operand) (ho : o.op = .call { callee := .builtin .append, args := #[s, x], argTypes := #[22, 22] })
    (g n : Nat) (xs : List Int) (hn : xs.length = n) (hs : a.eval s = .slice (some ⟨g, 0, none⟩) n n) (hk : Sk .i64 W (.slice (some ⟨g, 0, none⟩) n n) xs) (u : Value) (ys : List Int) (hx : a.eval x = u) (hy : Sk .i64 W u ys) (hp : 0 < ys.length) (hb : xs.length + ys.length ≤ 1000)
    (h : ∀ v' w', SL .i64 3 w' W.heap.size v' (xs ++ ys) → Later W w' → K (a.put o.dst v') w') : Oper.wp Tryz.prog o a W K Q := by
  subst hn
  obtain ⟨i0, hi, hz0, hz1, hz2⟩ := info_parts By.info_int
  rcases hy.src with ⟨_, rfl⟩ | ⟨ad2, cap2, rfl, hc⟩
  · simp at hp
  · have key := step_append_grows (P := Tryz.prog) (ops := #[]) (E := True) (K := K) (Q := Q) (w := W) hg s x 22 ho 3 i0 (.int .i64 0) 1 8 Tryz.underlying22 hi hz0 hz1 hz2 rfl (by decide) (some ⟨g, 0, none⟩) xs.length xs.length (xs.map (Value.int .i64)) hs (by simp) (by simp) (by
      intro b e j u hu
      rcases hk.src with ⟨e', _⟩ | ⟨a', cap', e', hc'⟩
      · simp at e'
      · simp only [Value.slice.injEq] at e'
        obtain ⟨e1, _, _⟩ := e'
        rw [e] at e1
        simp only [Option.some.injEq] at e1
        subst e1
        exact hc' j u hu) ad2 ys.length cap2 (ys.map (Value.int .i64)) hx (by simp) hc (by intro u hu; obtain ⟨y, _, rfl⟩ := List.mem_map.1 hu; rfl) (by omega) (by simp only [maxLen]; omega) (by omega) (fun v' w' h1 h2 => h v' w' (by
        unfold By.SL
        rw [List.length_append, List.map_append]
        exact h1) (Later.of_grownBy h2))
    rwa [if_pos (by simp [Region.wanted, hg])] at key

def ZV (G n0 : Nat) (z : Zn) : Nat → Value → World → Prop
  | 0, v, _ => v = .pointer (some ⟨G, 13, none⟩)
  | 1, v, _ => v = .pointer (some ⟨G, 13, none⟩)
  | 2, v, _ => v = .int .i64 z.b
  | 3, v, _ => v = .pointer (some ⟨G, 13, none⟩)
  | 4, v, _ => v = .pointer (some ⟨G, 14, none⟩)
  | 5, v, _ => v = .int .i64 z.s
  | 6, v, W => ∃ k, v = .slice (some ⟨k, 0, none⟩) 2 2 ∧ Sk .i64 W v [z.b, z.s]
  | 7, v, _ => v = .pointer (some ⟨G, 13, none⟩)
  | 8, v, _ => v = .pointer (some ⟨G, 15, none⟩)
  | 9, v, _ => v = .agg #[.int .i64 z.p.m, .int .i64 z.p.k, .int .i64 z.p.v, .int .i64 z.p.u]
  | 10, v, W => SL .i64 3 W n0 v [z.p.m, z.p.k, z.p.v, z.p.u]
  | 11, v, W => SL .i64 3 W n0 v ([z.b, z.s] ++ [z.p.m, z.p.k, z.p.v, z.p.u])
  | 12, v, W => SL .i64 3 W n0 v ([z.b, z.s] ++ [z.p.m, z.p.k, z.p.v, z.p.u])
  | _, _, _ => True

theorem ZV.later (G n0 : Nat) (z : Zn) (i : Nat) (v : Value) (W W' : World) (h : ZV G n0 z i v W) (g : Later W W') : ZV G n0 z i v W' := by
  unfold ZV at *
  split at h <;> try exact h
  · exact (let ⟨k, e, s⟩ := h; ⟨k, e, s.later g⟩)
  · exact h.later g
  · exact h.later g
  · exact h.later g

set_option maxHeartbeats 4000000 in
theorem rows_a (c : Cg) (u v : Value) (w : World) (hu : Sk .i64 w u c.st) (hv : Wk w v c.ws) (hn : c.ws.length ≤ 200) : Calls Tryz.prog 29 #[.agg (cc c u v)] w fun e w' => ∃ r, e = .returned r ∧ Rk w' r c u ∧ Later w w' := by
  have hf := cs_cc c u v
  generalize cc c u v = C at *
  obtain ⟨ad, cap, rfl, hm⟩ := hv.len
  obtain ⟨ad3, cap3, rfl, hm3⟩ := hu.len
  obtain ⟨n, hn'⟩ : ∃ n, c.ws.length = n := ⟨_, rfl⟩
  rw [hn'] at hv hm hn hf
  obtain ⟨n3, hn3⟩ : ∃ n3, c.st.length = n3 := ⟨_, rfl⟩
  rw [hn3] at hu hm3 hf ⊢
  have HF := Lib.hid hf
  have HLn := Lib.hid hn'
  have HM := Lib.hid hm
  clear hn' hn3 hf hm hm3
  have HA0 := Lib.hid (At.new w C 33)
  have HA2 := Lib.hid (HA0.out.put (.cells #[.int .i64 c.t, .int .i64 c.l, .int .i64 c.o, .int .i64 c.d, .int .i64 c.e, .int .i64 c.c, .int .i64 c.h] 24))
  have HT2 := Lib.hid (At.new (w.alloc (.cells C 33)) #[.int .i64 c.t, .int .i64 c.l, .int .i64 c.o, .int .i64 c.d, .int .i64 c.e, .int .i64 c.c, .int .i64 c.h] 24)
  simp only [World.size_alloc] at HT2
  have HL2 := Lib.hid (((Later.refl w).alloc C 33).put (.cells #[.int .i64 c.t, .int .i64 c.l, .int .i64 c.o, .int .i64 c.d, .int .i64 c.e, .int .i64 c.c, .int .i64 c.h] 24))
  have HU := Lib.hid hu
  have HV := Lib.hid hv
  have HN := Lib.hid hn
  obtain ⟨bb, hbb⟩ : ∃ bb, c.ab = bb := ⟨_, rfl⟩
  have f35 := HA0.out 35 _ HF.out.b35
  rw [hbb] at f35
  have HBB := Lib.hid hbb
  have f4 := HA0.out 4 _ HF.out.c4
  have f5 := HA0.out 5 _ HF.out.c5
  have f6 := HA0.out 6 _ HF.out.c6
  have f7 := HA0.out 7 _ HF.out.c7
  have f8 := HA0.out 8 _ HF.out.c8
  have f9 := HA0.out 9 _ HF.out.c9
  have f10 := HA0.out 10 _ HF.out.c10
  have KT := Lib.hid (fun a b c d W => turn_any a b c d W)
  clear hbb hu hv hn
  cases bb with
  | true =>
    go_enter Tryz.func29, Tryz.ntmps29
    go_wp2_with fail
    clear f35 f4 f5 f6 f7 f8 f9 f10
    generalize (w.alloc (Obj.cells C 33)).alloc (Obj.cells #[.int .i64 c.t, .int .i64 c.l, .int .i64 c.o, .int .i64 c.d, .int .i64 c.e, .int .i64 c.c, .int .i64 c.h] 24) = w2 at *
    refine region_each (ZV w.heap.size w2.heap.size c.z) (by kernel_rfl) (by kernel_rfl) (ZV.later w.heap.size w2.heap.size c.z) ?_ ?_
    · intro i hi
      match i with
      | 0 =>
        intro o ho
        simp only [List.getElem?_toArray, List.getElem?_cons_zero, Option.some.injEq] at ho
        subst ho
        intro a W hl hold hdep
        refine ite_yes rfl ?_
        have h1 : a.tmps[1]? = some (.pointer (some ⟨w.heap.size, 0, none⟩)) := hold 1 (free_of (by kernel_rfl))
        clear hold hdep
        unfold Oper.wp
        go_simp
        exact ⟨_, rfl, rfl, Later.refl _⟩
      | 1 =>
        intro o ho
        simp only [List.getElem?_toArray, List.getElem?_cons_zero, List.getElem?_cons_succ, Option.some.injEq] at ho
        subst ho
        intro a W hl hold hdep
        refine ite_yes rfl ?_
        obtain ⟨_, h17, rfl⟩ := hdep 0 (by decide) _ _ rfl rfl
        clear hold hdep
        unfold Oper.wp
        go_simp
        exact ⟨_, rfl, rfl, Later.refl _⟩
      | 2 =>
        intro o ho
        simp only [List.getElem?_toArray, List.getElem?_cons_zero, List.getElem?_cons_succ, Option.some.injEq] at ho
        subst ho
        intro a W hl hold hdep
        refine ite_yes rfl ?_
        obtain ⟨_, h18, rfl⟩ := hdep 1 (by decide) _ _ rfl rfl
        have f13 := HA2.out.later hl 13 _ HF.out.c13
        clear hold hdep
        unfold Oper.wp
        go_simp
        exact ⟨_, rfl, rfl, Later.refl _⟩
      | 3 =>
        intro o ho
        simp only [List.getElem?_toArray, List.getElem?_cons_zero, List.getElem?_cons_succ, Option.some.injEq] at ho
        subst ho
        intro a W hl hold hdep
        refine ite_yes rfl ?_
        have h1 : a.tmps[1]? = some (.pointer (some ⟨w.heap.size, 0, none⟩)) := hold 1 (free_of (by kernel_rfl))
        clear hold hdep
        unfold Oper.wp
        go_simp
        exact ⟨_, rfl, rfl, Later.refl _⟩
      | 4 =>
        intro o ho
        simp only [List.getElem?_toArray, List.getElem?_cons_zero, List.getElem?_cons_succ, Option.some.injEq] at ho
        subst ho
        intro a W hl hold hdep
        refine ite_yes rfl ?_
        obtain ⟨_, h20, rfl⟩ := hdep 3 (by decide) _ _ rfl rfl
        clear hold hdep
        unfold Oper.wp
        go_simp
        exact ⟨_, rfl, rfl, Later.refl _⟩
      | 5 =>
        intro o ho
        simp only [List.getElem?_toArray, List.getElem?_cons_zero, List.getElem?_cons_succ, Option.some.injEq] at ho
        subst ho
        intro a W hl hold hdep
        refine ite_yes rfl ?_
        obtain ⟨_, h21, rfl⟩ := hdep 4 (by decide) _ _ rfl rfl
        have f14 := HA2.out.later hl 14 _ HF.out.c14
        clear hold hdep
        unfold Oper.wp
        go_simp
        exact ⟨_, rfl, rfl, Later.refl _⟩
      | 6 =>
        intro o ho
        simp only [List.getElem?_toArray, List.getElem?_cons_zero, List.getElem?_cons_succ, Option.some.injEq] at ho
        subst ho
        intro a W hl hold hdep
        refine ite_yes rfl ?_
        obtain ⟨_, h19, rfl⟩ := hdep 2 (by decide) _ _ rfl rfl
        obtain ⟨_, h22, rfl⟩ := hdep 5 (by decide) _ _ rfl rfl
        clear hold hdep
        unfold Oper.wp
        go_simp
        exact ⟨_, rfl, ⟨_, rfl, (sl_new W 0 (Nat.zero_le _) [c.z.b, c.z.s] (by simp)).sk⟩, (Later.refl _).put _⟩
      | 7 =>
        intro o ho
        simp only [List.getElem?_toArray, List.getElem?_cons_zero, List.getElem?_cons_succ, Option.some.injEq] at ho
        subst ho
        intro a W hl hold hdep
        refine ite_yes rfl ?_
        have h1 : a.tmps[1]? = some (.pointer (some ⟨w.heap.size, 0, none⟩)) := hold 1 (free_of (by kernel_rfl))
        clear hold hdep
        unfold Oper.wp
        go_simp
        exact ⟨_, rfl, rfl, Later.refl _⟩
      | 8 =>
        intro o ho
        simp only [List.getElem?_toArray, List.getElem?_cons_zero, List.getElem?_cons_succ, Option.some.injEq] at ho
        subst ho
        intro a W hl hold hdep
        refine ite_yes rfl ?_
        obtain ⟨_, h24, rfl⟩ := hdep 7 (by decide) _ _ rfl rfl
        clear hold hdep
        unfold Oper.wp
        go_simp
        exact ⟨_, rfl, rfl, Later.refl _⟩
      | 9 =>
        intro o ho
        simp only [List.getElem?_toArray, List.getElem?_cons_zero, List.getElem?_cons_succ, Option.some.injEq] at ho
        subst ho
        intro a W hl hold hdep
        refine ite_yes rfl ?_
        obtain ⟨_, h25, rfl⟩ := hdep 8 (by decide) _ _ rfl rfl
        have f15 := HA2.out.later hl 15 _ HF.out.c15
        have f16 := HA2.out.later hl 16 _ HF.out.c16
        have f17 := HA2.out.later hl 17 _ HF.out.c17
        have f18 := HA2.out.later hl 18 _ HF.out.c18
        clear hold hdep
        unfold Oper.wp
        go_simp
        exact ⟨_, rfl, rfl, Later.refl _⟩
      | 10 =>
        intro o ho
        simp only [List.getElem?_toArray, List.getElem?_cons_zero, List.getElem?_cons_succ, Option.some.injEq] at ho
        subst ho
        intro a W hl hold hdep
        refine ite_yes rfl ?_
        obtain ⟨_, h26, rfl⟩ := hdep 9 (by decide) _ _ rfl rfl
        clear hold hdep
        unfold Oper.wp
        go_simp
        refine (KT.out _ _ _ _ _).mono ?_
        rintro e w1 ⟨r, rfl, hr, hg1⟩
        exact ⟨_, rfl, By.SL.base hr hl.size, hg1⟩
      | 11 =>
        intro o ho
        simp only [List.getElem?_toArray, List.getElem?_cons_zero, List.getElem?_cons_succ, Option.some.injEq] at ho
        subst ho
        intro a W hl hold hdep
        refine ite_yes rfl ?_
        obtain ⟨_, h23, ⟨k23, rfl, s23⟩⟩ := hdep 6 (by decide) _ _ rfl rfl
        obtain ⟨_, h27, s27⟩ := hdep 10 (by decide) _ _ rfl rfl
        clear hold hdep
        refine wp_append_full rfl (.tmp 23) (.tmp 27) rfl k23 2 [c.z.b, c.z.s] rfl (ev h23) s23 _ [c.z.p.m, c.z.p.k, c.z.p.v, c.z.p.u] (ev h27) s27.sk (by simp) (by simp) ?_
        intro v1 w1 h1 h2
        exact ⟨_, rfl, By.SL.base h1 hl.size, h2⟩
      | 12 =>
        intro o ho
        simp only [List.getElem?_toArray, List.getElem?_cons_zero, List.getElem?_cons_succ, Option.some.injEq] at ho
        subst ho
        intro a W hl hold hdep
        refine ite_yes rfl ?_
        obtain ⟨_, h28, s28⟩ := hdep 11 (by decide) _ _ rfl rfl
        clear hold hdep
        unfold Oper.wp
        go_simp
        exact ⟨_, rfl, s28, Later.refl _⟩
      | k + 13 => exact absurd hi (by simp)
    · intro a W hl hd hz hold hall
      have k1 : a.tmps[1]? = some (.pointer (some ⟨w.heap.size, 0, none⟩)) := hold 1 (free_of (by kernel_rfl))
      have k3 : a.tmps[3]? = some (.int .i64 1) := hold 3 (free_of (by kernel_rfl))
      have k4 : a.tmps[4]? = some (.pointer (some ⟨w.heap.size + 1, 0, none⟩)) := hold 4 (free_of (by kernel_rfl))
      obtain ⟨_, k5, s5⟩ := hall 12 _ _ rfl rfl
      have ha := act_eta a 110 [] hz hd
      rw [show (List.range 110).map (fun s => a.tmps.getD s undef) = [a.tmps.getD 0 undef, a.tmps.getD 1 undef, a.tmps.getD 2 undef, a.tmps.getD 3 undef, a.tmps.getD 4 undef, a.tmps.getD 5 undef, a.tmps.getD 6 undef, a.tmps.getD 7 undef, a.tmps.getD 8 undef, a.tmps.getD 9 undef, a.tmps.getD 10 undef, a.tmps.getD 11 undef, a.tmps.getD 12 undef, a.tmps.getD 13 undef, a.tmps.getD 14 undef, a.tmps.getD 15 undef, a.tmps.getD 16 undef, a.tmps.getD 17 undef, a.tmps.getD 18 undef, a.tmps.getD 19 undef, a.tmps.getD 20 undef, a.tmps.getD 21 undef, a.tmps.getD 22 undef, a.tmps.getD 23 undef, a.tmps.getD 24 undef, a.tmps.getD 25 undef, a.tmps.getD 26 undef, a.tmps.getD 27 undef, a.tmps.getD 28 undef, a.tmps.getD 29 undef, a.tmps.getD 30 undef, a.tmps.getD 31 undef, a.tmps.getD 32 undef, a.tmps.getD 33 undef, a.tmps.getD 34 undef, a.tmps.getD 35 undef, a.tmps.getD 36 undef, a.tmps.getD 37 undef, a.tmps.getD 38 undef, a.tmps.getD 39 undef, a.tmps.getD 40 undef, a.tmps.getD 41 undef, a.tmps.getD 42 undef, a.tmps.getD 43 undef, a.tmps.getD 44 undef, a.tmps.getD 45 undef, a.tmps.getD 46 undef, a.tmps.getD 47 undef, a.tmps.getD 48 undef, a.tmps.getD 49 undef, a.tmps.getD 50 undef, a.tmps.getD 51 undef, a.tmps.getD 52 undef, a.tmps.getD 53 undef, a.tmps.getD 54 undef, a.tmps.getD 55 undef, a.tmps.getD 56 undef, a.tmps.getD 57 undef, a.tmps.getD 58 undef, a.tmps.getD 59 undef, a.tmps.getD 60 undef, a.tmps.getD 61 undef, a.tmps.getD 62 undef, a.tmps.getD 63 undef, a.tmps.getD 64 undef, a.tmps.getD 65 undef, a.tmps.getD 66 undef, a.tmps.getD 67 undef, a.tmps.getD 68 undef, a.tmps.getD 69 undef, a.tmps.getD 70 undef, a.tmps.getD 71 undef, a.tmps.getD 72 undef, a.tmps.getD 73 undef, a.tmps.getD 74 undef, a.tmps.getD 75 undef, a.tmps.getD 76 undef, a.tmps.getD 77 undef, a.tmps.getD 78 undef, a.tmps.getD 79 undef, a.tmps.getD 80 undef, a.tmps.getD 81 undef, a.tmps.getD 82 undef, a.tmps.getD 83 undef, a.tmps.getD 84 undef, a.tmps.getD 85 undef, a.tmps.getD 86 undef, a.tmps.getD 87 undef, a.tmps.getD 88 undef, a.tmps.getD 89 undef, a.tmps.getD 90 undef, a.tmps.getD 91 undef, a.tmps.getD 92 undef, a.tmps.getD 93 undef, a.tmps.getD 94 undef, a.tmps.getD 95 undef, a.tmps.getD 96 undef, a.tmps.getD 97 undef, a.tmps.getD 98 undef, a.tmps.getD 99 undef, a.tmps.getD 100 undef, a.tmps.getD 101 undef, a.tmps.getD 102 undef, a.tmps.getD 103 undef, a.tmps.getD 104 undef, a.tmps.getD 105 undef, a.tmps.getD 106 undef, a.tmps.getD 107 undef, a.tmps.getD 108 undef, a.tmps.getD 109 undef] from rfl, getD_of k1, getD_of k3, getD_of k4, getD_of k5] at ha
      rw [ha]
      clear hall hold hz hd ha k1 k3 k4 k5
      generalize a.tmps.getD 0 undef = x0
      generalize a.tmps.getD 2 undef = x2
      generalize a.tmps.getD 6 undef = x6
      generalize a.tmps.getD 7 undef = x7
      generalize a.tmps.getD 8 undef = x8
      generalize a.tmps.getD 9 undef = x9
      generalize a.tmps.getD 10 undef = x10
      generalize a.tmps.getD 11 undef = x11
      generalize a.tmps.getD 12 undef = x12
      generalize a.tmps.getD 13 undef = x13
      generalize a.tmps.getD 14 undef = x14
      generalize a.tmps.getD 15 undef = x15
      generalize a.tmps.getD 16 undef = x16
      generalize a.tmps.getD 17 undef = x17
      generalize a.tmps.getD 18 undef = x18
      generalize a.tmps.getD 19 undef = x19
      generalize a.tmps.getD 20 undef = x20
      generalize a.tmps.getD 21 undef = x21
      generalize a.tmps.getD 22 undef = x22
      generalize a.tmps.getD 23 undef = x23
      generalize a.tmps.getD 24 undef = x24
      generalize a.tmps.getD 25 undef = x25
      generalize a.tmps.getD 26 undef = x26
      generalize a.tmps.getD 27 undef = x27
      generalize a.tmps.getD 28 undef = x28
      generalize a.tmps.getD 29 undef = x29
      generalize a.tmps.getD 30 undef = x30
      generalize a.tmps.getD 31 undef = x31
      generalize a.tmps.getD 32 undef = x32
      generalize a.tmps.getD 33 undef = x33
      generalize a.tmps.getD 34 undef = x34
      generalize a.tmps.getD 35 undef = x35
      generalize a.tmps.getD 36 undef = x36
      generalize a.tmps.getD 37 undef = x37
      generalize a.tmps.getD 38 undef = x38
      generalize a.tmps.getD 39 undef = x39
      generalize a.tmps.getD 40 undef = x40
      generalize a.tmps.getD 41 undef = x41
      generalize a.tmps.getD 42 undef = x42
      generalize a.tmps.getD 43 undef = x43
      generalize a.tmps.getD 44 undef = x44
      generalize a.tmps.getD 45 undef = x45
      generalize a.tmps.getD 46 undef = x46
      generalize a.tmps.getD 47 undef = x47
      generalize a.tmps.getD 48 undef = x48
      generalize a.tmps.getD 49 undef = x49
      generalize a.tmps.getD 50 undef = x50
      generalize a.tmps.getD 51 undef = x51
      generalize a.tmps.getD 52 undef = x52
      generalize a.tmps.getD 53 undef = x53
      generalize a.tmps.getD 54 undef = x54
      generalize a.tmps.getD 55 undef = x55
      generalize a.tmps.getD 56 undef = x56
      generalize a.tmps.getD 57 undef = x57
      generalize a.tmps.getD 58 undef = x58
      generalize a.tmps.getD 59 undef = x59
      generalize a.tmps.getD 60 undef = x60
      generalize a.tmps.getD 61 undef = x61
      generalize a.tmps.getD 62 undef = x62
      generalize a.tmps.getD 63 undef = x63
      generalize a.tmps.getD 64 undef = x64
      generalize a.tmps.getD 65 undef = x65
      generalize a.tmps.getD 66 undef = x66
      generalize a.tmps.getD 67 undef = x67
      generalize a.tmps.getD 68 undef = x68
      generalize a.tmps.getD 69 undef = x69
      generalize a.tmps.getD 70 undef = x70
      generalize a.tmps.getD 71 undef = x71
      generalize a.tmps.getD 72 undef = x72
      generalize a.tmps.getD 73 undef = x73
      generalize a.tmps.getD 74 undef = x74
      generalize a.tmps.getD 75 undef = x75
      generalize a.tmps.getD 76 undef = x76
      generalize a.tmps.getD 77 undef = x77
      generalize a.tmps.getD 78 undef = x78
      generalize a.tmps.getD 79 undef = x79
      generalize a.tmps.getD 80 undef = x80
      generalize a.tmps.getD 81 undef = x81
      generalize a.tmps.getD 82 undef = x82
      generalize a.tmps.getD 83 undef = x83
      generalize a.tmps.getD 84 undef = x84
      generalize a.tmps.getD 85 undef = x85
      generalize a.tmps.getD 86 undef = x86
      generalize a.tmps.getD 87 undef = x87
      generalize a.tmps.getD 88 undef = x88
      generalize a.tmps.getD 89 undef = x89
      generalize a.tmps.getD 90 undef = x90
      generalize a.tmps.getD 91 undef = x91
      generalize a.tmps.getD 92 undef = x92
      generalize a.tmps.getD 93 undef = x93
      generalize a.tmps.getD 94 undef = x94
      generalize a.tmps.getD 95 undef = x95
      generalize a.tmps.getD 96 undef = x96
      generalize a.tmps.getD 97 undef = x97
      generalize a.tmps.getD 98 undef = x98
      generalize a.tmps.getD 99 undef = x99
      generalize a.tmps.getD 100 undef = x100
      generalize a.tmps.getD 101 undef = x101
      generalize a.tmps.getD 102 undef = x102
      generalize a.tmps.getD 103 undef = x103
      generalize a.tmps.getD 104 undef = x104
      generalize a.tmps.getD 105 undef = x105
      generalize a.tmps.getD 106 undef = x106
      generalize a.tmps.getD 107 undef = x107
      generalize a.tmps.getD 108 undef = x108
      generalize a.tmps.getD 109 undef = x109
      rename_i y5
      have HS5 : Hid (SL .i64 3 W w2.heap.size y5 ([c.z.b, c.z.s] ++ [c.z.p.m, c.z.p.k, c.z.p.v, c.z.p.u])) := Lib.hid s5
      have HL5 := Lib.hid hl
      have f19 := HA2.out.later hl 19 _ HF.out.c19
      have f20 := HA2.out.later hl 20 _ HF.out.c20
      have f21 := HA2.out.later hl 21 _ HF.out.c21
      have f22 := HA2.out.later hl 22 _ HF.out.c22
      clear s5 hl
      go_wp2_with fail
      refine (KT.out _ _ _ _ _).mono ?_
      rintro e w3 ⟨r, rfl, hr, hg3⟩
      have HR3 := Lib.hid hr.sk
      have HL3 := Lib.hid (gtrans HL5.out hg3)
      have HS3 := Lib.hid (HS5.out.later hg3)
      clear hr hg3 f19 f20 f21 f22
      go_wp2_with (refine append_ints rfl (.tmp 29) (.tmp 33) rfl w2 HL3.out _ _ rfl HS3.out _ _ rfl HR3.out (by simp) ?_; intro v6 w6 ho6 hg6; have HO6 : Hid (SL .i64 3 w6 w2.heap.size v6 (Ka.r4 c.z)) := Lib.hid ho6; have HL6 := Lib.hid hg6; clear ho6 hg6)
      go_loopw [6, 7] (fun v i wr => MRel c.s w6 v i wr) (fun _ i _ => 12 - (intOf i).toNat)
      case atStart => exact ⟨0, by omega, rfl, SL.nil _ _ _ _, Later.refl _⟩
      case round =>
        obtain ⟨k, hk, rfl, ho, hg⟩ := hrel
        have HG := Lib.hid hg
        have HO := Lib.hid ho
        clear hg ho
        by_cases hlt : k < 12
        · have cx := HA2.out.later (gtrans HL6.out HG.out) (23 + k) _ (HF.out.sun k hlt)
          have hki : (k : Int) < 12 := by omega
          have HX := Lib.hid (r5_on c.s k hlt)
          have HSN := Lib.hid (sl_new wr 0 (Nat.zero_le _) [c.s k] (by simp)).sk
          have HGP := Lib.hid (HG.out.put (.cells #[.int .i64 (c.s k)] 3))
          have HOP := Lib.hid (HO.out.later ((Later.refl wr).put (.cells #[.int .i64 (c.s k)] 3)))
          have HTL : Hid (((Ka.r5 c.s).take k).length + [c.s k].length ≤ 100000) := Lib.hid (by rw [List.length_take]; simp; omega)
          generalize c.s k = xk at *
          go_wp2_with (refine append_ints rfl (.tmp 39) (.tmp 44) rfl w6 HGP.out _ _ rfl HOP.out _ [xk] rfl HSN.out HTL.out ?_; intro v7 w7 ho7 hg7; have HO7 := Lib.hid ho7; have HG7 := Lib.hid hg7; clear ho7 hg7)
          go_roundw
          case rel => exact ⟨k + 1, by omega, by go_num, by rw [HX.out]; exact HO7.out, HG7.out⟩
          case measure => simp [intOf]; omega
        · obtain rfl : k = 12 := by omega
          obtain ⟨w8, hw8⟩ : ∃ w8, w8 = wr := ⟨_, rfl⟩
          subst hw8
          have HO8 : Hid (SL .i64 3 w8 w6.heap.size u6 (Ka.r5 c.s)) := Lib.hid (by have := HO.out; rwa [List.take_of_length_le (by simp [Ka.r5])] at this)
          have HLW8 := Lib.hid (gtrans HL2.out (gtrans HL6.out HG.out))
          have H28 := Lib.hid (gtrans HL6.out HG.out)
          clear hlt hk
          go_wp2_with fail
          go_loopw [8, 9] (fun v i wr => XRel c.ws w8 v i wr) (fun _ i _ => n - (intOf i).toNat)
          case atStart => exact ⟨0, by omega, rfl, SL.nil _ _ _ _, Later.refl _⟩
          case round =>
            obtain ⟨k, hk, rfl, ho, hg⟩ := hrel
            rw [HLn.out] at hk
            have HGx := Lib.hid hg
            have HOx := Lib.hid ho
            clear ho hg
            have c36 := HA2.out.later (gtrans H28.out HGx.out) 36 _ HF.out.v36
            have hMn := HM.out
            by_cases hlt : k < n
            · obtain ⟨B, off, cap', e, hm', hB, hc⟩ := HV.out.has (by rw [HLn.out]; omega)
              simp only [Value.slice.injEq] at e
              obtain ⟨rfl, _, rfl⟩ := e
              obtain ⟨x, hx⟩ : ∃ x, c.ws[k]? = some x := ⟨_, List.getElem?_eq_getElem (by rw [HLn.out]; exact hlt)⟩
              have hr := hc k x hx
              have HR : Hid (wr.rangeAt B (off + k * 7) (wc x)) := Lib.hid (fun j y hy => gsome (gtrans HLW8.out HGx.out) (hr j y hy))
              have ad : ∀ j, (⟨B, off, none⟩ : Addr).add j = ⟨B, off + j, none⟩ := Addr.add_mid B off
              have HZ : Hid ((Ka.r6 (c.ws.take k)).length = k * 7) := Lib.hid (by rw [Ka.wr_len, List.length_take, HLn.out, Nat.min_eq_left (by omega)])
              have HT := Lib.hid (r6_on c.ws k x hx)
              have HX := Lib.hid hx
              have HSN : Hid (Sk .i64 ((wr.alloc (.cells #[.int .i64 x.k, .int .i64 x.m, .int .i64 x.p, .int .i64 x.a, .int .i64 x.h, .int .i64 x.u, .int .i64 x.l] 58)).alloc (.cells #[.int .i64 x.k, .int .i64 x.m, .int .i64 x.p, .int .i64 x.a, .int .i64 x.h, .int .i64 x.u, .int .i64 x.l] 3)) (.slice (some ⟨wr.heap.size + 1, 0, none⟩) 7 7) (Ka.wr x)) := Lib.hid (by
                have h := (sl_new (wr.alloc (.cells #[.int .i64 x.k, .int .i64 x.m, .int .i64 x.p, .int .i64 x.a, .int .i64 x.h, .int .i64 x.u, .int .i64 x.l] 58)) 0 (Nat.zero_le _) (Ka.wr x) (by simp [Ka.wr])).sk
                rw [World.size_alloc] at h
                exact h)
              have HPP : Hid (Later wr ((wr.alloc (.cells #[.int .i64 x.k, .int .i64 x.m, .int .i64 x.p, .int .i64 x.a, .int .i64 x.h, .int .i64 x.u, .int .i64 x.l] 58)).alloc (.cells #[.int .i64 x.k, .int .i64 x.m, .int .i64 x.p, .int .i64 x.a, .int .i64 x.h, .int .i64 x.u, .int .i64 x.l] 3))) := Lib.hid (((Later.refl wr).put _).put _)
              have HBN : Hid ((Ka.r6 (c.ws.take k)).length + (Ka.wr x).length ≤ 100000) := Lib.hid (by have e1 := HZ.out; have e2 : (Ka.wr x).length = 7 := rfl; have := HN.out; omega)
              clear hr hx hc hB hm'
              go_wp2_with (first
                | (refine load_win x rfl (.tmp 56) rfl B (off + k * 7) rfl HR.out ?_)
                | (refine append_ints rfl (.tmp 58) (.tmp 73) rfl w8 (gtrans HGx.out HPP.out) _ _ rfl (HOx.out.later HPP.out) _ _ rfl HSN.out HBN.out ?_; intro v9 w9 ho9 hg9; have HO9 := Lib.hid ho9; have HG9 := Lib.hid hg9; clear ho9 hg9))
              go_roundw
              case rel =>
                iterate 32 (apply Exists.intro)
                refine ⟨?_, rfl⟩
                exact ⟨k + 1, by rw [HLn.out]; omega, by go_num, by rw [HT.out]; exact HO9.out, HG9.out⟩
              case measure => simp [intOf]; omega
            · have HO9 : Hid (SL .i64 3 wr w8.heap.size u8 (Ka.r6 c.ws)) := Lib.hid (by
                have h := HOx.out
                rwa [List.take_of_length_le (by rw [HLn.out]; omega)] at h)
              obtain rfl : k = n := by omega
              obtain ⟨_, _, rfl, _⟩ := HO6.out.sk.len
              obtain ⟨_, _, rfl, _⟩ := HO8.out.sk.len
              obtain ⟨_, _, rfl, _⟩ := HO9.out.sk.len
              have HLr := Lib.hid (gtrans H28.out HGx.out)
              have PA : Hid (Later w2 (wr.alloc (.cells #[.int .i64 c.f, .int .i64 c.n, .int .i64 c.p, .int .i64 c.r, .int .i64 c.q, .int .i64 1] 3))) := Lib.hid (HLr.out.put _)
              have PB : Hid (Later w2 ((wr.alloc (.cells #[.int .i64 c.f, .int .i64 c.n, .int .i64 c.p, .int .i64 c.r, .int .i64 c.q, .int .i64 1] 3)).alloc (.cells #[.int .i64 c.t, .int .i64 c.l, .int .i64 c.o, .int .i64 c.d, .int .i64 c.e, .int .i64 c.c, .int .i64 c.h] 3))) := Lib.hid (PA.out.put _)
              have g0 := HA2.out.later HLr.out 0 _ HF.out.c0
              have g1 := HA2.out.later HLr.out 1 _ HF.out.c1
              have g2 := HA2.out.later HLr.out 2 _ HF.out.c2
              have g3 := HA2.out.later PB.out 3 _ HF.out.u3
              have g11 := HA2.out.later HLr.out 11 _ HF.out.c11
              have g12 := HA2.out.later HLr.out 12 _ HF.out.c12
              have t0 : (wr.alloc (.cells #[.int .i64 c.f, .int .i64 c.n, .int .i64 c.p, .int .i64 c.r, .int .i64 c.q, .int .i64 1] 3)).cell? ⟨w.heap.size + 1, 0, none⟩ = some (.int .i64 c.t) := HT2.out.later PA.out 0 _ rfl
              have t1 : (wr.alloc (.cells #[.int .i64 c.f, .int .i64 c.n, .int .i64 c.p, .int .i64 c.r, .int .i64 c.q, .int .i64 1] 3)).cell? ⟨w.heap.size + 1, 1, none⟩ = some (.int .i64 c.l) := HT2.out.later PA.out 1 _ rfl
              have t2 : (wr.alloc (.cells #[.int .i64 c.f, .int .i64 c.n, .int .i64 c.p, .int .i64 c.r, .int .i64 c.q, .int .i64 1] 3)).cell? ⟨w.heap.size + 1, 2, none⟩ = some (.int .i64 c.o) := HT2.out.later PA.out 2 _ rfl
              have t3 : (wr.alloc (.cells #[.int .i64 c.f, .int .i64 c.n, .int .i64 c.p, .int .i64 c.r, .int .i64 c.q, .int .i64 1] 3)).cell? ⟨w.heap.size + 1, 3, none⟩ = some (.int .i64 c.d) := HT2.out.later PA.out 3 _ rfl
              have t4 : (wr.alloc (.cells #[.int .i64 c.f, .int .i64 c.n, .int .i64 c.p, .int .i64 c.r, .int .i64 c.q, .int .i64 1] 3)).cell? ⟨w.heap.size + 1, 4, none⟩ = some (.int .i64 c.e) := HT2.out.later PA.out 4 _ rfl
              have t5 : (wr.alloc (.cells #[.int .i64 c.f, .int .i64 c.n, .int .i64 c.p, .int .i64 c.r, .int .i64 c.q, .int .i64 1] 3)).cell? ⟨w.heap.size + 1, 5, none⟩ = some (.int .i64 c.c) := HT2.out.later PA.out 5 _ rfl
              have t6 : (wr.alloc (.cells #[.int .i64 c.f, .int .i64 c.n, .int .i64 c.p, .int .i64 c.r, .int .i64 c.q, .int .i64 1] 3)).cell? ⟨w.heap.size + 1, 6, none⟩ = some (.int .i64 c.h) := HT2.out.later PA.out 6 _ rfl
              go_wp2_with fail
              go_ret
              have hr1 : Ka.r1 c = [c.f, c.n, c.p, c.r, c.q, 1] := by unfold Ka.r1; rw [HBB.out]; rfl
              have hA := sl_new wr 0 (Nat.zero_le _) [c.f, c.n, c.p, c.r, c.q, 1] (by simp)
              have hB := sl_new (wr.alloc (.cells ([c.f, c.n, c.p, c.r, c.q, 1].map (Value.int .i64)).toArray 3)) 0 (Nat.zero_le _) (Ka.r3 c) (by simp [Ka.r3])
              rw [← hr1] at hA hB
              have p1 := (Later.refl wr).put (.cells ((Ka.r1 c).map (Value.int .i64)).toArray 3)
              have p2 := p1.put (.cells ((Ka.r3 c).map (Value.int .i64)).toArray 3)
              have hk := rk_new _ c (u := .slice ad3 n3 cap3) (hA.later ((Later.refl _).put (.cells ((Ka.r3 c).map (Value.int .i64)).toArray 3))) hB (By.SL.base (HO6.out.later (gtrans HG.out (gtrans HGx.out p2))) (Nat.zero_le _)) (By.SL.base (HO8.out.later (gtrans HGx.out p2)) (Nat.zero_le _)) (By.SL.base (HO9.out.later p2) (Nat.zero_le _))
              rw [hr1] at hk
              simp only [World.size_alloc] at hk
              exact ⟨_, rfl, hk, gtrans HLW8.out (gtrans HGx.out (((((Later.refl wr).put _).put _).put _)))⟩
  | false =>
    go_enter Tryz.func29, Tryz.ntmps29
    go_wp2_with fail
    clear f35 f4 f5 f6 f7 f8 f9 f10
    generalize (w.alloc (Obj.cells C 33)).alloc (Obj.cells #[.int .i64 c.t, .int .i64 c.l, .int .i64 c.o, .int .i64 c.d, .int .i64 c.e, .int .i64 c.c, .int .i64 c.h] 24) = w2 at *
    refine region_each (ZV w.heap.size w2.heap.size c.z) (by kernel_rfl) (by kernel_rfl) (ZV.later w.heap.size w2.heap.size c.z) ?_ ?_
    · intro i hi
      match i with
      | 0 =>
        intro o ho
        simp only [List.getElem?_toArray, List.getElem?_cons_zero, Option.some.injEq] at ho
        subst ho
        intro a W hl hold hdep
        refine ite_yes rfl ?_
        have h1 : a.tmps[1]? = some (.pointer (some ⟨w.heap.size, 0, none⟩)) := hold 1 (free_of (by kernel_rfl))
        clear hold hdep
        unfold Oper.wp
        go_simp
        exact ⟨_, rfl, rfl, Later.refl _⟩
      | 1 =>
        intro o ho
        simp only [List.getElem?_toArray, List.getElem?_cons_zero, List.getElem?_cons_succ, Option.some.injEq] at ho
        subst ho
        intro a W hl hold hdep
        refine ite_yes rfl ?_
        obtain ⟨_, h17, rfl⟩ := hdep 0 (by decide) _ _ rfl rfl
        clear hold hdep
        unfold Oper.wp
        go_simp
        exact ⟨_, rfl, rfl, Later.refl _⟩
      | 2 =>
        intro o ho
        simp only [List.getElem?_toArray, List.getElem?_cons_zero, List.getElem?_cons_succ, Option.some.injEq] at ho
        subst ho
        intro a W hl hold hdep
        refine ite_yes rfl ?_
        obtain ⟨_, h18, rfl⟩ := hdep 1 (by decide) _ _ rfl rfl
        have f13 := HA2.out.later hl 13 _ HF.out.c13
        clear hold hdep
        unfold Oper.wp
        go_simp
        exact ⟨_, rfl, rfl, Later.refl _⟩
      | 3 =>
        intro o ho
        simp only [List.getElem?_toArray, List.getElem?_cons_zero, List.getElem?_cons_succ, Option.some.injEq] at ho
        subst ho
        intro a W hl hold hdep
        refine ite_yes rfl ?_
        have h1 : a.tmps[1]? = some (.pointer (some ⟨w.heap.size, 0, none⟩)) := hold 1 (free_of (by kernel_rfl))
        clear hold hdep
        unfold Oper.wp
        go_simp
        exact ⟨_, rfl, rfl, Later.refl _⟩
      | 4 =>
        intro o ho
        simp only [List.getElem?_toArray, List.getElem?_cons_zero, List.getElem?_cons_succ, Option.some.injEq] at ho
        subst ho
        intro a W hl hold hdep
        refine ite_yes rfl ?_
        obtain ⟨_, h20, rfl⟩ := hdep 3 (by decide) _ _ rfl rfl
        clear hold hdep
        unfold Oper.wp
        go_simp
        exact ⟨_, rfl, rfl, Later.refl _⟩
      | 5 =>
        intro o ho
        simp only [List.getElem?_toArray, List.getElem?_cons_zero, List.getElem?_cons_succ, Option.some.injEq] at ho
        subst ho
        intro a W hl hold hdep
        refine ite_yes rfl ?_
        obtain ⟨_, h21, rfl⟩ := hdep 4 (by decide) _ _ rfl rfl
        have f14 := HA2.out.later hl 14 _ HF.out.c14
        clear hold hdep
        unfold Oper.wp
        go_simp
        exact ⟨_, rfl, rfl, Later.refl _⟩
      | 6 =>
        intro o ho
        simp only [List.getElem?_toArray, List.getElem?_cons_zero, List.getElem?_cons_succ, Option.some.injEq] at ho
        subst ho
        intro a W hl hold hdep
        refine ite_yes rfl ?_
        obtain ⟨_, h19, rfl⟩ := hdep 2 (by decide) _ _ rfl rfl
        obtain ⟨_, h22, rfl⟩ := hdep 5 (by decide) _ _ rfl rfl
        clear hold hdep
        unfold Oper.wp
        go_simp
        exact ⟨_, rfl, ⟨_, rfl, (sl_new W 0 (Nat.zero_le _) [c.z.b, c.z.s] (by simp)).sk⟩, (Later.refl _).put _⟩
      | 7 =>
        intro o ho
        simp only [List.getElem?_toArray, List.getElem?_cons_zero, List.getElem?_cons_succ, Option.some.injEq] at ho
        subst ho
        intro a W hl hold hdep
        refine ite_yes rfl ?_
        have h1 : a.tmps[1]? = some (.pointer (some ⟨w.heap.size, 0, none⟩)) := hold 1 (free_of (by kernel_rfl))
        clear hold hdep
        unfold Oper.wp
        go_simp
        exact ⟨_, rfl, rfl, Later.refl _⟩
      | 8 =>
        intro o ho
        simp only [List.getElem?_toArray, List.getElem?_cons_zero, List.getElem?_cons_succ, Option.some.injEq] at ho
        subst ho
        intro a W hl hold hdep
        refine ite_yes rfl ?_
        obtain ⟨_, h24, rfl⟩ := hdep 7 (by decide) _ _ rfl rfl
        clear hold hdep
        unfold Oper.wp
        go_simp
        exact ⟨_, rfl, rfl, Later.refl _⟩
      | 9 =>
        intro o ho
        simp only [List.getElem?_toArray, List.getElem?_cons_zero, List.getElem?_cons_succ, Option.some.injEq] at ho
        subst ho
        intro a W hl hold hdep
        refine ite_yes rfl ?_
        obtain ⟨_, h25, rfl⟩ := hdep 8 (by decide) _ _ rfl rfl
        have f15 := HA2.out.later hl 15 _ HF.out.c15
        have f16 := HA2.out.later hl 16 _ HF.out.c16
        have f17 := HA2.out.later hl 17 _ HF.out.c17
        have f18 := HA2.out.later hl 18 _ HF.out.c18
        clear hold hdep
        unfold Oper.wp
        go_simp
        exact ⟨_, rfl, rfl, Later.refl _⟩
      | 10 =>
        intro o ho
        simp only [List.getElem?_toArray, List.getElem?_cons_zero, List.getElem?_cons_succ, Option.some.injEq] at ho
        subst ho
        intro a W hl hold hdep
        refine ite_yes rfl ?_
        obtain ⟨_, h26, rfl⟩ := hdep 9 (by decide) _ _ rfl rfl
        clear hold hdep
        unfold Oper.wp
        go_simp
        refine (KT.out _ _ _ _ _).mono ?_
        rintro e w1 ⟨r, rfl, hr, hg1⟩
        exact ⟨_, rfl, By.SL.base hr hl.size, hg1⟩
      | 11 =>
        intro o ho
        simp only [List.getElem?_toArray, List.getElem?_cons_zero, List.getElem?_cons_succ, Option.some.injEq] at ho
        subst ho
        intro a W hl hold hdep
        refine ite_yes rfl ?_
        obtain ⟨_, h23, ⟨k23, rfl, s23⟩⟩ := hdep 6 (by decide) _ _ rfl rfl
        obtain ⟨_, h27, s27⟩ := hdep 10 (by decide) _ _ rfl rfl
        clear hold hdep
        refine wp_append_full rfl (.tmp 23) (.tmp 27) rfl k23 2 [c.z.b, c.z.s] rfl (ev h23) s23 _ [c.z.p.m, c.z.p.k, c.z.p.v, c.z.p.u] (ev h27) s27.sk (by simp) (by simp) ?_
        intro v1 w1 h1 h2
        exact ⟨_, rfl, By.SL.base h1 hl.size, h2⟩
      | 12 =>
        intro o ho
        simp only [List.getElem?_toArray, List.getElem?_cons_zero, List.getElem?_cons_succ, Option.some.injEq] at ho
        subst ho
        intro a W hl hold hdep
        refine ite_yes rfl ?_
        obtain ⟨_, h28, s28⟩ := hdep 11 (by decide) _ _ rfl rfl
        clear hold hdep
        unfold Oper.wp
        go_simp
        exact ⟨_, rfl, s28, Later.refl _⟩
      | k + 13 => exact absurd hi (by simp)
    · intro a W hl hd hz hold hall
      have k1 : a.tmps[1]? = some (.pointer (some ⟨w.heap.size, 0, none⟩)) := hold 1 (free_of (by kernel_rfl))
      have k3 : a.tmps[3]? = some (.int .i64 0) := hold 3 (free_of (by kernel_rfl))
      have k4 : a.tmps[4]? = some (.pointer (some ⟨w.heap.size + 1, 0, none⟩)) := hold 4 (free_of (by kernel_rfl))
      obtain ⟨_, k5, s5⟩ := hall 12 _ _ rfl rfl
      have ha := act_eta a 110 [] hz hd
      rw [show (List.range 110).map (fun s => a.tmps.getD s undef) = [a.tmps.getD 0 undef, a.tmps.getD 1 undef, a.tmps.getD 2 undef, a.tmps.getD 3 undef, a.tmps.getD 4 undef, a.tmps.getD 5 undef, a.tmps.getD 6 undef, a.tmps.getD 7 undef, a.tmps.getD 8 undef, a.tmps.getD 9 undef, a.tmps.getD 10 undef, a.tmps.getD 11 undef, a.tmps.getD 12 undef, a.tmps.getD 13 undef, a.tmps.getD 14 undef, a.tmps.getD 15 undef, a.tmps.getD 16 undef, a.tmps.getD 17 undef, a.tmps.getD 18 undef, a.tmps.getD 19 undef, a.tmps.getD 20 undef, a.tmps.getD 21 undef, a.tmps.getD 22 undef, a.tmps.getD 23 undef, a.tmps.getD 24 undef, a.tmps.getD 25 undef, a.tmps.getD 26 undef, a.tmps.getD 27 undef, a.tmps.getD 28 undef, a.tmps.getD 29 undef, a.tmps.getD 30 undef, a.tmps.getD 31 undef, a.tmps.getD 32 undef, a.tmps.getD 33 undef, a.tmps.getD 34 undef, a.tmps.getD 35 undef, a.tmps.getD 36 undef, a.tmps.getD 37 undef, a.tmps.getD 38 undef, a.tmps.getD 39 undef, a.tmps.getD 40 undef, a.tmps.getD 41 undef, a.tmps.getD 42 undef, a.tmps.getD 43 undef, a.tmps.getD 44 undef, a.tmps.getD 45 undef, a.tmps.getD 46 undef, a.tmps.getD 47 undef, a.tmps.getD 48 undef, a.tmps.getD 49 undef, a.tmps.getD 50 undef, a.tmps.getD 51 undef, a.tmps.getD 52 undef, a.tmps.getD 53 undef, a.tmps.getD 54 undef, a.tmps.getD 55 undef, a.tmps.getD 56 undef, a.tmps.getD 57 undef, a.tmps.getD 58 undef, a.tmps.getD 59 undef, a.tmps.getD 60 undef, a.tmps.getD 61 undef, a.tmps.getD 62 undef, a.tmps.getD 63 undef, a.tmps.getD 64 undef, a.tmps.getD 65 undef, a.tmps.getD 66 undef, a.tmps.getD 67 undef, a.tmps.getD 68 undef, a.tmps.getD 69 undef, a.tmps.getD 70 undef, a.tmps.getD 71 undef, a.tmps.getD 72 undef, a.tmps.getD 73 undef, a.tmps.getD 74 undef, a.tmps.getD 75 undef, a.tmps.getD 76 undef, a.tmps.getD 77 undef, a.tmps.getD 78 undef, a.tmps.getD 79 undef, a.tmps.getD 80 undef, a.tmps.getD 81 undef, a.tmps.getD 82 undef, a.tmps.getD 83 undef, a.tmps.getD 84 undef, a.tmps.getD 85 undef, a.tmps.getD 86 undef, a.tmps.getD 87 undef, a.tmps.getD 88 undef, a.tmps.getD 89 undef, a.tmps.getD 90 undef, a.tmps.getD 91 undef, a.tmps.getD 92 undef, a.tmps.getD 93 undef, a.tmps.getD 94 undef, a.tmps.getD 95 undef, a.tmps.getD 96 undef, a.tmps.getD 97 undef, a.tmps.getD 98 undef, a.tmps.getD 99 undef, a.tmps.getD 100 undef, a.tmps.getD 101 undef, a.tmps.getD 102 undef, a.tmps.getD 103 undef, a.tmps.getD 104 undef, a.tmps.getD 105 undef, a.tmps.getD 106 undef, a.tmps.getD 107 undef, a.tmps.getD 108 undef, a.tmps.getD 109 undef] from rfl, getD_of k1, getD_of k3, getD_of k4, getD_of k5] at ha
      rw [ha]
      clear hall hold hz hd ha k1 k3 k4 k5
      generalize a.tmps.getD 0 undef = x0
      generalize a.tmps.getD 2 undef = x2
      generalize a.tmps.getD 6 undef = x6
      generalize a.tmps.getD 7 undef = x7
      generalize a.tmps.getD 8 undef = x8
      generalize a.tmps.getD 9 undef = x9
      generalize a.tmps.getD 10 undef = x10
      generalize a.tmps.getD 11 undef = x11
      generalize a.tmps.getD 12 undef = x12
      generalize a.tmps.getD 13 undef = x13
      generalize a.tmps.getD 14 undef = x14
      generalize a.tmps.getD 15 undef = x15
      generalize a.tmps.getD 16 undef = x16
      generalize a.tmps.getD 17 undef = x17
      generalize a.tmps.getD 18 undef = x18
      generalize a.tmps.getD 19 undef = x19
      generalize a.tmps.getD 20 undef = x20
      generalize a.tmps.getD 21 undef = x21
      generalize a.tmps.getD 22 undef = x22
      generalize a.tmps.getD 23 undef = x23
      generalize a.tmps.getD 24 undef = x24
      generalize a.tmps.getD 25 undef = x25
      generalize a.tmps.getD 26 undef = x26
      generalize a.tmps.getD 27 undef = x27
      generalize a.tmps.getD 28 undef = x28
      generalize a.tmps.getD 29 undef = x29
      generalize a.tmps.getD 30 undef = x30
      generalize a.tmps.getD 31 undef = x31
      generalize a.tmps.getD 32 undef = x32
      generalize a.tmps.getD 33 undef = x33
      generalize a.tmps.getD 34 undef = x34
      generalize a.tmps.getD 35 undef = x35
      generalize a.tmps.getD 36 undef = x36
      generalize a.tmps.getD 37 undef = x37
      generalize a.tmps.getD 38 undef = x38
      generalize a.tmps.getD 39 undef = x39
      generalize a.tmps.getD 40 undef = x40
      generalize a.tmps.getD 41 undef = x41
      generalize a.tmps.getD 42 undef = x42
      generalize a.tmps.getD 43 undef = x43
      generalize a.tmps.getD 44 undef = x44
      generalize a.tmps.getD 45 undef = x45
      generalize a.tmps.getD 46 undef = x46
      generalize a.tmps.getD 47 undef = x47
      generalize a.tmps.getD 48 undef = x48
      generalize a.tmps.getD 49 undef = x49
      generalize a.tmps.getD 50 undef = x50
      generalize a.tmps.getD 51 undef = x51
      generalize a.tmps.getD 52 undef = x52
      generalize a.tmps.getD 53 undef = x53
      generalize a.tmps.getD 54 undef = x54
      generalize a.tmps.getD 55 undef = x55
      generalize a.tmps.getD 56 undef = x56
      generalize a.tmps.getD 57 undef = x57
      generalize a.tmps.getD 58 undef = x58
      generalize a.tmps.getD 59 undef = x59
      generalize a.tmps.getD 60 undef = x60
      generalize a.tmps.getD 61 undef = x61
      generalize a.tmps.getD 62 undef = x62
      generalize a.tmps.getD 63 undef = x63
      generalize a.tmps.getD 64 undef = x64
      generalize a.tmps.getD 65 undef = x65
      generalize a.tmps.getD 66 undef = x66
      generalize a.tmps.getD 67 undef = x67
      generalize a.tmps.getD 68 undef = x68
      generalize a.tmps.getD 69 undef = x69
      generalize a.tmps.getD 70 undef = x70
      generalize a.tmps.getD 71 undef = x71
      generalize a.tmps.getD 72 undef = x72
      generalize a.tmps.getD 73 undef = x73
      generalize a.tmps.getD 74 undef = x74
      generalize a.tmps.getD 75 undef = x75
      generalize a.tmps.getD 76 undef = x76
      generalize a.tmps.getD 77 undef = x77
      generalize a.tmps.getD 78 undef = x78
      generalize a.tmps.getD 79 undef = x79
      generalize a.tmps.getD 80 undef = x80
      generalize a.tmps.getD 81 undef = x81
      generalize a.tmps.getD 82 undef = x82
      generalize a.tmps.getD 83 undef = x83
      generalize a.tmps.getD 84 undef = x84
      generalize a.tmps.getD 85 undef = x85
      generalize a.tmps.getD 86 undef = x86
      generalize a.tmps.getD 87 undef = x87
      generalize a.tmps.getD 88 undef = x88
      generalize a.tmps.getD 89 undef = x89
      generalize a.tmps.getD 90 undef = x90
      generalize a.tmps.getD 91 undef = x91
      generalize a.tmps.getD 92 undef = x92
      generalize a.tmps.getD 93 undef = x93
      generalize a.tmps.getD 94 undef = x94
      generalize a.tmps.getD 95 undef = x95
      generalize a.tmps.getD 96 undef = x96
      generalize a.tmps.getD 97 undef = x97
      generalize a.tmps.getD 98 undef = x98
      generalize a.tmps.getD 99 undef = x99
      generalize a.tmps.getD 100 undef = x100
      generalize a.tmps.getD 101 undef = x101
      generalize a.tmps.getD 102 undef = x102
      generalize a.tmps.getD 103 undef = x103
      generalize a.tmps.getD 104 undef = x104
      generalize a.tmps.getD 105 undef = x105
      generalize a.tmps.getD 106 undef = x106
      generalize a.tmps.getD 107 undef = x107
      generalize a.tmps.getD 108 undef = x108
      generalize a.tmps.getD 109 undef = x109
      rename_i y5
      have HS5 : Hid (SL .i64 3 W w2.heap.size y5 ([c.z.b, c.z.s] ++ [c.z.p.m, c.z.p.k, c.z.p.v, c.z.p.u])) := Lib.hid s5
      have HL5 := Lib.hid hl
      have f19 := HA2.out.later hl 19 _ HF.out.c19
      have f20 := HA2.out.later hl 20 _ HF.out.c20
      have f21 := HA2.out.later hl 21 _ HF.out.c21
      have f22 := HA2.out.later hl 22 _ HF.out.c22
      clear s5 hl
      go_wp2_with fail
      refine (KT.out _ _ _ _ _).mono ?_
      rintro e w3 ⟨r, rfl, hr, hg3⟩
      have HR3 := Lib.hid hr.sk
      have HL3 := Lib.hid (gtrans HL5.out hg3)
      have HS3 := Lib.hid (HS5.out.later hg3)
      clear hr hg3 f19 f20 f21 f22
      go_wp2_with (refine append_ints rfl (.tmp 29) (.tmp 33) rfl w2 HL3.out _ _ rfl HS3.out _ _ rfl HR3.out (by simp) ?_; intro v6 w6 ho6 hg6; have HO6 : Hid (SL .i64 3 w6 w2.heap.size v6 (Ka.r4 c.z)) := Lib.hid ho6; have HL6 := Lib.hid hg6; clear ho6 hg6)
      go_loopw [6, 7] (fun v i wr => MRel c.s w6 v i wr) (fun _ i _ => 12 - (intOf i).toNat)
      case atStart => exact ⟨0, by omega, rfl, SL.nil _ _ _ _, Later.refl _⟩
      case round =>
        obtain ⟨k, hk, rfl, ho, hg⟩ := hrel
        have HG := Lib.hid hg
        have HO := Lib.hid ho
        clear hg ho
        by_cases hlt : k < 12
        · have cx := HA2.out.later (gtrans HL6.out HG.out) (23 + k) _ (HF.out.sun k hlt)
          have hki : (k : Int) < 12 := by omega
          have HX := Lib.hid (r5_on c.s k hlt)
          have HSN := Lib.hid (sl_new wr 0 (Nat.zero_le _) [c.s k] (by simp)).sk
          have HGP := Lib.hid (HG.out.put (.cells #[.int .i64 (c.s k)] 3))
          have HOP := Lib.hid (HO.out.later ((Later.refl wr).put (.cells #[.int .i64 (c.s k)] 3)))
          have HTL : Hid (((Ka.r5 c.s).take k).length + [c.s k].length ≤ 100000) := Lib.hid (by rw [List.length_take]; simp; omega)
          generalize c.s k = xk at *
          go_wp2_with (refine append_ints rfl (.tmp 39) (.tmp 44) rfl w6 HGP.out _ _ rfl HOP.out _ [xk] rfl HSN.out HTL.out ?_; intro v7 w7 ho7 hg7; have HO7 := Lib.hid ho7; have HG7 := Lib.hid hg7; clear ho7 hg7)
          go_roundw
          case rel => exact ⟨k + 1, by omega, by go_num, by rw [HX.out]; exact HO7.out, HG7.out⟩
          case measure => simp [intOf]; omega
        · obtain rfl : k = 12 := by omega
          obtain ⟨w8, hw8⟩ : ∃ w8, w8 = wr := ⟨_, rfl⟩
          subst hw8
          have HO8 : Hid (SL .i64 3 w8 w6.heap.size u6 (Ka.r5 c.s)) := Lib.hid (by have := HO.out; rwa [List.take_of_length_le (by simp [Ka.r5])] at this)
          have HLW8 := Lib.hid (gtrans HL2.out (gtrans HL6.out HG.out))
          have H28 := Lib.hid (gtrans HL6.out HG.out)
          clear hlt hk
          go_wp2_with fail
          go_loopw [8, 9] (fun v i wr => XRel c.ws w8 v i wr) (fun _ i _ => n - (intOf i).toNat)
          case atStart => exact ⟨0, by omega, rfl, SL.nil _ _ _ _, Later.refl _⟩
          case round =>
            obtain ⟨k, hk, rfl, ho, hg⟩ := hrel
            rw [HLn.out] at hk
            have HGx := Lib.hid hg
            have HOx := Lib.hid ho
            clear ho hg
            have c36 := HA2.out.later (gtrans H28.out HGx.out) 36 _ HF.out.v36
            have hMn := HM.out
            by_cases hlt : k < n
            · obtain ⟨B, off, cap', e, hm', hB, hc⟩ := HV.out.has (by rw [HLn.out]; omega)
              simp only [Value.slice.injEq] at e
              obtain ⟨rfl, _, rfl⟩ := e
              obtain ⟨x, hx⟩ : ∃ x, c.ws[k]? = some x := ⟨_, List.getElem?_eq_getElem (by rw [HLn.out]; exact hlt)⟩
              have hr := hc k x hx
              have HR : Hid (wr.rangeAt B (off + k * 7) (wc x)) := Lib.hid (fun j y hy => gsome (gtrans HLW8.out HGx.out) (hr j y hy))
              have ad : ∀ j, (⟨B, off, none⟩ : Addr).add j = ⟨B, off + j, none⟩ := Addr.add_mid B off
              have HZ : Hid ((Ka.r6 (c.ws.take k)).length = k * 7) := Lib.hid (by rw [Ka.wr_len, List.length_take, HLn.out, Nat.min_eq_left (by omega)])
              have HT := Lib.hid (r6_on c.ws k x hx)
              have HX := Lib.hid hx
              have HSN : Hid (Sk .i64 ((wr.alloc (.cells #[.int .i64 x.k, .int .i64 x.m, .int .i64 x.p, .int .i64 x.a, .int .i64 x.h, .int .i64 x.u, .int .i64 x.l] 58)).alloc (.cells #[.int .i64 x.k, .int .i64 x.m, .int .i64 x.p, .int .i64 x.a, .int .i64 x.h, .int .i64 x.u, .int .i64 x.l] 3)) (.slice (some ⟨wr.heap.size + 1, 0, none⟩) 7 7) (Ka.wr x)) := Lib.hid (by
                have h := (sl_new (wr.alloc (.cells #[.int .i64 x.k, .int .i64 x.m, .int .i64 x.p, .int .i64 x.a, .int .i64 x.h, .int .i64 x.u, .int .i64 x.l] 58)) 0 (Nat.zero_le _) (Ka.wr x) (by simp [Ka.wr])).sk
                rw [World.size_alloc] at h
                exact h)
              have HPP : Hid (Later wr ((wr.alloc (.cells #[.int .i64 x.k, .int .i64 x.m, .int .i64 x.p, .int .i64 x.a, .int .i64 x.h, .int .i64 x.u, .int .i64 x.l] 58)).alloc (.cells #[.int .i64 x.k, .int .i64 x.m, .int .i64 x.p, .int .i64 x.a, .int .i64 x.h, .int .i64 x.u, .int .i64 x.l] 3))) := Lib.hid (((Later.refl wr).put _).put _)
              have HBN : Hid ((Ka.r6 (c.ws.take k)).length + (Ka.wr x).length ≤ 100000) := Lib.hid (by have e1 := HZ.out; have e2 : (Ka.wr x).length = 7 := rfl; have := HN.out; omega)
              clear hr hx hc hB hm'
              go_wp2_with (first
                | (refine load_win x rfl (.tmp 56) rfl B (off + k * 7) rfl HR.out ?_)
                | (refine append_ints rfl (.tmp 58) (.tmp 73) rfl w8 (gtrans HGx.out HPP.out) _ _ rfl (HOx.out.later HPP.out) _ _ rfl HSN.out HBN.out ?_; intro v9 w9 ho9 hg9; have HO9 := Lib.hid ho9; have HG9 := Lib.hid hg9; clear ho9 hg9))
              go_roundw
              case rel =>
                iterate 32 (apply Exists.intro)
                refine ⟨?_, rfl⟩
                exact ⟨k + 1, by rw [HLn.out]; omega, by go_num, by rw [HT.out]; exact HO9.out, HG9.out⟩
              case measure => simp [intOf]; omega
            · have HO9 : Hid (SL .i64 3 wr w8.heap.size u8 (Ka.r6 c.ws)) := Lib.hid (by
                have h := HOx.out
                rwa [List.take_of_length_le (by rw [HLn.out]; omega)] at h)
              obtain rfl : k = n := by omega
              obtain ⟨_, _, rfl, _⟩ := HO6.out.sk.len
              obtain ⟨_, _, rfl, _⟩ := HO8.out.sk.len
              obtain ⟨_, _, rfl, _⟩ := HO9.out.sk.len
              have HLr := Lib.hid (gtrans H28.out HGx.out)
              have PA : Hid (Later w2 (wr.alloc (.cells #[.int .i64 c.f, .int .i64 c.n, .int .i64 c.p, .int .i64 c.r, .int .i64 c.q, .int .i64 0] 3))) := Lib.hid (HLr.out.put _)
              have PB : Hid (Later w2 ((wr.alloc (.cells #[.int .i64 c.f, .int .i64 c.n, .int .i64 c.p, .int .i64 c.r, .int .i64 c.q, .int .i64 0] 3)).alloc (.cells #[.int .i64 c.t, .int .i64 c.l, .int .i64 c.o, .int .i64 c.d, .int .i64 c.e, .int .i64 c.c, .int .i64 c.h] 3))) := Lib.hid (PA.out.put _)
              have g0 := HA2.out.later HLr.out 0 _ HF.out.c0
              have g1 := HA2.out.later HLr.out 1 _ HF.out.c1
              have g2 := HA2.out.later HLr.out 2 _ HF.out.c2
              have g3 := HA2.out.later PB.out 3 _ HF.out.u3
              have g11 := HA2.out.later HLr.out 11 _ HF.out.c11
              have g12 := HA2.out.later HLr.out 12 _ HF.out.c12
              have t0 : (wr.alloc (.cells #[.int .i64 c.f, .int .i64 c.n, .int .i64 c.p, .int .i64 c.r, .int .i64 c.q, .int .i64 0] 3)).cell? ⟨w.heap.size + 1, 0, none⟩ = some (.int .i64 c.t) := HT2.out.later PA.out 0 _ rfl
              have t1 : (wr.alloc (.cells #[.int .i64 c.f, .int .i64 c.n, .int .i64 c.p, .int .i64 c.r, .int .i64 c.q, .int .i64 0] 3)).cell? ⟨w.heap.size + 1, 1, none⟩ = some (.int .i64 c.l) := HT2.out.later PA.out 1 _ rfl
              have t2 : (wr.alloc (.cells #[.int .i64 c.f, .int .i64 c.n, .int .i64 c.p, .int .i64 c.r, .int .i64 c.q, .int .i64 0] 3)).cell? ⟨w.heap.size + 1, 2, none⟩ = some (.int .i64 c.o) := HT2.out.later PA.out 2 _ rfl
              have t3 : (wr.alloc (.cells #[.int .i64 c.f, .int .i64 c.n, .int .i64 c.p, .int .i64 c.r, .int .i64 c.q, .int .i64 0] 3)).cell? ⟨w.heap.size + 1, 3, none⟩ = some (.int .i64 c.d) := HT2.out.later PA.out 3 _ rfl
              have t4 : (wr.alloc (.cells #[.int .i64 c.f, .int .i64 c.n, .int .i64 c.p, .int .i64 c.r, .int .i64 c.q, .int .i64 0] 3)).cell? ⟨w.heap.size + 1, 4, none⟩ = some (.int .i64 c.e) := HT2.out.later PA.out 4 _ rfl
              have t5 : (wr.alloc (.cells #[.int .i64 c.f, .int .i64 c.n, .int .i64 c.p, .int .i64 c.r, .int .i64 c.q, .int .i64 0] 3)).cell? ⟨w.heap.size + 1, 5, none⟩ = some (.int .i64 c.c) := HT2.out.later PA.out 5 _ rfl
              have t6 : (wr.alloc (.cells #[.int .i64 c.f, .int .i64 c.n, .int .i64 c.p, .int .i64 c.r, .int .i64 c.q, .int .i64 0] 3)).cell? ⟨w.heap.size + 1, 6, none⟩ = some (.int .i64 c.h) := HT2.out.later PA.out 6 _ rfl
              go_wp2_with fail
              go_ret
              have hr1 : Ka.r1 c = [c.f, c.n, c.p, c.r, c.q, 0] := by unfold Ka.r1; rw [HBB.out]; rfl
              have hA := sl_new wr 0 (Nat.zero_le _) [c.f, c.n, c.p, c.r, c.q, 0] (by simp)
              have hB := sl_new (wr.alloc (.cells ([c.f, c.n, c.p, c.r, c.q, 0].map (Value.int .i64)).toArray 3)) 0 (Nat.zero_le _) (Ka.r3 c) (by simp [Ka.r3])
              rw [← hr1] at hA hB
              have p1 := (Later.refl wr).put (.cells ((Ka.r1 c).map (Value.int .i64)).toArray 3)
              have p2 := p1.put (.cells ((Ka.r3 c).map (Value.int .i64)).toArray 3)
              have hk := rk_new _ c (u := .slice ad3 n3 cap3) (hA.later ((Later.refl _).put (.cells ((Ka.r3 c).map (Value.int .i64)).toArray 3))) hB (By.SL.base (HO6.out.later (gtrans HG.out (gtrans HGx.out p2))) (Nat.zero_le _)) (By.SL.base (HO8.out.later (gtrans HGx.out p2)) (Nat.zero_le _)) (By.SL.base (HO9.out.later p2) (Nat.zero_le _))
              rw [hr1] at hk
              simp only [World.size_alloc] at hk
              exact ⟨_, rfl, hk, gtrans HLW8.out (gtrans HGx.out (((((Later.refl wr).put _).put _).put _)))⟩

end Go.Proofs.YtpkjbcgmhkkfiaaGreatDoor.Cod

/- What the document's answers of layer 8 come to: a number's bytes, a row's bytes; and whether two rows, of bytes or of numbers, are the same. Conditions: the numbers are ints; a row has at most 1000 of them. -/
namespace Go.Proofs.YtpkjbcgmhkkfiaaGreatDoor.Wire
open Go.ChangeShapes Go.WideShapes Go.ChangeAt Go.RowKit
open Go.Proofs.YtpkjbcgmhkkfiaaGreatDoor.Divs Go.Proofs.YtpkjbcgmhkkfiaaGreatDoor.Grow Go.Proofs.YtpkjbcgmhkkfiaaGreatDoor.By Go.Proofs.YtpkjbcgmhkkfiaaGreatDoor.Wi

def PRel (n : Int) (w : World) (c v : Value) (wr : World) : Prop :=
  ∃ (pre : List Int) (x : Int), pre.length ≤ 9 ∧ c = .int .u64 x ∧ SL .u8 5 wr w.heap.size v pre ∧ pu n = pre ++ dgs (9 - pre.length) x ∧ 0 ≤ x ∧ x < bd (9 - pre.length) ∧ x < 18446744073709551616 ∧ Later w wr

set_option maxHeartbeats 1000000 in
theorem rput_any (n : Int) (w : World) (h : In n) : Calls Tryz.prog 69 #[.int .i64 n] w fun e w' => ∃ v, e = .returned v ∧ SL .u8 5 w' w.heap.size v (pu n) ∧ Later w w' := by
  have C := Lib.hid (fun W => rcode_any n W h)
  have c0 := cd_nn n
  have c1 := cd_lt n h.1 h.2
  obtain ⟨i0, hi, hz0, hz1, hz2⟩ := info_parts info_byte
  have HI := Lib.hid hi
  have HZ0 := Lib.hid hz0
  have HZ1 := Lib.hid hz1
  have HZ2 := Lib.hid hz2
  clear hi hz0 hz1 hz2
  go_enter Tryz.func69, Tryz.ntmps69
  go_wp2_with fail
  refine (C.out _).mono ?_
  rintro e w1 ⟨rfl, rfl⟩
  go_wp2_with fail
  go_loopw [3, 4] (fun c v wr => PRel n w c v wr) (fun c _ _ => (intOf c).toNat)
  case atStart => exact ⟨[], cd n, by simp, rfl, SL.nil _ _ _ _, by simp [pu], c0, by simpa [bd] using c1, c1, Later.refl _⟩
  case round =>
    obtain ⟨pre, x, hp, rfl, hs, hd, x0, x1, x2, hg⟩ := hrel
    have HD := Lib.hid hd
    have HX := Lib.hid x1
    have HO := Lib.hid hs
    have HG := Lib.hid hg
    clear hd x1 hs hg
    by_cases hx : 128 ≤ x
    · have t : decide (128 ≤ x) = true := by simpa using hx
      obtain ⟨g, hg⟩ : ∃ g, 9 - pre.length = g + 1 := by
        refine ⟨9 - pre.length - 1, ?_⟩
        have := HX.out
        rcases Nat.eq_zero_or_pos (9 - pre.length) with h0 | h0
        · rw [h0] at this; simp only [bd] at this; omega
        · omega
      have HJ := Lib.hid hg
      clear hg
      go_wp2_with (at_builtin; go_loud (refine wpList_append_own _ rfl _ _ 36 rfl w.heap.size 5 i0 (.int .u8 0) 1 1 Tryz.underlying36 HI.out HZ0.out HZ1.out HZ2.out rfl (by decide) _ _ _ rfl (World.ownsRow.alloc HO.out _) ⟨wr.heap.size, 0, none⟩ 1 1 [.int .u8 (x % 128 + 128)] rfl rfl (cell_one_new _ _ _) (by simp [Value.oneCell']) (by simp only [maxLen]; omega) (by omega) (by have := HG.out.size; simp only [World.size_alloc] at this ⊢; omega) ?_); go_loud (intro v' w4 hown' hgrow _; have HG4 := Lib.hid (later_grown (HG.out.put _) (HO.out.later ((Later.refl _).put _)) hgrow); have HO4 : Hid (SL .u8 5 w4 w.heap.size v' (pre ++ [x % 128 + 128])) := Lib.hid (by unfold SL; rw [List.length_append, List.map_append]; exact hown'); clear hown' hgrow))
      go_roundw
      case rel =>
        refine ⟨pre ++ [x % 128 + 128], x / 128, by have := HJ.out; simp; omega, rfl, HO4.out, ?_, by omega, ?_, by omega, HG4.out⟩
        · rw [HD.out, HJ.out, dgs, if_pos hx, List.append_assoc, List.length_append, List.length_singleton, show 9 - (pre.length + 1) = g by have := HJ.out; omega]
          rfl
        · have := HX.out
          rw [HJ.out, bd] at this
          rw [List.length_append, List.length_singleton, show 9 - (pre.length + 1) = g by have := HJ.out; omega]
          omega
      case measure => simp [intOf]; omega
    · have e : pre ++ [x] = pu n := by
        rw [HD.out]
        cases 9 - pre.length with
        | zero => rfl
        | succ f => rw [dgs, if_neg hx]
      have HE := Lib.hid e
      clear e
      go_wp2_with (at_builtin; go_loud (refine wpList_append_own _ rfl _ _ 36 rfl w.heap.size 5 i0 (.int .u8 0) 1 1 Tryz.underlying36 HI.out HZ0.out HZ1.out HZ2.out rfl (by decide) _ _ _ rfl (World.ownsRow.alloc HO.out _) ⟨wr.heap.size, 0, none⟩ 1 1 [.int .u8 x] rfl rfl (cell_one_new _ _ _) (by simp [Value.oneCell']) (by simp only [maxLen]; omega) (by omega) (by have := HG.out.size; simp only [World.size_alloc] at this ⊢; omega) ?_); go_loud (intro v' w4 hown' hgrow _; have HG4 := Lib.hid (later_grown (HG.out.put _) (HO.out.later ((Later.refl _).put _)) hgrow); have HO4 : Hid (SL .u8 5 w4 w.heap.size v' (pre ++ [x])) := Lib.hid (by unfold SL; rw [List.length_append, List.map_append]; exact hown'); clear hown' hgrow))
      go_ret
      exact ⟨_, rfl, by rw [← HE.out]; exact HO4.out, HG4.out⟩

def QRel (l : List Int) (w : World) (v i : Value) (wr : World) : Prop := ∃ j : Nat, j ≤ l.length ∧ i = .int .i64 (j : Int) ∧ SL .u8 5 wr w.heap.size v (rb l j) ∧ Later w wr

theorem rrow_nil (ad : Option Addr) (cap : Nat) (w : World) : Calls Tryz.prog 49 #[.slice ad 0 cap] w fun e w' => ∃ v, e = .returned v ∧ Sk .u8 w' v (ro []) ∧ Later w w' := by
  have P := Lib.hid (fun W => rput_any 0 W ⟨by omega, by omega⟩)
  go_enter Tryz.func49, Tryz.ntmps49
  go_wp2_with fail
  refine (P.out _).mono ?_
  rintro e w1 ⟨v, rfl, hs, hg⟩
  go_wp2
  refine wp_loop_rounds 1 ?_
  rw [rounds_succ]
  go_wp2
  go_ret
  refine ⟨_, rfl, ?_, hg⟩
  have := hs.sk
  simpa [ro] using this

set_option maxHeartbeats 1000000 in
theorem rrow_some (l : List Int) (b off cap : Nat) (w : World) (hp : 0 < l.length) (hn : l.length ≤ 1000) (hl : ∀ n ∈ l, In n) (hc : ∀ i, i < l.length → w.cell? ⟨b, off + i, none⟩ = some (.int .i64 (l.getD i 0))) :
    Calls Tryz.prog 49 #[.slice (some ⟨b, off, none⟩) l.length cap] w fun e w' => ∃ v, e = .returned v ∧ Sk .u8 w' v (ro l) ∧ Later w w' := by
  have P := Lib.hid (fun n W (h : In n) => rput_any n W h)
  have HC := Lib.hid hc
  have HN := Lib.hid hl
  obtain ⟨i0, hi, hz0, hz1, hz2⟩ := info_parts info_byte
  have HI := Lib.hid hi
  have HZ0 := Lib.hid hz0
  have HZ1 := Lib.hid hz1
  have HZ2 := Lib.hid hz2
  clear hi hz0 hz1 hz2 hc hl
  go_enter Tryz.func49, Tryz.ntmps49
  go_wp2_with fail
  refine (P.out _ _ ⟨by omega, by omega⟩).mono ?_
  rintro e w1 ⟨v, rfl, hs, hg⟩
  have HS := Lib.hid hs
  have HG := Lib.hid hg
  clear hs hg
  go_wp2_with fail
  go_loopw [3, 4] (fun v i wr => QRel l w v i wr) (fun _ i _ => l.length - (intOf i).toNat)
  case atStart => exact ⟨0, by omega, rfl, by rw [rb_zero]; exact HS.out, HG.out⟩
  case round =>
    obtain ⟨j, hj, rfl, hs, hg⟩ := hrel
    have HO := Lib.hid hs
    have HR := Lib.hid hg
    clear hs hg
    by_cases hlt : j < l.length
    · obtain ⟨x, hx⟩ : ∃ x, l[j]? = some x := ⟨_, List.getElem?_eq_getElem hlt⟩
      have c : wr.cell? ⟨b, off + j, none⟩ = some (.int .i64 x) := by
        have := gsome HR.out (HC.out j hlt)
        rwa [List.getD_eq_getElem?_getD, hx] at this
      have HX := Lib.hid (HN.out x (List.mem_of_getElem? hx))
      have HB := Lib.hid (rb_succ l j x hx)
      have z0 := rz_le l j
      have z1 := pu_len x
      have z2 := rb_len l j
      have HP := Lib.hid (pu_pos x)
      have HL := Lib.hid (show (rb l j).length + (pu x).length ≤ 100000 by omega)
      clear hx z0 z1 z2
      go_wp2_with fail
      refine (P.out _ _ HX.out).mono ?_
      rintro e w2 ⟨u, rfl, hs2, hg2⟩
      obtain ⟨g', cap', rfl, hcell⟩ := hs2.has HP.out
      have HG2 := Lib.hid (gtrans HR.out hg2)
      have HO2 := Lib.hid (HO.out.later hg2)
      have HCell := Lib.hid hcell
      clear hs2 hg2 hcell c
      go_wp2_with (at_builtin; go_loud (refine wpList_append_own _ rfl _ _ 36 rfl w.heap.size 5 i0 (.int .u8 0) 1 1 Tryz.underlying36 HI.out HZ0.out HZ1.out HZ2.out rfl (by decide) _ _ _ rfl HO2.out ⟨g', 0, none⟩ (pu x).length cap' ((pu x).map (Value.int .u8)) rfl (by simp) HCell.out (by intro u hu; obtain ⟨y, _, rfl⟩ := List.mem_map.1 hu; rfl) (by have := HL.out; simp only [maxLen]; omega) (by have := HL.out; omega) (HG2.out.size) ?_); go_loud (intro v' w4 hown' hgrow _; have HG4 := Lib.hid (later_grown HG2.out HO2.out hgrow); have HO4 : Hid (SL .u8 5 w4 w.heap.size v' (rb l j ++ pu x)) := Lib.hid (by unfold SL; rw [List.length_append, List.map_append]; exact hown'); clear hown' hgrow))
      go_roundw
      case rel => exact ⟨j + 1, by omega, by go_num, by rw [HB.out]; exact HO4.out, HG4.out⟩
      case measure => simp [intOf]; omega
    · obtain rfl : j = l.length := by omega
      go_wp2
      go_ret
      exact ⟨_, rfl, by have := HO.out.sk; rwa [rb_all] at this, HR.out⟩

theorem rrow_any (l : List Int) (v : Value) (w : World) (hs : Sk .i64 w v l) (hn : l.length ≤ 1000) (hl : ∀ n ∈ l, In n) :
    Calls Tryz.prog 49 #[v] w fun e w' => ∃ v, e = .returned v ∧ Sk .u8 w' v (ro l) ∧ Later w w' := by
  rcases Nat.eq_zero_or_pos l.length with h | h
  · obtain rfl := List.length_eq_zero_iff.1 h
    obtain ⟨ad, cap, rfl, _⟩ := hs.bare
    exact rrow_nil ad cap w
  · obtain ⟨b, off, cap, rfl, _, _, _, hc⟩ := hs.has h
    exact rrow_some l b off cap w h hn hl hc

end Go.Proofs.YtpkjbcgmhkkfiaaGreatDoor.Wire

/- What Encode answers is the document's bytes. Condition: the variables lie where the program lays them. -/
namespace Go.Proofs.YtpkjbcgmhkkfiaaGreatDoor.Cod
set_option maxRecDepth 100000
set_option linter.unusedVariables false
open Go.ChangeShapes Go.WideShapes Go.ChangeAt Go.RowKit
open Go.Proofs.YtpkjbcgmhkkfiaaGreatDoor.Divs Go.Proofs.YtpkjbcgmhkkfiaaGreatDoor.Grow Go.Proofs.YtpkjbcgmhkkfiaaGreatDoor.Zone
open Go.Proofs.YtpkjbcgmhkkfiaaGreatDoor.By (Sk SL)
open Go.Proofs.YtpkjbcgmhkkfiaaGreatDoor.Zo Go.Proofs.YtpkjbcgmhkkfiaaGreatDoor.Su Go.Proofs.YtpkjbcgmhkkfiaaGreatDoor.Cf Go.Proofs.YtpkjbcgmhkkfiaaGreatDoor.Conf

set_option maxHeartbeats 2000000 in
theorem lay_any (c : Cg) (uS r : Value) (w : World) (hr : Rk w r c uS) (hu : Sk .i64 w uS c.st) (h : ce c = 0) (hn : c.st.length ≤ 200) : Calls Tryz.prog 28 #[r] w fun e w' => ∃ u, e = .returned u ∧ Sk .u8 w' u (Ka.en c) ∧ Later w w' := by
  have hw := (Ka.ce_parts h).2.2.2.2.2.1
  have hf := Ka.fit_ok h
  have HUS := Lib.hid hu
  have KW := Lib.hid (fun k u W (hk : k < 6) (hs : Sk .i64 W u (Ka.rw6 c k)) => Wire.rrow_any (Ka.rw6 c k) u W hs (by have := Ka.rw_len (c := c) k hk hn hw; omega) (hf k hk))
  have HB := Lib.hid (fun k hk => Ka.rws_byte hf hn hw k hk)
  have HN := Lib.hid (fun k hk => Ka.rws_len (c := c) k hk hn hw)
  have HM := Lib.hid (fun k hk => (Ka.rw_len (c := c) k hk hn hw))
  have KS := Lib.hid (fun u W (hs : Sk .u8 W u (Ka.by6 c)) (hb : ∀ x ∈ Ka.by6 c, 0 ≤ x ∧ x ≤ 255) (hl : (Ka.by6 c).length ≤ 20000) => Crc.rseal_any (Ka.by6 c) u W hs hb hl)
  obtain ⟨g, us, rfl, hrow, hus, hown⟩ := hr
  have HR := Lib.hid hrow
  have HS := Lib.hid hown
  have HE1 := Lib.hid hus
  have HP3 := Lib.hid ((Later.refl w).put (.cells #[.int .u8 78, .int .u8 87, .int .u8 1] 5))
  have HO3 : Hid (SL .u8 5 (w.alloc (.cells #[.int .u8 78, .int .u8 87, .int .u8 1] 5)) w.heap.size (.slice (some ⟨w.heap.size, 0, none⟩) 3 3) (Ka.hd ++ Ka.rws c 0)) := Lib.hid ⟨by simp [Ka.hd, Ka.rws], .inr ⟨w.heap.size, 3, #[.int .u8 78, .int .u8 87, .int .u8 1], rfl, Nat.le_refl _, heap_alloc_new _ _, by simp [Ka.hd, Ka.rws], by decide, rfl, rfl⟩⟩
  clear hrow hown hus hu h hf hw hn
  go_enter Tryz.func28, Tryz.ntmps28
  go_wp2_with fail
  go_loopw [3, 4] (fun v i wr => ERel c g us w v i wr) (fun _ i _ => 6 - (intOf i).toNat)
  case atStart => exact ⟨0, by omega, rfl, HO3.out, HP3.out, HR.out.later HP3.out, fun k hk hn => (HS.out k hk hn).later HP3.out⟩
  case round =>
    obtain ⟨k, hk, rfl, ho, hg, hr, hs⟩ := hrel
    have HO := Lib.hid ho
    have HG := Lib.hid hg
    have HRr := Lib.hid hr
    have HSr := Lib.hid hs
    clear ho hg hr hs
    by_cases hlt : k < 6
    · have c1 : wr.cell? ⟨g, k, none⟩ = some (us k) := HRr.out.cell k (us_get us k hlt)
      have HS1 : Hid (Sk .i64 wr (us k) (Ka.rw6 c k)) := Lib.hid (by
        by_cases h1 : k = 1
        · subst h1
          rw [HE1.out]
          exact HUS.out.later HG.out
        · exact (HSr.out k hlt h1).sk)
      have HK2 := Lib.hid hlt
      generalize us k = uk at c1 HS1
      go_wp2_with fail
      refine (KW.out k _ _ HK2.out HS1.out).mono ?_
      rintro e w4 ⟨x, rfl, hx, hg4⟩
      have HX := Lib.hid hx
      have HG4 := Lib.hid (gtrans HG.out hg4)
      have HO4 := Lib.hid (HO.out.later hg4)
      have HR4 := Lib.hid (HRr.out.later hg4)
      have HS4 := Lib.hid (fun k hk hn => (HSr.out k hk hn).later hg4)
      clear hx hg4 c1
      have hb : (Ka.hd ++ Ka.rws c k).length + (Wi.ro (Ka.rw6 c k)).length ≤ 100000 := by
        have a := HN.out k hk
        have b := HM.out k hlt
        have d := Wi.ro_len (Ka.rw6 c k)
        have e3 : Ka.hd.length = 3 := rfl
        rw [List.length_append]
        omega
      have HBD := Lib.hid hb
      have HP : Hid (0 < (Wi.ro (Ka.rw6 c k)).length) := Lib.hid (by
        have := Wi.pu_pos (Ka.rw6 c k).length
        unfold Wi.ro
        rw [List.length_append]
        omega)
      clear hb
      go_wp2_with (refine append_bytes_g rfl (.tmp 12) (.tmp 17) rfl w HG4.out _ _ rfl HO4.out _ _ rfl HX.out HP.out HBD.out ?_; intro v5 w5 ho5 hg5 hb5; have HO5 := Lib.hid ho5; have HG5 := Lib.hid hg5; have HR5 := Lib.hid (row_apart HO4.out hb5 (by decide) HR4.out); have HS5 := Lib.hid (fun k hk hn => own_apart HO4.out hb5 (by decide) (HS4.out k hk hn)); clear ho5 hg5 hb5)
      go_roundw
      case rel => exact ⟨k + 1, by omega, by go_num, by rw [Ka.rws, ← List.append_assoc]; exact HO5.out, HG5.out, HR5.out, HS5.out⟩
      case measure => simp [intOf]; omega
    · obtain rfl : k = 6 := by omega
      go_wp2_with fail
      refine (KS.out _ _ HO.out.sk (HB.out 6 (by omega)) (by have := HN.out 6 (by omega); unfold Ka.by6; rw [List.length_append]; have e3 : Ka.hd.length = 3 := rfl; omega)).mono ?_
      rintro e w6 ⟨x, rfl, hx, hg6⟩
      go_wp2_with fail
      go_ret
      exact ⟨_, rfl, hx, gtrans HG.out hg6⟩

set_option maxHeartbeats 2000000 in
theorem renc_of (D : Array Value) (c : Cg) (w : World) (hD : Is w D c) (h : ce c = 0) (hn : c.st.length ≤ 200) (hm : c.ws.length ≤ 200) : Calls Tryz.prog 13 #[.agg D] w fun e w' => ∃ u, e = .returned u ∧ Sk .u8 w' u (Ka.en c) ∧ Later w w' := by
  obtain ⟨uS, vW, eD, hu, hv⟩ := id hD
  have HUS := Lib.hid hu
  have HG := Lib.hid ((Later.refl w).alloc D 33)
  have HA := Lib.hid (At.new w D 33)
  have HZ := Lib.hid hD.size
  have KR : Hid (∀ W, Later w W → Calls Tryz.prog 29 #[.agg D] W fun e w' => ∃ r, e = .returned r ∧ Rk w' r c uS ∧ Later W w') := Lib.hid (fun W g => by rw [eD]; exact rows_a c uS vW W (hu.later g) (hv.later g) hm)
  have KL := Lib.hid (fun r W (g : Later w W) (hr : Rk W r c uS) => lay_any c uS r W hr (hu.later g) h hn)
  clear hD hu hv eD h
  go_enter Tryz.func13, Tryz.ntmps13
  go_wp2_with (refine load_at D HZ.out rfl (.tmp 1) rfl w.heap.size rfl HA.out ?_)
  refine (KR.out _ HG.out).mono ?_
  rintro e w1 ⟨r, rfl, hr, hg1⟩
  have HG1 := Lib.hid (gtrans HG.out hg1)
  have HRK := Lib.hid hr
  clear hr hg1
  go_wp2_with fail
  refine (KL.out _ _ HG1.out HRK.out).mono ?_
  rintro e w2 ⟨u, rfl, hu, hg2⟩
  go_wp2_with fail
  go_ret
  exact ⟨_, rfl, hu, gtrans HG1.out hg2⟩

set_option maxHeartbeats 4000000 in
theorem encodes_core (w : World) (a0 a1 : Addr) (hB : Base a0 a1 w) (D : Array Value) (c : Cg) (hc : Is w D c) :
    Calls Tryz.prog 3 #[.agg D] w fun e w' => e = .returned (.bool true) ∧ Later w w' := by
  have A := Lib.hid (fun W (g : Later w W) => awake_any W a0 a1 (hB.later g))
  have HB := Lib.hid hB
  have HC := Lib.hid hc
  have KF := Lib.hid (fun W (g : Later w W) => few_of (hc.later g))
  have KO := Lib.hid (fun W (g : Later w W) hf => own_of (hc.later g) hf)
  have KC := Lib.hid (fun W (g : Later w W) => rcheck_of (hc.later g))
  have HZ := Lib.hid hc.size
  have HL0 := Lib.hid ((Later.refl w).alloc D 33)
  have HA0 := Lib.hid (At.new w D 33)
  have HW := Lib.hid (fw_iff c)
  clear hc hB
  go_enter Tryz.func3, Tryz.ntmps3
  go_wp2_with (refine load_at D HZ.out rfl (.tmp 1) rfl w.heap.size rfl HA0.out ?_)
  refine (KF.out _ HL0.out).mono ?_
  rintro e w1 ⟨rfl, hg1⟩
  have HL1 := Lib.hid (gtrans HL0.out hg1)
  have HA1 := Lib.hid (HA0.out.later hg1)
  clear hg1 HA0
  cases e1 : fw c with
  | false =>
    go_wp2_with fail
    refine (A.out _ HL1.out).mono ?_
    rintro e w2 ⟨rfl, hg2⟩
    have HL2 := Lib.hid (gtrans HL1.out hg2)
    clear hg2
    go_wp2_with fail
    go_ret
    exact ⟨rfl, HL2.out⟩
  | true =>
    have HFW := Lib.hid e1
    have HST := Lib.hid (HW.out.mp e1)
    clear e1
    go_wp2_with (refine load_at D HZ.out rfl (.tmp 1) rfl w.heap.size rfl HA1.out ?_)
    refine (KO.out _ HL1.out HFW.out).mono ?_
    rintro e w2 ⟨E, rfl, ho, hg2⟩
    have HL2 := Lib.hid (gtrans HL1.out hg2)
    have HA2 := Lib.hid (HA1.out.later hg2)
    have HE := Lib.hid ho.is
    clear ho hg2 HA1
    go_wp2_with fail
    have KE := Lib.hid (enc_of E c w2 HE.out (HB.out.later HL2.out).laid (by have := HST.out.1; omega))
    refine KE.out.mono ?_
    rintro e w3 ⟨u, rfl, hu, hg3⟩
    have HU := Lib.hid hu.sk
    have HL3 := Lib.hid (gtrans HL2.out hg3)
    have HA3 := Lib.hid (HA2.out.later hg3)
    clear hu hg3 KE HA2 HE
    go_wp2_with (refine load_at D HZ.out rfl (.tmp 1) rfl w.heap.size rfl HA3.out ?_)
    refine (KC.out _ HL3.out).mono ?_
    rintro e w4 ⟨rfl, hg4⟩
    have HL4 := Lib.hid (gtrans HL3.out hg4)
    have HA4 := Lib.hid (HA3.out.later hg4)
    have HU4 := Lib.hid (HU.out.later hg4)
    clear hg4 HU HA3 KC
    by_cases h0 : ce c = 0
    · rw [if_pos h0] at HU4
      have KN := Lib.hid (fun W (g : Later w W) => renc_of D c W (HC.out.later g) h0 (by have := HST.out.1; omega) (by have := HST.out.2; omega))
      rw [h0]
      clear h0
      go_wp2_with fail
      refine (A.out _ HL4.out).mono ?_
      rintro e w5 ⟨rfl, hg5⟩
      have HL5 := Lib.hid (gtrans HL4.out hg5)
      have HA5 := Lib.hid (HA4.out.later hg5)
      have HU5 := Lib.hid (HU4.out.later hg5)
      clear hg5
      go_wp2_with (refine load_in D HZ.out (by rfl) (.tmp 1) rfl w.heap.size rfl HA5.out ?_)
      refine (KN.out _ HL5.out).mono ?_
      rintro e w6 ⟨x, rfl, hx, hg6⟩
      have HL6 := Lib.hid (gtrans HL5.out hg6)
      have HU6 := Lib.hid (HU5.out.later hg6)
      have HX := Lib.hid hx
      clear hx hg6
      go_wp2_with fail
      refine (By.bsame_yes (Ka.en c) _ _ w6 HU6.out HX.out).mono ?_
      rintro e w7 ⟨rfl, hg7⟩
      have HL7 := Lib.hid (gtrans HL6.out hg7)
      clear hg7
      go_wp2_with fail
      go_ret
      exact ⟨rfl, HL7.out⟩
    · rw [if_neg h0] at HU4
      have t4 : (ce c != 0) = true := by simpa using h0
      have t5 : (ce c == ce c) = true := by simp
      obtain ⟨ad, cap, eu, _⟩ := HU4.out.bare
      subst eu
      clear h0
      generalize ce c = x at *
      go_wp2_with fail
      refine (A.out _ HL4.out).mono ?_
      rintro e w5 ⟨rfl, hg5⟩
      have HL5 := Lib.hid (gtrans HL4.out hg5)
      clear hg5
      go_wp2_with fail
      go_ret
      exact ⟨rfl, HL5.out⟩

end Go.Proofs.YtpkjbcgmhkkfiaaGreatDoor.Cod
