/-
  Whether a configuration's size, zone, sunsets and number of windows may be, by the program. No condition but those that each theorem states.
-/
import Derived.Test.YthbgllbbliijlaaCh
import Derived.Test.YthbgllbbliijlaaEa
namespace Go.Proofs.Ythbgllbbliijlaa.Conf
open Go.ChangeShapes Go.WideShapes Go.ChangeAt Go.RowKit
open Go.Proofs.Ythbgllbbliijlaa.Divs Go.Proofs.Ythbgllbbliijlaa.Grow Go.Proofs.Ythbgllbbliijlaa.Zone
open Go.Proofs.Ythbgllbbliijlaa.By (Sk SL)
open Go.Proofs.Ythbgllbbliijlaa.Each
open Go.Proofs.Ythbgllbbliijlaa.Zo Go.Proofs.Ythbgllbbliijlaa.Su Go.Proofs.Ythbgllbbliijlaa.Cf

theorem floors_any (c : Cg) (u v : Value) (w : World) (h0 : 2 ≤ c.f) (h1 : c.f ≤ 64) : Calls Try.prog 42 #[.agg (cc c u v)] w fun e w' => e = .returned (.agg #[.int .i64 0, .int .i64 (c.f - 1)]) ∧ Later w w' := by
  unfold cc
  go_enter Try.func42, Try.ntmps42
  go_wp2_with fail
  exact bodyPost_ret (v := .agg #[.int .i64 0, .int .i64 (c.f - 1)]) (by simp [results, Try.results42, go_sem]) rfl ⟨rfl, ((Later.refl w).alloc _ _).alloc _ _⟩

theorem new_celld (W : World) (cs : Array Value) (t : TypeId) (i : Nat) (v : Value) (g : Nat) (hg : g = W.heap.size) (h : cs[i]? = some v) : (W.alloc (.cells cs t)).drew.cell? ⟨g, i, none⟩ = some v := new_cell W cs t i v g hg h

theorem load_cfg (C : Array Value) (hC : C.size = 37) (W : World) (g : Nat) (h : At W g C) : (Instr.loadAt 33 (.pointer (some ⟨g, 0, none⟩))).run Try.prog W = .ok (.agg C) W := by
  have hi : (Try.prog.info? 33).map (·.size) = some C.toList.length := by
    rw [Array.length_toList, hC]
    kernel_rfl
  have := run_loadAt_mid (P := Try.prog) W g 0 33 C.toList _ (fun j v hv => by rw [Nat.zero_add]; exact h j v (by simpa using hv)) Try.underlying33 rfl hi
  simpa using this

theorem wp_load_cfg {o : Oper} {a : Act} {K : Act → World → Prop} {Q : Exit → Act → World → Prop} (C : Array Value) (hC : C.size = 37) (W : World) (g : Nat) (h : At W g C) (x : Operand) (ho : o.op = .load 33 x) (hx : a.eval x = .pointer (some ⟨g, 0, none⟩)) (hK : K (a.put o.dst (.agg C)) W) : o.wp Try.prog a W K Q := by
  have hi : (Try.prog.info? 33).map (·.size) = some C.toList.length := by
    rw [Array.length_toList, hC]
    kernel_rfl
  refine wp_load_mid (P := Try.prog) 33 x ho g 0 hx C.toList _ (fun j v hv => by rw [Nat.zero_add]; exact h j v (by simpa using hv)) Try.underlying33 rfl hi ?_
  simpa using hK

/-- A configuration is loaded whole. -/
theorem load_at {ops : Array Oper} {rest : List Oper} {o : Oper} {a : Act} {W : World} {Q : Exit → Act → World → Prop} (C : Array Value) (hC : C.size = 37) (hgd : o.guard = none) (x : Operand) (ho : o.op = .load 33 x) (g : Nat) (hx : a.eval x = .pointer (some ⟨g, 0, none⟩)) (h : At W g C) (hK : wpList Try.prog ops Q rest (a.put o.dst (.agg C)) W) : wpList Try.prog ops Q (o :: rest) a W := by
  have hi : (Try.prog.info? 33).map (·.size) = some C.toList.length := by
    rw [Array.length_toList, hC]
    kernel_rfl
  refine wpList_load_mid (P := Try.prog) hgd 33 x ho g 0 hx C.toList _ (fun j v hv => by rw [Nat.zero_add]; exact h j v (by simpa using hv)) Try.underlying33 rfl hi ?_
  simpa using hK

/-- A row of one number. -/
def One (x : Int) (v : Value) (W : World) : Prop := ∃ g, v = .slice (some ⟨g, 0, none⟩) 1 1 ∧ W.cell? ⟨g, 0, none⟩ = some (.int .i64 x)

theorem One.later {x : Int} {v : Value} {W W' : World} (h : One x v W) (g : Later W W') : One x v W' := by
  obtain ⟨b, e, c⟩ := h
  exact ⟨b, e, gsome g c⟩

def SV (C : Array Value) (f n p : Int) (A : Nat) (b1 b2 b3 : Bool) : Nat → Value → World → Prop
  | 0, v, _ => v = .agg #[.int .i64 2, .int .i64 64]
  | 1, v, _ => v = .pointer (some ⟨A, 0, none⟩)
  | 2, v, _ => v = .int .i64 f
  | 3, v, W => One f v W
  | 4, v, _ => v = .bool b1
  | 5, v, _ => v = .bool b1
  | 6, v, _ => b1 = true → v = .agg #[.int .i64 1, .int .i64 8]
  | 7, v, _ => b1 = true → v = .pointer (some ⟨A, 1, none⟩)
  | 8, v, _ => b1 = true → v = .int .i64 n
  | 9, v, W => b1 = true → One n v W
  | 10, v, _ => b1 = true → v = .bool b2
  | 11, v, _ => v = .bool (b1 && b2)
  | 12, v, _ => v = .bool (b1 && b2)
  | 13, v, _ => (b1 && b2) = true → v = .agg C
  | 14, v, _ => (b1 && b2) = true → v = .agg #[.int .i64 0, .int .i64 (f - 1)]
  | 15, v, _ => (b1 && b2) = true → v = .pointer (some ⟨A, 2, none⟩)
  | 16, v, _ => (b1 && b2) = true → v = .int .i64 p
  | 17, v, W => (b1 && b2) = true → One p v W
  | 18, v, _ => (b1 && b2) = true → v = .bool b3
  | 19, v, _ => v = .bool (b1 && b2 && b3)
  | _, _, _ => True

theorem SV.later (C : Array Value) (f n p : Int) (A : Nat) (b1 b2 b3 : Bool) (i : Nat) (v : Value) (W W' : World) (h : SV C f n p A b1 b2 b3 i v W) (g : Later W W') : SV C f n p A b1 b2 b3 i v W' := by
  match i, h with
  | 0, h | 1, h | 2, h | 4, h | 5, h | 6, h | 7, h | 8, h | 10, h | 11, h | 12, h | 13, h | 14, h | 15, h | 16, h | 18, h | 19, h => exact h
  | 3, h => exact One.later h g
  | 9, h | 17, h => exact fun e => One.later (h e) g
  | _ + 20, h => trivial

set_option maxHeartbeats 2000000 in
theorem size_any' (C : Array Value) (f n p N : Int) (B1 B2 B3 : Bool) (w : World) (hC : C.size = 37) (f0 : C[0]? = some (.int .i64 f)) (f1 : C[1]? = some (.int .i64 n)) (f2 : C[2]? = some (.int .i64 p))
    (HN : Hid (N = if (B1 && B2 && B3) = true then 0 else 100)) (X1 : Hid (bt f 2 64 = B1)) (X2 : Hid (bt n 1 8 = B2)) (X3 : Hid (bt p 0 (f - 1) = B3))
    (HF : Hid ((B1 && B2) = true → ∀ W, Calls Try.prog 42 #[.agg C] W fun e w' => e = .returned (.agg #[.int .i64 0, .int .i64 (f - 1)]) ∧ Later W w')) :
    Calls Try.prog 31 #[.agg C] w fun e w' => e = .returned (.int .i64 N) ∧ Later w w' := by
  have HA := Lib.hid (((At.new w C 33).put (.cells #[.int .i64 2, .int .i64 64] 48)).put (.cells #[.int .i64 1, .int .i64 8] 48))
  have HE := Lib.hid ((At.new (w.alloc (.cells C 33)) #[.int .i64 2, .int .i64 64] 48).put (.cells #[.int .i64 1, .int .i64 8] 48))
  have HD := Lib.hid (At.new ((w.alloc (.cells C 33)).alloc (.cells #[.int .i64 2, .int .i64 64] 48)) #[.int .i64 1, .int .i64 8] 48)
  have HL := Lib.hid ((((Later.refl w).alloc C 33).alloc #[.int .i64 2, .int .i64 64] 48).alloc #[.int .i64 1, .int .i64 8] 48)
  go_enter Try.func31, Try.ntmps31
  go_wp2_with fail
  generalize ((w.alloc (.cells C 33)).alloc (.cells #[.int .i64 2, .int .i64 64] 48)).alloc (.cells #[.int .i64 1, .int .i64 8] 48) = W0 at *
  simp only [World.size_alloc] at HE HD
  refine region_each (SV C f n p w.heap.size B1 B2 B3) (by kernel_rfl) (by kernel_rfl) (SV.later C f n p w.heap.size _ _ _) ?_ ?_
  · intro i hi
    match i with
    | 0 =>
      intro o ho
      simp only [List.getElem?_toArray, List.getElem?_cons_zero, Option.some.injEq] at ho
      subst ho
      intro a W hl hold hdep
      refine ite_yes rfl ?_
      have h3 : a.tmps[3]? = some (.pointer (some ⟨w.heap.size + 1, 0, none⟩)) := hold 3 (free_of (by kernel_rfl))
      have e0 := HE.out.later hl 0 _ rfl
      have e1 := HE.out.later hl 1 _ rfl
      clear hold hdep
      unfold Oper.wp
      go_simp
      exact ⟨_, rfl, rfl, Later.refl _⟩
    | 1 =>
      intro o ho
      simp only [List.getElem?_toArray, List.getElem?_cons_zero, List.getElem?_cons_succ, Option.some.injEq] at ho
      subst ho
      intro a W hl hold hdep
      refine ite_yes rfl ?_
      have h1 : a.tmps[1]? = some (.pointer (some ⟨w.heap.size, 0, none⟩)) := hold 1 (free_of (by kernel_rfl))
      clear hold hdep
      unfold Oper.wp
      go_simp
      exact ⟨_, rfl, rfl, Later.refl _⟩
    | 2 =>
      intro o ho
      simp only [List.getElem?_toArray, List.getElem?_cons_zero, List.getElem?_cons_succ, Option.some.injEq] at ho
      subst ho
      intro a W hl hold hdep
      refine ite_yes rfl ?_
      obtain ⟨_, h8, rfl⟩ := hdep 1 (by decide) _ _ rfl rfl
      have e0 := HA.out.later hl 0 _ f0
      clear hold hdep
      unfold Oper.wp
      go_simp
      exact ⟨_, rfl, rfl, Later.refl _⟩
    | 3 =>
      intro o ho
      simp only [List.getElem?_toArray, List.getElem?_cons_zero, List.getElem?_cons_succ, Option.some.injEq] at ho
      subst ho
      intro a W hl hold hdep
      refine ite_yes rfl ?_
      obtain ⟨_, h9, rfl⟩ := hdep 2 (by decide) _ _ rfl rfl
      clear hold hdep
      unfold Oper.wp
      go_simp
      exact ⟨_, rfl, ⟨_, rfl, new_cell _ _ _ 0 _ _ rfl rfl⟩, (Later.refl _).put _⟩
    | 4 =>
      intro o ho
      simp only [List.getElem?_toArray, List.getElem?_cons_zero, List.getElem?_cons_succ, Option.some.injEq] at ho
      subst ho
      intro a W hl hold hdep
      refine ite_yes rfl ?_
      obtain ⟨_, h7, rfl⟩ := hdep 0 (by decide) _ _ rfl rfl
      obtain ⟨_, h10, ⟨g, rfl, c⟩⟩ := hdep 3 (by decide) _ _ rfl rfl
      clear hold hdep
      unfold Oper.wp
      go_simp
      refine (hold_one 2 64 f _ _ c).mono ?_
      rintro e w1 ⟨rfl, hg1⟩
      exact ⟨_, rfl, congrArg Value.bool X1.out, hg1⟩
    | 5 =>
      intro o ho
      simp only [List.getElem?_toArray, List.getElem?_cons_zero, List.getElem?_cons_succ, Option.some.injEq] at ho
      subst ho
      intro a W hl hold hdep
      refine ite_yes rfl ?_
      obtain ⟨_, h11, rfl⟩ := hdep 4 (by decide) _ _ rfl rfl
      clear hold hdep
      unfold Oper.wp
      go_simp
      exact ⟨_, rfl, rfl, Later.refl _⟩
    | 6 =>
      intro o ho
      simp only [List.getElem?_toArray, List.getElem?_cons_zero, List.getElem?_cons_succ, Option.some.injEq] at ho
      subst ho
      intro a W hl hold hdep
      obtain ⟨_, hg, rfl⟩ := hdep 5 (by decide) _ _ rfl rfl
      refine ite_by (want_of rfl rfl rfl hg) (fun hb => ?_) (fun hb e => by rw [e] at hb; cases hb)
      have hb : B1 = true := by simpa using hb
      have h4 : a.tmps[4]? = some (.pointer (some ⟨w.heap.size + 1 + 1, 0, none⟩)) := hold 4 (free_of (by kernel_rfl))
      have e0 := HD.out.later hl 0 _ rfl
      have e1 := HD.out.later hl 1 _ rfl
      clear hold hdep
      unfold Oper.wp
      go_simp
      exact ⟨_, rfl, fun _ => rfl, Later.refl _⟩
    | 7 =>
      intro o ho
      simp only [List.getElem?_toArray, List.getElem?_cons_zero, List.getElem?_cons_succ, Option.some.injEq] at ho
      subst ho
      intro a W hl hold hdep
      obtain ⟨_, hg, rfl⟩ := hdep 5 (by decide) _ _ rfl rfl
      refine ite_by (want_of rfl rfl rfl hg) (fun hb => ?_) (fun hb e => by rw [e] at hb; cases hb)
      have hb : B1 = true := by simpa using hb
      have h1 : a.tmps[1]? = some (.pointer (some ⟨w.heap.size, 0, none⟩)) := hold 1 (free_of (by kernel_rfl))
      clear hold hdep
      unfold Oper.wp
      go_simp
      exact ⟨_, rfl, fun _ => rfl, Later.refl _⟩
    | 8 =>
      intro o ho
      simp only [List.getElem?_toArray, List.getElem?_cons_zero, List.getElem?_cons_succ, Option.some.injEq] at ho
      subst ho
      intro a W hl hold hdep
      obtain ⟨_, hg, rfl⟩ := hdep 5 (by decide) _ _ rfl rfl
      refine ite_by (want_of rfl rfl rfl hg) (fun hb => ?_) (fun hb e => by rw [e] at hb; cases hb)
      have hb : B1 = true := by simpa using hb
      obtain ⟨_, h14, v⟩ := hdep 7 (by decide) _ _ rfl rfl
      obtain rfl := v hb
      have e0 := HA.out.later hl 1 _ f1
      clear hold hdep
      unfold Oper.wp
      go_simp
      exact ⟨_, rfl, fun _ => rfl, Later.refl _⟩
    | 9 =>
      intro o ho
      simp only [List.getElem?_toArray, List.getElem?_cons_zero, List.getElem?_cons_succ, Option.some.injEq] at ho
      subst ho
      intro a W hl hold hdep
      obtain ⟨_, hg, rfl⟩ := hdep 5 (by decide) _ _ rfl rfl
      refine ite_by (want_of rfl rfl rfl hg) (fun hb => ?_) (fun hb e => by rw [e] at hb; cases hb)
      have hb : B1 = true := by simpa using hb
      obtain ⟨_, h15, v⟩ := hdep 8 (by decide) _ _ rfl rfl
      obtain rfl := v hb
      clear hold hdep
      unfold Oper.wp
      go_simp
      exact ⟨_, rfl, fun _ => ⟨_, rfl, new_cell _ _ _ 0 _ _ rfl rfl⟩, (Later.refl _).put _⟩
    | 10 =>
      intro o ho
      simp only [List.getElem?_toArray, List.getElem?_cons_zero, List.getElem?_cons_succ, Option.some.injEq] at ho
      subst ho
      intro a W hl hold hdep
      obtain ⟨_, hg, rfl⟩ := hdep 5 (by decide) _ _ rfl rfl
      refine ite_by (want_of rfl rfl rfl hg) (fun hb => ?_) (fun hb e => by rw [e] at hb; cases hb)
      have hb : B1 = true := by simpa using hb
      obtain ⟨_, h13, v⟩ := hdep 6 (by decide) _ _ rfl rfl
      obtain rfl := v hb
      obtain ⟨_, h16, vo⟩ := hdep 9 (by decide) _ _ rfl rfl
      obtain ⟨g, rfl, c⟩ := vo hb
      clear hold hdep
      unfold Oper.wp
      go_simp
      refine (hold_one 1 8 n _ _ c).mono ?_
      rintro e w1 ⟨rfl, hg1⟩
      exact ⟨_, rfl, fun _ => congrArg Value.bool X2.out, hg1⟩
    | 11 =>
      intro o ho
      simp only [List.getElem?_toArray, List.getElem?_cons_zero, List.getElem?_cons_succ, Option.some.injEq] at ho
      subst ho
      intro a W hl hold hdep
      refine ite_yes rfl ?_
      obtain ⟨_, h12, rfl⟩ := hdep 5 (by decide) _ _ rfl rfl
      obtain ⟨x, h17, hx⟩ := hdep 10 (by decide) _ _ rfl rfl
      clear hold hdep
      unfold Oper.wp
      cases hb : B1 with
      | false =>
        rw [hb] at h12
        go_simp
        exact ⟨_, rfl, rfl, Later.refl _⟩
      | true =>
        obtain rfl := hx hb
        rw [hb] at h12
        go_simp
        exact ⟨_, rfl, rfl, Later.refl _⟩
    | 12 =>
      intro o ho
      simp only [List.getElem?_toArray, List.getElem?_cons_zero, List.getElem?_cons_succ, Option.some.injEq] at ho
      subst ho
      intro a W hl hold hdep
      refine ite_yes rfl ?_
      obtain ⟨_, h18, rfl⟩ := hdep 11 (by decide) _ _ rfl rfl
      clear hold hdep
      unfold Oper.wp
      go_simp
      exact ⟨_, rfl, rfl, Later.refl _⟩
    | 13 =>
      intro o ho
      simp only [List.getElem?_toArray, List.getElem?_cons_zero, List.getElem?_cons_succ, Option.some.injEq] at ho
      subst ho
      intro a W hl hold hdep
      obtain ⟨_, hg, rfl⟩ := hdep 12 (by decide) _ _ rfl rfl
      refine ite_by (want_of rfl rfl rfl hg) (fun hb => ?_) (fun hb e => by rw [e] at hb; cases hb)
      have hb : (B1 && B2) = true := by simpa using hb
      have h1 : a.tmps[1]? = some (.pointer (some ⟨w.heap.size, 0, none⟩)) := hold 1 (free_of (by kernel_rfl))
      clear hold hdep
      exact wp_load_cfg C hC W w.heap.size (HA.out.later hl) (.tmp 1) rfl (ev h1) ⟨_, rfl, fun _ => rfl, Later.refl _⟩
    | 14 =>
      intro o ho
      simp only [List.getElem?_toArray, List.getElem?_cons_zero, List.getElem?_cons_succ, Option.some.injEq] at ho
      subst ho
      intro a W hl hold hdep
      obtain ⟨_, hg, rfl⟩ := hdep 12 (by decide) _ _ rfl rfl
      refine ite_by (want_of rfl rfl rfl hg) (fun hb => ?_) (fun hb e => by rw [e] at hb; cases hb)
      have hb : (B1 && B2) = true := by simpa using hb
      obtain ⟨_, h20, v⟩ := hdep 13 (by decide) _ _ rfl rfl
      obtain rfl := v hb
      have hF := HF.out hb W
      clear hold hdep
      unfold Oper.wp
      go_simp
      refine hF.mono ?_
      rintro e w1 ⟨rfl, hg1⟩
      exact ⟨_, rfl, fun _ => rfl, hg1⟩
    | 15 =>
      intro o ho
      simp only [List.getElem?_toArray, List.getElem?_cons_zero, List.getElem?_cons_succ, Option.some.injEq] at ho
      subst ho
      intro a W hl hold hdep
      obtain ⟨_, hg, rfl⟩ := hdep 12 (by decide) _ _ rfl rfl
      refine ite_by (want_of rfl rfl rfl hg) (fun hb => ?_) (fun hb e => by rw [e] at hb; cases hb)
      have hb : (B1 && B2) = true := by simpa using hb
      have h1 : a.tmps[1]? = some (.pointer (some ⟨w.heap.size, 0, none⟩)) := hold 1 (free_of (by kernel_rfl))
      clear hold hdep
      unfold Oper.wp
      go_simp
      exact ⟨_, rfl, fun _ => rfl, Later.refl _⟩
    | 16 =>
      intro o ho
      simp only [List.getElem?_toArray, List.getElem?_cons_zero, List.getElem?_cons_succ, Option.some.injEq] at ho
      subst ho
      intro a W hl hold hdep
      obtain ⟨_, hg, rfl⟩ := hdep 12 (by decide) _ _ rfl rfl
      refine ite_by (want_of rfl rfl rfl hg) (fun hb => ?_) (fun hb e => by rw [e] at hb; cases hb)
      have hb : (B1 && B2) = true := by simpa using hb
      obtain ⟨_, h22, v⟩ := hdep 15 (by decide) _ _ rfl rfl
      obtain rfl := v hb
      have e0 := HA.out.later hl 2 _ f2
      clear hold hdep
      unfold Oper.wp
      go_simp
      exact ⟨_, rfl, fun _ => rfl, Later.refl _⟩
    | 17 =>
      intro o ho
      simp only [List.getElem?_toArray, List.getElem?_cons_zero, List.getElem?_cons_succ, Option.some.injEq] at ho
      subst ho
      intro a W hl hold hdep
      obtain ⟨_, hg, rfl⟩ := hdep 12 (by decide) _ _ rfl rfl
      refine ite_by (want_of rfl rfl rfl hg) (fun hb => ?_) (fun hb e => by rw [e] at hb; cases hb)
      have hb : (B1 && B2) = true := by simpa using hb
      obtain ⟨_, h23, v⟩ := hdep 16 (by decide) _ _ rfl rfl
      obtain rfl := v hb
      clear hold hdep
      unfold Oper.wp
      go_simp
      exact ⟨_, rfl, fun _ => ⟨_, rfl, new_cell _ _ _ 0 _ _ rfl rfl⟩, (Later.refl _).put _⟩
    | 18 =>
      intro o ho
      simp only [List.getElem?_toArray, List.getElem?_cons_zero, List.getElem?_cons_succ, Option.some.injEq] at ho
      subst ho
      intro a W hl hold hdep
      obtain ⟨_, hg, rfl⟩ := hdep 12 (by decide) _ _ rfl rfl
      refine ite_by (want_of rfl rfl rfl hg) (fun hb => ?_) (fun hb e => by rw [e] at hb; cases hb)
      have hb : (B1 && B2) = true := by simpa using hb
      obtain ⟨_, h21, v⟩ := hdep 14 (by decide) _ _ rfl rfl
      obtain rfl := v hb
      obtain ⟨_, h24, vo⟩ := hdep 17 (by decide) _ _ rfl rfl
      obtain ⟨g, rfl, c⟩ := vo hb
      clear hold hdep
      unfold Oper.wp
      go_simp
      refine (hold_one 0 (f - 1) p _ _ c).mono ?_
      rintro e w1 ⟨rfl, hg1⟩
      exact ⟨_, rfl, fun _ => congrArg Value.bool X3.out, hg1⟩
    | 19 =>
      intro o ho
      simp only [List.getElem?_toArray, List.getElem?_cons_zero, List.getElem?_cons_succ, Option.some.injEq] at ho
      subst ho
      intro a W hl hold hdep
      refine ite_yes rfl ?_
      obtain ⟨_, h19, rfl⟩ := hdep 12 (by decide) _ _ rfl rfl
      obtain ⟨x, h25, hx⟩ := hdep 18 (by decide) _ _ rfl rfl
      clear hold hdep
      unfold Oper.wp
      cases hb : (B1 && B2) with
      | false =>
        rw [hb] at h19
        go_simp
        exact ⟨_, rfl, by show _ = Value.bool ((B1 && B2) && B3); rw [hb]; rfl, Later.refl _⟩
      | true =>
        obtain rfl := hx hb
        rw [hb] at h19
        go_simp
        exact ⟨_, rfl, by show _ = Value.bool ((B1 && B2) && B3); rw [hb]; rfl, Later.refl _⟩
    | k + 20 => exact absurd hi (by simp)
  · intro a W hl hd hz hold hall
    obtain ⟨x, hx, rfl⟩ := hall 19 _ _ rfl rfl
    have ha := act_eta a 27 [] hz hd
    rw [show (List.range 27).map (fun s => a.tmps.getD s undef) = [a.tmps.getD 0 undef, a.tmps.getD 1 undef, a.tmps.getD 2 undef, a.tmps.getD 3 undef, a.tmps.getD 4 undef, a.tmps.getD 5 undef, a.tmps.getD 6 undef, a.tmps.getD 7 undef, a.tmps.getD 8 undef, a.tmps.getD 9 undef, a.tmps.getD 10 undef, a.tmps.getD 11 undef, a.tmps.getD 12 undef, a.tmps.getD 13 undef, a.tmps.getD 14 undef, a.tmps.getD 15 undef, a.tmps.getD 16 undef, a.tmps.getD 17 undef, a.tmps.getD 18 undef, a.tmps.getD 19 undef, a.tmps.getD 20 undef, a.tmps.getD 21 undef, a.tmps.getD 22 undef, a.tmps.getD 23 undef, a.tmps.getD 24 undef, a.tmps.getD 25 undef, a.tmps.getD 26 undef] from rfl, getD_of hx] at ha
    rw [ha]
    clear hall hold hz hd ha hx
    generalize a.tmps.getD 0 undef = x0
    generalize a.tmps.getD 1 undef = x1
    generalize a.tmps.getD 2 undef = x2
    generalize a.tmps.getD 3 undef = x3
    generalize a.tmps.getD 4 undef = x4
    generalize a.tmps.getD 5 undef = x5
    generalize a.tmps.getD 6 undef = x6
    generalize a.tmps.getD 7 undef = x7
    generalize a.tmps.getD 8 undef = x8
    generalize a.tmps.getD 9 undef = x9
    generalize a.tmps.getD 10 undef = x10
    generalize a.tmps.getD 11 undef = x11
    generalize a.tmps.getD 12 undef = x12
    generalize a.tmps.getD 13 undef = x13
    generalize a.tmps.getD 14 undef = x14
    generalize a.tmps.getD 15 undef = x15
    generalize a.tmps.getD 16 undef = x16
    generalize a.tmps.getD 17 undef = x17
    generalize a.tmps.getD 18 undef = x18
    generalize a.tmps.getD 19 undef = x19
    generalize a.tmps.getD 20 undef = x20
    generalize a.tmps.getD 21 undef = x21
    generalize a.tmps.getD 22 undef = x22
    generalize a.tmps.getD 23 undef = x23
    generalize a.tmps.getD 24 undef = x24
    generalize a.tmps.getD 25 undef = x25
    have HW := Lib.hid (gtrans HL.out hl)
    clear hl
    cases hb : (B1 && B2 && B3) with
    | false =>
      have HV : Hid (N = 100) := Lib.hid (by rw [HN.out, hb]; rfl)
      clear hb
      go_wp2_with fail
      go_ret
      exact ⟨ret1 HV.out.symm, HW.out⟩
    | true =>
      have HV : Hid (N = 0) := Lib.hid (by rw [HN.out, hb]; rfl)
      clear hb
      go_wp2_with fail
      go_ret
      exact ⟨ret1 HV.out.symm, HW.out⟩

theorem size_any (c : Cg) (u v : Value) (w : World) : Calls Try.prog 31 #[.agg (cc c u v)] w fun e w' => e = .returned (.int .i64 (if so c = true then 0 else 100)) ∧ Later w w' := by
  have := size_any' (cc c u v) c.f c.n c.p _ _ _ _ w rfl rfl rfl rfl (Lib.hid rfl) (Lib.hid rfl) (Lib.hid rfl) (Lib.hid rfl) (Lib.hid (fun h W => by
    simp only [Bool.and_eq_true, bt_iff] at h
    exact floors_any c u v W h.1.1 h.1.2))
  rwa [Bool.and_assoc] at this

theorem many_any (c : Cg) (u v : Value) (w : World) (hv : Wk w v c.ws) : Calls Try.prog 36 #[.agg (cc c u v)] w fun e w' => e = .returned (.int .i64 (if c.ws.length ≤ 16 then 0 else 103)) ∧ Later w w' := by
  unfold cc
  obtain ⟨ad, cap, rfl, hm⟩ := hv.len
  clear hv
  by_cases h : c.ws.length ≤ 16
  · have t : decide ((c.ws.length : Int) > 16) = false := by simp; omega
    rw [if_pos h]
    go_enter Try.func36, Try.ntmps36
    go_wp2_with fail
    go_ret
    exact ⟨rfl, (Later.refl w).alloc _ _⟩
  · have t : decide ((c.ws.length : Int) > 16) = true := by simp; omega
    rw [if_neg h]
    go_enter Try.func36, Try.ntmps36
    go_wp2_with fail
    go_ret
    exact ⟨rfl, (Later.refl w).alloc _ _⟩

theorem zone_any (c : Cg) (u v : Value) (w : World) : Calls Try.prog 34 #[.agg (cc c u v)] w fun e w' => e = .returned (.int .i64 (ck c.z)) ∧ Later w w' := by
  unfold cc
  have K := Lib.hid (fun W => Zone.check_any c.z W)
  unfold zc at K
  go_enter Try.func34, Try.ntmps34
  go_wp2_with fail
  refine (K.out _).mono ?_
  rintro e w1 ⟨rfl, hg1⟩
  go_wp2_with fail
  go_ret
  exact ⟨rfl, gtrans ((Later.refl w).alloc _ _) hg1⟩

theorem sun_any (c : Cg) (u v : Value) (w : World) : Calls Try.prog 35 #[.agg (cc c u v)] w fun e w' => e = .returned (.int .i64 (sk c.s)) ∧ Later w w' := by
  unfold cc
  have K := Lib.hid (fun W => Sun.check_any c.s W)
  unfold Sun.sc at K
  go_enter Try.func35, Try.ntmps35
  go_wp2_with fail
  refine (K.out _).mono ?_
  rintro e w1 ⟨rfl, hg1⟩
  go_wp2_with fail
  go_ret
  exact ⟨rfl, gtrans ((Later.refl w).alloc _ _) hg1⟩
end Go.Proofs.Ythbgllbbliijlaa.Conf
