/-
  Texts of mine, merged: each part says what it holds. Conditions: as each theorem states.
-/
import Derived.Test.YtmlnlkfdbbnkbaaGreatDoorM13

/- From when up to when a window about days of rest is, by the program. Conditions: the table of months lies where the program lays it; the zone and the table may be, as the theorem says. -/
namespace Go.Proofs.YtmlnlkfdbbnkbaaGreatDoor.Window
set_option maxRecDepth 100000
set_option maxRecDepth 100000
open Go.ChangeShapes Go.WideShapes Go.ChangeAt Go.RowKit
open Go.Proofs.YtmlnlkfdbbnkbaaGreatDoor.Divs Go.Proofs.YtmlnlkfdbbnkbaaGreatDoor.Grow
open Go.Proofs.YtmlnlkfdbbnkbaaGreatDoor.Greg (Laid)
open Go.Proofs.YtmlnlkfdbbnkbaaGreatDoor.Zo Go.Proofs.YtmlnlkfdbbnkbaaGreatDoor.Zone Go.Proofs.YtmlnlkfdbbnkbaaGreatDoor.Win
open Go.Proofs.YtmlnlkfdbbnkbaaGreatDoor.Cf (Cg Wn)
open Go.Proofs.YtmlnlkfdbbnkbaaGreatDoor.Conf (wc cc Is)
open Go.Proofs.YtmlnlkfdbbnkbaaGreatDoor.Fe (kd rst)
open Go.Proofs.YtmlnlkfdbbnkbaaGreatDoor.Su (mV mE sk sa)

open Go.Proofs.YtmlnlkfdbbnkbaaGreatDoor.Eachn
open Go.Proofs.YtmlnlkfdbbnkbaaGreatDoor.Conf (At)

theorem mV_at (z : Zn) (s : Nat → Int) (n : Int) (hz : May z) (hs : sk s = 0) (h0 : 401 ≤ n) (h1 : n ≤ 3651998) : mV z s n = n * 1440 + sa s n - z.b := by
  unfold mV; rw [if_pos ((Su.mE_ok z s n).2 ⟨(ck_may z).2 hz, hs, h0, h1⟩)]

theorem wp_load_rst {o : Oper} {a : Act} {K : Act → World → Prop} {Q : Exit → Act → World → Prop} (C : Array Value) (hC : C.size = 25) (W : World) (g : Nat) (h : At W g C) (x : Operand) (ho : o.op = .load 105 x) (hx : a.eval x = .pointer (some ⟨g, 0, none⟩)) (hK : K (a.put o.dst (.agg C)) W) : o.wp Tryz.prog a W K Q := by
  have hi : (Tryz.prog.info? 105).map (·.size) = some C.toList.length := by
    rw [Array.length_toList, hC]
    kernel_rfl
  refine wp_load_mid (P := Tryz.prog) 105 x ho g 0 hx C.toList _ (fun j v hv => by rw [Nat.zero_add]; exact h j v (by simpa using hv)) Tryz.underlying105 rfl hi ?_
  simpa using hK

def EV (D : Array Value) (g : Nat) (d b m1 m2 u l : Int) : Nat → Value → World → Prop
  | 0, v, _ => v = .agg D
  | 1, v, _ => v = .int .i64 d
  | 2, v, _ => v = .int .i64 m1
  | 3, v, _ => v = .pointer (some ⟨g, 23, none⟩)
  | 4, v, _ => v = .int .i64 u
  | 5, v, _ => v = .int .i64 (m1 - u)
  | 6, v, _ => v = .agg D
  | 7, v, _ => v = .int .i64 b
  | 8, v, _ => v = .int .i64 m2
  | 9, v, _ => v = .pointer (some ⟨g, 24, none⟩)
  | 10, v, _ => v = .int .i64 l
  | 11, v, _ => v = .int .i64 (m2 + l)
  | 12, v, _ => v = .int .i64 (m1 - u)
  | 13, v, _ => v = .int .i64 (m2 + l)
  | _, _, _ => True

theorem EV.later (D : Array Value) (g : Nat) (d b m1 m2 u l : Int) (i : Nat) (v : Value) (W W' : World) (h : EV D g d b m1 m2 u l i v W) (_g : Later W W') : EV D g d b m1 m2 u l i v W' := by
  unfold EV at *
  split at h <;> try exact h

set_option maxHeartbeats 2000000 in
theorem restful_ends (z : Zn) (s : Nat → Int) (ab : Bool) (u l d b : Int) (w : World) (hL : Laid w) (hz : May z) (hs : sk s = 0) (d0 : 402 ≤ d) (d1 : d ≤ 3651990) (hb : Feast.Row ab (d + 1) (d + 1) b) (hb2 : b ≤ d + 3) (u0 : 0 ≤ u) (u1 : u ≤ 180) (l0 : 0 ≤ l) (l1 : l ≤ 180) :
    Calls Tryz.prog 169 #[.agg (rk z s ab u l), .int .i64 d] w fun e w' => e = .returned (.tuple #[.int .i64 (d * 1440 + sa s d - z.b - u), .int .i64 (b * 1440 + sa s b - z.b + l)]) ∧ Later w w' := by
  have R := Lib.hid (fun W => Feast.run_yes (d + 1) (d + 1) b ab W hb)
  have b0 : d + 1 ≤ b := hb.2.1
  have HV1 := mV_at z s d hz hs (by omega) (by omega)
  have HV2 := mV_at z s b hz hs (by omega) (by omega)
  have T1 := Lib.hid (fun W hW => sunset_any z s ab u l d W hW)
  have T2 := Lib.hid (fun W hW => sunset_any z s ab u l b W hW)
  rw [HV1] at T1
  rw [HV2] at T2
  have s1 := sa_in s d hs (by omega) (by omega)
  have s2 := sa_in s b hs (by omega) (by omega)
  have hz' := hz
  unfold May at hz'
  have m10 : -100000000 ≤ d * 1440 + sa s d - z.b ∧ d * 1440 + sa s d - z.b ≤ 10000000000 := by omega
  have m20 : -100000000 ≤ b * 1440 + sa s b - z.b ∧ b * 1440 + sa s b - z.b ≤ 10000000000 := by omega
  generalize d * 1440 + sa s d - z.b = m1 at *
  generalize b * 1440 + sa s b - z.b = m2 at *
  obtain ⟨D, hD⟩ : ∃ D, D = rk z s ab u l := ⟨_, rfl⟩
  rw [← hD] at T1 T2 ⊢
  have K1 : Hid (IntKind.i64.wrap (m1 - u) = m1 - u) := Lib.hid (IntWalk.i64_in _ (by omega))
  have K2 : Hid (IntKind.i64.wrap (m2 + l) = m2 + l) := Lib.hid (IntWalk.i64_in _ (by omega))
  have HZ : Hid (D.size = 25) := Lib.hid (by rw [hD]; rfl)
  have H22 : D[22]? = some (.bool ab) := by rw [hD]; rfl
  have H23 : Hid (D[23]? = some (.int .i64 u)) := Lib.hid (by rw [hD]; rfl)
  have H24 : Hid (D[24]? = some (.int .i64 l)) := Lib.hid (by rw [hD]; rfl)
  have HG := Lib.hid ((Later.refl w).alloc D 105)
  have HL := Lib.hid (hL.grown HG.out)
  have HA := Lib.hid (At.new w D 105)
  have c22 := HA.out 22 _ H22
  clear hL hz hz' hs hb s1 s2 HV1 HV2 b0 u0 u1 l0 l1 hb2 m10 m20 hD H22
  go_enter Tryz.func169, Tryz.ntmps169
  go_wp2_with fail
  refine (R.out _).mono ?_
  rintro e w1 ⟨rfl, hg1⟩
  have HG1 := Lib.hid hg1
  have HL1 := Lib.hid (HL.out.grown hg1)
  have A1 := Lib.hid (HA.out.later hg1)
  clear hg1 c22
  go_wp2_with fail
  refine region_each (EV D w.heap.size d b m1 m2 u l) (by kernel_rfl) (by kernel_rfl) (EV.later D w.heap.size d b m1 m2 u l) ?_ ?_
  · intro i hi
    match i with
    | 0 =>
      intro o ho
      simp only [List.getElem?_toArray, List.getElem?_cons_zero, Option.some.injEq] at ho
      subst ho
      intro a W hl hold hdep
      refine ite_yes rfl ?_
      have h2 : a.tmps[2]? = some (.pointer (some ⟨w.heap.size, 0, none⟩)) := hold 2 (free_of (by kernel_rfl))
      clear hold hdep
      exact wp_load_rst D HZ.out W w.heap.size (A1.out.later hl) (.tmp 2) rfl (ev h2) ⟨_, rfl, rfl, Later.refl _⟩
    | 1 =>
      intro o ho
      simp only [List.getElem?_toArray, List.getElem?_cons_zero, List.getElem?_cons_succ, Option.some.injEq] at ho
      subst ho
      intro a W hl hold hdep
      refine ite_yes rfl ?_
      have h1 : a.tmps[1]? = some (.int .i64 d) := hold 1 (free_of (by kernel_rfl))
      clear hold hdep
      unfold Oper.wp
      go_simp
      exact ⟨_, rfl, rfl, Later.refl _⟩
    | 2 =>
      intro o ho
      simp only [List.getElem?_toArray, List.getElem?_cons_zero, List.getElem?_cons_succ, Option.some.injEq] at ho
      subst ho
      intro a W hl hold hdep
      refine ite_yes rfl ?_
      obtain ⟨_, h18, rfl⟩ := hdep 0 (by decide) _ _ rfl rfl
      obtain ⟨_, h19, rfl⟩ := hdep 1 (by decide) _ _ rfl rfl
      clear hold hdep
      unfold Oper.wp
      go_simp
      refine (T1.out _ (HL1.out.grown hl)).mono ?_
      rintro e w1 ⟨rfl, hg1⟩
      exact ⟨_, rfl, rfl, hg1⟩
    | 3 =>
      intro o ho
      simp only [List.getElem?_toArray, List.getElem?_cons_zero, List.getElem?_cons_succ, Option.some.injEq] at ho
      subst ho
      intro a W hl hold hdep
      refine ite_yes rfl ?_
      have h2 : a.tmps[2]? = some (.pointer (some ⟨w.heap.size, 0, none⟩)) := hold 2 (free_of (by kernel_rfl))
      clear hold hdep
      unfold Oper.wp
      go_simp
      exact ⟨_, rfl, rfl, Later.refl _⟩
    | 4 =>
      intro o ho
      simp only [List.getElem?_toArray, List.getElem?_cons_zero, List.getElem?_cons_succ, Option.some.injEq] at ho
      subst ho
      intro a W hl hold hdep
      refine ite_yes rfl ?_
      obtain ⟨_, h21, rfl⟩ := hdep 3 (by decide) _ _ rfl rfl
      have k := A1.out.later hl 23 _ H23.out
      clear hold hdep
      unfold Oper.wp
      go_simp
      exact ⟨_, rfl, rfl, Later.refl _⟩
    | 5 =>
      intro o ho
      simp only [List.getElem?_toArray, List.getElem?_cons_zero, List.getElem?_cons_succ, Option.some.injEq] at ho
      subst ho
      intro a W hl hold hdep
      refine ite_yes rfl ?_
      obtain ⟨_, h20, rfl⟩ := hdep 2 (by decide) _ _ rfl rfl
      obtain ⟨_, h22, rfl⟩ := hdep 4 (by decide) _ _ rfl rfl
      clear hold hdep
      unfold Oper.wp
      go_simp
      exact ⟨_, rfl, (by rw [K1.out]; rfl), Later.refl _⟩
    | 6 =>
      intro o ho
      simp only [List.getElem?_toArray, List.getElem?_cons_zero, List.getElem?_cons_succ, Option.some.injEq] at ho
      subst ho
      intro a W hl hold hdep
      refine ite_yes rfl ?_
      have h2 : a.tmps[2]? = some (.pointer (some ⟨w.heap.size, 0, none⟩)) := hold 2 (free_of (by kernel_rfl))
      clear hold hdep
      exact wp_load_rst D HZ.out W w.heap.size (A1.out.later hl) (.tmp 2) rfl (ev h2) ⟨_, rfl, rfl, Later.refl _⟩
    | 7 =>
      intro o ho
      simp only [List.getElem?_toArray, List.getElem?_cons_zero, List.getElem?_cons_succ, Option.some.injEq] at ho
      subst ho
      intro a W hl hold hdep
      refine ite_yes rfl ?_
      have h7 : a.tmps[7]? = some (.int .i64 b) := hold 7 (free_of (by kernel_rfl))
      clear hold hdep
      unfold Oper.wp
      go_simp
      exact ⟨_, rfl, rfl, Later.refl _⟩
    | 8 =>
      intro o ho
      simp only [List.getElem?_toArray, List.getElem?_cons_zero, List.getElem?_cons_succ, Option.some.injEq] at ho
      subst ho
      intro a W hl hold hdep
      refine ite_yes rfl ?_
      obtain ⟨_, h24, rfl⟩ := hdep 6 (by decide) _ _ rfl rfl
      obtain ⟨_, h25, rfl⟩ := hdep 7 (by decide) _ _ rfl rfl
      clear hold hdep
      unfold Oper.wp
      go_simp
      refine (T2.out _ (HL1.out.grown hl)).mono ?_
      rintro e w1 ⟨rfl, hg1⟩
      exact ⟨_, rfl, rfl, hg1⟩
    | 9 =>
      intro o ho
      simp only [List.getElem?_toArray, List.getElem?_cons_zero, List.getElem?_cons_succ, Option.some.injEq] at ho
      subst ho
      intro a W hl hold hdep
      refine ite_yes rfl ?_
      have h2 : a.tmps[2]? = some (.pointer (some ⟨w.heap.size, 0, none⟩)) := hold 2 (free_of (by kernel_rfl))
      clear hold hdep
      unfold Oper.wp
      go_simp
      exact ⟨_, rfl, rfl, Later.refl _⟩
    | 10 =>
      intro o ho
      simp only [List.getElem?_toArray, List.getElem?_cons_zero, List.getElem?_cons_succ, Option.some.injEq] at ho
      subst ho
      intro a W hl hold hdep
      refine ite_yes rfl ?_
      obtain ⟨_, h27, rfl⟩ := hdep 9 (by decide) _ _ rfl rfl
      have k := A1.out.later hl 24 _ H24.out
      clear hold hdep
      unfold Oper.wp
      go_simp
      exact ⟨_, rfl, rfl, Later.refl _⟩
    | 11 =>
      intro o ho
      simp only [List.getElem?_toArray, List.getElem?_cons_zero, List.getElem?_cons_succ, Option.some.injEq] at ho
      subst ho
      intro a W hl hold hdep
      refine ite_yes rfl ?_
      obtain ⟨_, h26, rfl⟩ := hdep 8 (by decide) _ _ rfl rfl
      obtain ⟨_, h28, rfl⟩ := hdep 10 (by decide) _ _ rfl rfl
      clear hold hdep
      unfold Oper.wp
      go_simp
      exact ⟨_, rfl, (by rw [K2.out]; rfl), Later.refl _⟩
    | 12 =>
      intro o ho
      simp only [List.getElem?_toArray, List.getElem?_cons_zero, List.getElem?_cons_succ, Option.some.injEq] at ho
      subst ho
      intro a W hl hold hdep
      refine ite_yes rfl ?_
      obtain ⟨_, h23, rfl⟩ := hdep 5 (by decide) _ _ rfl rfl
      clear hold hdep
      unfold Oper.wp
      go_simp
      exact ⟨_, rfl, rfl, Later.refl _⟩
    | 13 =>
      intro o ho
      simp only [List.getElem?_toArray, List.getElem?_cons_zero, List.getElem?_cons_succ, Option.some.injEq] at ho
      subst ho
      intro a W hl hold hdep
      refine ite_yes rfl ?_
      obtain ⟨_, h29, rfl⟩ := hdep 11 (by decide) _ _ rfl rfl
      clear hold hdep
      unfold Oper.wp
      go_simp
      exact ⟨_, rfl, rfl, Later.refl _⟩
    | k + 14 => exact absurd hi (by simp)
  · intro a W hl hd hz hold hall
    obtain ⟨_, k4, rfl⟩ := hall 12 _ _ rfl rfl
    obtain ⟨_, k5, rfl⟩ := hall 13 _ _ rfl rfl
    have ha := act_eta a 30 [] hz hd
    rw [show (List.range 30).map (fun s => a.tmps.getD s undef) = [a.tmps.getD 0 undef, a.tmps.getD 1 undef, a.tmps.getD 2 undef, a.tmps.getD 3 undef, a.tmps.getD 4 undef, a.tmps.getD 5 undef, a.tmps.getD 6 undef, a.tmps.getD 7 undef, a.tmps.getD 8 undef, a.tmps.getD 9 undef, a.tmps.getD 10 undef, a.tmps.getD 11 undef, a.tmps.getD 12 undef, a.tmps.getD 13 undef, a.tmps.getD 14 undef, a.tmps.getD 15 undef, a.tmps.getD 16 undef, a.tmps.getD 17 undef, a.tmps.getD 18 undef, a.tmps.getD 19 undef, a.tmps.getD 20 undef, a.tmps.getD 21 undef, a.tmps.getD 22 undef, a.tmps.getD 23 undef, a.tmps.getD 24 undef, a.tmps.getD 25 undef, a.tmps.getD 26 undef, a.tmps.getD 27 undef, a.tmps.getD 28 undef, a.tmps.getD 29 undef] from rfl, getD_of k4, getD_of k5] at ha
    rw [ha]
    clear hall hold hz hd ha k4 k5
    generalize a.tmps.getD 0 undef = x0
    generalize a.tmps.getD 1 undef = x1
    generalize a.tmps.getD 2 undef = x2
    generalize a.tmps.getD 3 undef = x3
    generalize a.tmps.getD 6 undef = x6
    generalize a.tmps.getD 7 undef = x7
    generalize a.tmps.getD 8 undef = x8
    generalize a.tmps.getD 9 undef = x9
    generalize a.tmps.getD 10 undef = x10
    generalize a.tmps.getD 11 undef = x11
    generalize a.tmps.getD 12 undef = x12
    generalize a.tmps.getD 13 undef = x13
    generalize a.tmps.getD 14 undef = x14
    generalize a.tmps.getD 15 undef = x15
    generalize a.tmps.getD 16 undef = x16
    generalize a.tmps.getD 17 undef = x17
    generalize a.tmps.getD 18 undef = x18
    generalize a.tmps.getD 19 undef = x19
    generalize a.tmps.getD 20 undef = x20
    generalize a.tmps.getD 21 undef = x21
    generalize a.tmps.getD 22 undef = x22
    generalize a.tmps.getD 23 undef = x23
    generalize a.tmps.getD 24 undef = x24
    generalize a.tmps.getD 25 undef = x25
    generalize a.tmps.getD 26 undef = x26
    generalize a.tmps.getD 27 undef = x27
    generalize a.tmps.getD 28 undef = x28
    generalize a.tmps.getD 29 undef = x29
    have HG2 := Lib.hid hl
    clear hl
    go_wp2_with fail
    go_ret2
    exact ⟨rfl, gtrans (gtrans HG.out HG1.out) HG2.out⟩

end Go.Proofs.YtmlnlkfdbbnkbaaGreatDoor.Window

/- The span of a window that begins on a day, by the program. Conditions: the table of months lies where the program lays it; the day is an int. -/
namespace Go.Proofs.YtmlnlkfdbbnkbaaGreatDoor.Window
set_option maxRecDepth 100000
open Go.ChangeShapes Go.WideShapes Go.ChangeAt Go.RowKit
open Go.Proofs.YtmlnlkfdbbnkbaaGreatDoor.Divs Go.Proofs.YtmlnlkfdbbnkbaaGreatDoor.Grow
open Go.Proofs.YtmlnlkfdbbnkbaaGreatDoor.Greg (Laid)
open Go.Proofs.YtmlnlkfdbbnkbaaGreatDoor.Zo Go.Proofs.YtmlnlkfdbbnkbaaGreatDoor.Zone Go.Proofs.YtmlnlkfdbbnkbaaGreatDoor.Win
open Go.Proofs.YtmlnlkfdbbnkbaaGreatDoor.Cf (Cg Wn ce wo)
open Go.Proofs.YtmlnlkfdbbnkbaaGreatDoor.Conf (wc cc Is)
open Go.Proofs.YtmlnlkfdbbnkbaaGreatDoor.Fe (kd rst)
open Go.Proofs.YtmlnlkfdbbnkbaaGreatDoor.Su (mV mE sk sa)

open Go.Proofs.YtmlnlkfdbbnkbaaGreatDoor.Conf (At load_at)

/-- The block g has these cells. -/
def RA (W : World) (g : Nat) (cs : Array Value) (t : TypeId) : Prop := W.heap[g]? = some (.cells cs t (0, 0))

theorem RA.lt {W : World} {g : Nat} {cs : Array Value} {t : TypeId} (h : RA W g cs t) : g < W.heap.size := by
  rcases Nat.lt_or_ge g W.heap.size with k | k
  · exact k
  · unfold RA at h
    rw [Array.getElem?_eq_none k] at h
    simp at h

theorem RA.later {W W' : World} {g : Nat} {cs : Array Value} {t : TypeId} (h : RA W g cs t) (k : Later W W') : RA W' g cs t := (k.2.2.2 g h.lt).trans h

theorem RA.new (W : World) (cs : Array Value) (t : TypeId) : RA (W.alloc (.cells cs t)) W.heap.size cs t := heap_alloc_new _ _

theorem RA.cell {W : World} {g : Nat} {cs : Array Value} {t : TypeId} (h : RA W g cs t) (i : Nat) (v : Value) (hv : cs[i]? = some v) : W.cell? ⟨g, i, none⟩ = some v := by
  unfold RA at h
  simp [World.cell?, h, hv]

theorem RA.froz {W : World} {g : Nat} {cs : Array Value} {t : TypeId} (h : RA W g cs t) (i : Nat) : W.frozen? ⟨g, i, none⟩ = false := by
  unfold RA at h
  simp [World.frozen?, h]

theorem RA.set {W : World} {g : Nat} {cs : Array Value} {t : TypeId} (h : RA W g cs t) (k : Nat) (v : Value) : RA (W.setCell ⟨g, k, none⟩ v) g (cs.setIfInBounds k v) t := by
  unfold RA at *
  simp [World.setCell, Array.getElem?_modify, h]

theorem RA.set4 {W : World} {g : Nat} {t : TypeId} {u0 u1 u2 u3 : Value} (h : RA W g #[u0, u1, u2, u3] t) (v0 v1 v2 v3 : Value) :
    RA ((((W.setCell ⟨g, 0, none⟩ v0).setCell ⟨g, 1, none⟩ v1).setCell ⟨g, 2, none⟩ v2).setCell ⟨g, 3, none⟩ v3) g #[v0, v1, v2, v3] t := by
  have := (((h.set 0 v0).set 1 v1).set 2 v2).set 3 v3
  simpa using this

theorem RA.set2 {W : World} {g : Nat} {t : TypeId} {u0 u1 : Value} (h : RA W g #[u0, u1] t) (v0 v1 : Value) :
    RA ((W.setCell ⟨g, 0, none⟩ v0).setCell ⟨g, 1, none⟩ v1) g #[v0, v1] t := by
  have := (h.set 0 v0).set 1 v1
  simpa using this

/-- A new block's cells may be set. -/
theorem later_set {w W : World} (h : Later w W) {g : Nat} (hg : w.heap.size ≤ g) (k : Nat) (v : Value) : Later w (W.setCell ⟨g, k, none⟩ v) := h.setCell (by exact hg) v

theorem later_set4 {w W : World} (h : Later w W) {g : Nat} (hg : w.heap.size ≤ g) (v0 v1 v2 v3 : Value) : Later w ((((W.setCell ⟨g, 0, none⟩ v0).setCell ⟨g, 1, none⟩ v1).setCell ⟨g, 2, none⟩ v2).setCell ⟨g, 3, none⟩ v3) :=
  later_set (later_set (later_set (later_set h hg _ _) hg _ _) hg _ _) hg _ _

theorem later_set2 {w W : World} (h : Later w W) {g : Nat} (hg : w.heap.size ≤ g) (v0 v1 : Value) : Later w ((W.setCell ⟨g, 0, none⟩ v0).setCell ⟨g, 1, none⟩ v1) :=
  later_set (later_set h hg _ _) hg _ _

/-- Results: a struct in a block; with a slot behind it; with two. -/
theorem results_r {P : Program} {fn : Func} {p : Tmp} {ty : TypeId} (h : fn.results = #[.cell p ty]) (tmps : Array Value) (w : World) (g : Nat) (t : TypeId) (cs : Array Value) (d : TypeDesc)
    (hp : tmps.getD p undef = .pointer (some ⟨g, 0, none⟩)) (hg : RA w g cs t)
    (hu : P.underlying ty = some d) (hd : (match d with | .struct _ | .array _ _ => true | _ => false) = true) (hi : (P.info? ty).map (·.size) = some cs.size) :
    (results fn tmps).run P w = .ok (.agg cs) w := by
  have hp' : tmps[p]?.getD undef = .pointer (some ⟨g, 0, none⟩) := by simpa using hp
  simp [results, h, hp', asAddr, run_loadVar_row w g t ty cs (0, 0) d hg hu hd hi]

theorem results_rt {P : Program} {fn : Func} {p q : Tmp} {ty : TypeId} (h : fn.results = #[.cell p ty, .tmp q]) (tmps : Array Value) (w : World) (g : Nat) (t : TypeId) (cs : Array Value) (d : TypeDesc) (v : Value)
    (hp : tmps.getD p undef = .pointer (some ⟨g, 0, none⟩)) (hq : tmps.getD q undef = v) (hg : RA w g cs t)
    (hu : P.underlying ty = some d) (hd : (match d with | .struct _ | .array _ _ => true | _ => false) = true) (hi : (P.info? ty).map (·.size) = some cs.size) :
    (results fn tmps).run P w = .ok (.tuple #[.agg cs, v]) w := by
  have hp' : tmps[p]?.getD undef = .pointer (some ⟨g, 0, none⟩) := by simpa using hp
  have hq' : tmps[q]?.getD undef = v := by simpa using hq
  simp [results, h, hp', hq', asAddr, run_loadVar_row w g t ty cs (0, 0) d hg hu hd hi]

theorem results_rtt {P : Program} {fn : Func} {p q s : Tmp} {ty : TypeId} (h : fn.results = #[.cell p ty, .tmp q, .tmp s]) (tmps : Array Value) (w : World) (g : Nat) (t : TypeId) (cs : Array Value) (d : TypeDesc) (v u : Value)
    (hp : tmps.getD p undef = .pointer (some ⟨g, 0, none⟩)) (hq : tmps.getD q undef = v) (hs : tmps.getD s undef = u) (hg : RA w g cs t)
    (hu : P.underlying ty = some d) (hd : (match d with | .struct _ | .array _ _ => true | _ => false) = true) (hi : (P.info? ty).map (·.size) = some cs.size) :
    (results fn tmps).run P w = .ok (.tuple #[.agg cs, v, u]) w := by
  have hp' : tmps[p]?.getD undef = .pointer (some ⟨g, 0, none⟩) := by simpa using hp
  have hq' : tmps[q]?.getD undef = v := by simpa using hq
  have hs' : tmps[s]?.getD undef = u := by simpa using hs
  simp [results, h, hp', hq', hs', asAddr, run_loadVar_row w g t ty cs (0, 0) d hg hu hd hi]

/-- A span's cells. -/
def sc4 (f t m p : Int) : Array Value := #[.int .i64 f, .int .i64 t, .int .i64 m, .int .i64 p]

theorem span_cfg (D : Array Value) (c : Cg) (x : Wn) (d : Int) (w : World) (hL : Laid w) (hc : Is w D c) (h : ¬ ce c = 0) : Calls Tryz.prog 11 #[.agg D, .agg (wc x).toArray, .int .i64 d] w fun e w' => e = .returned (.tuple #[.agg (sc4 0 0 0 0), .bool false, .int .i64 (ce c)]) ∧ Later w w' := by
  have e0 : (ce c != 0) = true := by simpa using h
  have KC := Lib.hid (fun W (g : Later w W) => Conf.check_of (hc.later g))
  have HZ := Lib.hid hc.size
  have HG0 := Lib.hid ((((Later.refl w).alloc D 33).alloc (wc x).toArray 35).alloc (sc4 0 0 0 0) 39)
  have HL0 := Lib.hid (hL.grown HG0.out)
  have HA0 := Lib.hid (((At.new w D 33).put (.cells (wc x).toArray 35)).put (.cells (sc4 0 0 0 0) 39))
  have HB0 := Lib.hid ((At.new (w.alloc (.cells D 33)) (wc x).toArray 35).put (.cells (sc4 0 0 0 0) 39))
  have HR0 := Lib.hid (RA.new ((w.alloc (.cells D 33)).alloc (.cells (wc x).toArray 35)) (sc4 0 0 0 0) 39)
  simp only [World.size_alloc] at HB0 HR0
  clear hL hc h
  generalize ce c = k at *
  unfold wc sc4 at *
  go_enter Tryz.func11, Tryz.ntmps11
  go_wp2_with (refine load_at D HZ.out rfl (.tmp 3) rfl w.heap.size rfl HA0.out ?_)
  refine (KC.out _ HG0.out).mono ?_
  rintro e w1 ⟨rfl, hg1⟩
  have HG1 := Lib.hid (gtrans HG0.out hg1)
  have HR1 := Lib.hid (HR0.out.later hg1)
  clear hg1
  have r0 := (HR1.out).cell 0 _ rfl
  have f0 := (HR1.out).froz 0
  have r1 := (HR1.out).cell 1 _ rfl
  have f1 := (HR1.out).froz 1
  have r2 := (HR1.out).cell 2 _ rfl
  have f2 := (HR1.out).froz 2
  have r3 := (HR1.out).cell 3 _ rfl
  have f3 := (HR1.out).froz 3
  go_wp2_with fail
  refine bodyPost_ret (results_rtt (P := Tryz.prog) (fn := Tryz.f11) Tryz.results11 _ _ (w.heap.size + 1 + 1) 39 _ _ _ _ rfl rfl rfl (RA.set4 (HR1.out) _ _ _ _) Tryz.underlying39 rfl (by kernel_rfl)) rfl ⟨rfl, ?_⟩
  exact later_set4 (HG1.out) (by omega) _ _ _ _

theorem span_win (D : Array Value) (c : Cg) (x : Wn) (d : Int) (w : World) (hL : Laid w) (hc : Is w D c) (h : ce c = 0) (h2 : wo x = false) : Calls Tryz.prog 11 #[.agg D, .agg (wc x).toArray, .int .i64 d] w fun e w' => e = .returned (.tuple #[.agg (sc4 0 0 0 0), .bool false, .int .i64 104]) ∧ Later w w' := by
  have e0 : (ce c != 0) = false := by simpa using h
  have KW := Lib.hid (fun W => Conf.window_any x W)
  rw [show Cf.we x = 104 by unfold Cf.we; rw [h2]; rfl] at KW
  have KC := Lib.hid (fun W (g : Later w W) => Conf.check_of (hc.later g))
  have HZ := Lib.hid hc.size
  have HG0 := Lib.hid ((((Later.refl w).alloc D 33).alloc (wc x).toArray 35).alloc (sc4 0 0 0 0) 39)
  have HL0 := Lib.hid (hL.grown HG0.out)
  have HA0 := Lib.hid (((At.new w D 33).put (.cells (wc x).toArray 35)).put (.cells (sc4 0 0 0 0) 39))
  have HB0 := Lib.hid ((At.new (w.alloc (.cells D 33)) (wc x).toArray 35).put (.cells (sc4 0 0 0 0) 39))
  have HR0 := Lib.hid (RA.new ((w.alloc (.cells D 33)).alloc (.cells (wc x).toArray 35)) (sc4 0 0 0 0) 39)
  simp only [World.size_alloc] at HB0 HR0
  clear hL hc h
  generalize ce c = k at *
  unfold wc sc4 at *
  go_enter Tryz.func11, Tryz.ntmps11
  go_wp2_with (refine load_at D HZ.out rfl (.tmp 3) rfl w.heap.size rfl HA0.out ?_)
  refine (KC.out _ HG0.out).mono ?_
  rintro e w1 ⟨rfl, hg1⟩
  have HG1 := Lib.hid (gtrans HG0.out hg1)
  have HB1' : Hid (w1.rangeAt (w.heap.size + 1) 0 (wc x)) := Lib.hid (fun j y hy => by rw [Nat.zero_add]; exact HB0.out.later hg1 j y (by simpa [wc] using hy))
  have HL1 := Lib.hid (HL0.out.grown hg1)
  have HA1 := Lib.hid (HA0.out.later hg1)
  have HB1 := Lib.hid (HB0.out.later hg1)
  have HR1 := Lib.hid (HR0.out.later hg1)
  clear hg1
  go_wp2_with (refine Conf.load_win x rfl (.tmp 4) rfl (w.heap.size + 1) 0 rfl HB1'.out ?_)
  refine (KW.out _).mono ?_
  rintro e w2 ⟨rfl, hg2⟩
  have HG2 := Lib.hid (gtrans HG1.out hg2)
  have HL2 := Lib.hid (HL1.out.grown hg2)
  have HA2 := Lib.hid (HA1.out.later hg2)
  have HB2 := Lib.hid (HB1.out.later hg2)
  have HR2 := Lib.hid (HR1.out.later hg2)
  clear hg2
  have r0 := (HR2.out).cell 0 _ rfl
  have f0 := (HR2.out).froz 0
  have r1 := (HR2.out).cell 1 _ rfl
  have f1 := (HR2.out).froz 1
  have r2 := (HR2.out).cell 2 _ rfl
  have f2 := (HR2.out).froz 2
  have r3 := (HR2.out).cell 3 _ rfl
  have f3 := (HR2.out).froz 3
  go_wp2_with fail
  refine bodyPost_ret (results_rtt (P := Tryz.prog) (fn := Tryz.f11) Tryz.results11 _ _ (w.heap.size + 1 + 1) 39 _ _ _ _ rfl rfl rfl (RA.set4 (HR2.out) _ _ _ _) Tryz.underlying39 rfl (by kernel_rfl)) rfl ⟨rfl, ?_⟩
  exact later_set4 (HG2.out) (by omega) _ _ _ _

theorem span_day (D : Array Value) (c : Cg) (x : Wn) (d : Int) (w : World) (hL : Laid w) (hc : Is w D c) (h : ce c = 0) (h2 : wo x = true) (hd : ¬ (402 ≤ d ∧ d ≤ 3651990)) : Calls Tryz.prog 11 #[.agg D, .agg (wc x).toArray, .int .i64 d] w fun e w' => e = .returned (.tuple #[.agg (sc4 0 0 0 0), .bool false, .int .i64 140]) ∧ Later w w' := by
  have e0 : (ce c != 0) = false := by simpa using h
  have KW := Lib.hid (fun W => Conf.window_any x W)
  rw [show Cf.we x = 0 from (Cf.we_ok x).2 h2] at KW
  have KA := Lib.hid (fun W => asked_any d W)
  rw [wiB_not d 402 3651990 hd] at KA
  have KC := Lib.hid (fun W (g : Later w W) => Conf.check_of (hc.later g))
  have HZ := Lib.hid hc.size
  have HG0 := Lib.hid ((((Later.refl w).alloc D 33).alloc (wc x).toArray 35).alloc (sc4 0 0 0 0) 39)
  have HL0 := Lib.hid (hL.grown HG0.out)
  have HA0 := Lib.hid (((At.new w D 33).put (.cells (wc x).toArray 35)).put (.cells (sc4 0 0 0 0) 39))
  have HB0 := Lib.hid ((At.new (w.alloc (.cells D 33)) (wc x).toArray 35).put (.cells (sc4 0 0 0 0) 39))
  have HR0 := Lib.hid (RA.new ((w.alloc (.cells D 33)).alloc (.cells (wc x).toArray 35)) (sc4 0 0 0 0) 39)
  simp only [World.size_alloc] at HB0 HR0
  clear hL hc h hd
  generalize ce c = k at *
  unfold wc sc4 at *
  go_enter Tryz.func11, Tryz.ntmps11
  go_wp2_with (refine load_at D HZ.out rfl (.tmp 3) rfl w.heap.size rfl HA0.out ?_)
  refine (KC.out _ HG0.out).mono ?_
  rintro e w1 ⟨rfl, hg1⟩
  have HG1 := Lib.hid (gtrans HG0.out hg1)
  have HB1' : Hid (w1.rangeAt (w.heap.size + 1) 0 (wc x)) := Lib.hid (fun j y hy => by rw [Nat.zero_add]; exact HB0.out.later hg1 j y (by simpa [wc] using hy))
  have HL1 := Lib.hid (HL0.out.grown hg1)
  have HA1 := Lib.hid (HA0.out.later hg1)
  have HB1 := Lib.hid (HB0.out.later hg1)
  have HR1 := Lib.hid (HR0.out.later hg1)
  clear hg1
  go_wp2_with (refine Conf.load_win x rfl (.tmp 4) rfl (w.heap.size + 1) 0 rfl HB1'.out ?_)
  refine (KW.out _).mono ?_
  rintro e w2 ⟨rfl, hg2⟩
  have HG2 := Lib.hid (gtrans HG1.out hg2)
  have HL2 := Lib.hid (HL1.out.grown hg2)
  have HA2 := Lib.hid (HA1.out.later hg2)
  have HB2 := Lib.hid (HB1.out.later hg2)
  have HR2 := Lib.hid (HR1.out.later hg2)
  clear hg2
  go_wp2_with fail
  refine (KA.out _).mono ?_
  rintro e w3 ⟨rfl, rfl⟩
  have r0 := (HR2.out).cell 0 _ rfl
  have f0 := (HR2.out).froz 0
  have r1 := (HR2.out).cell 1 _ rfl
  have f1 := (HR2.out).froz 1
  have r2 := (HR2.out).cell 2 _ rfl
  have f2 := (HR2.out).froz 2
  have r3 := (HR2.out).cell 3 _ rfl
  have f3 := (HR2.out).froz 3
  go_wp2_with fail
  refine bodyPost_ret (results_rtt (P := Tryz.prog) (fn := Tryz.f11) Tryz.results11 _ _ (w.heap.size + 1 + 1) 39 _ _ _ _ rfl rfl rfl (RA.set4 (HR2.out) _ _ _ _) Tryz.underlying39 rfl (by kernel_rfl)) rfl ⟨rfl, ?_⟩
  exact later_set4 (HG2.out) (by omega) _ _ _ _

theorem kind_weekly_of {W : World} {D : Array Value} {c : Cg} (h : Is W D c) (x : Wn) (hk : x.k = 1) : Calls Tryz.prog 26 #[.agg D, .agg (wc x).toArray] W fun e w' => e = .returned (.iface 99 (.agg (wk c.z x.u x.l x.a))) ∧ Later W w' := by
  obtain ⟨u, v, rfl, _, _⟩ := h
  exact kind_weekly c u v x W hk

theorem kind_dated_of {W : World} {D : Array Value} {c : Cg} (h : Is W D c) (x : Wn) (hk : x.k = 2) : Calls Tryz.prog 26 #[.agg D, .agg (wc x).toArray] W fun e w' => e = .returned (.iface 101 (.agg (wk c.z x.u x.l x.a))) ∧ Later W w' := by
  obtain ⟨u, v, rfl, _, _⟩ := h
  exact kind_dated c u v x W hk

theorem kind_festive_of {W : World} {D : Array Value} {c : Cg} (h : Is W D c) (x : Wn) (hk : x.k = 3) : Calls Tryz.prog 26 #[.agg D, .agg (wc x).toArray] W fun e w' => e = .returned (.iface 103 (.agg (fk c.z x.u x.l x.a x.h c.ab))) ∧ Later W w' := by
  obtain ⟨u, v, rfl, _, _⟩ := h
  exact kind_festive c u v x W hk

theorem kind_restful_of {W : World} {D : Array Value} {c : Cg} (h : Is W D c) (x : Wn) (hk : x.k = 4) : Calls Tryz.prog 26 #[.agg D, .agg (wc x).toArray] W fun e w' => e = .returned (.iface 105 (.agg (rk c.z c.s c.ab x.u x.l))) ∧ Later W w' := by
  obtain ⟨u, v, rfl, _, _⟩ := h
  exact kind_restful c u v x W hk

theorem span_weekly_no (D : Array Value) (c : Cg) (x : Wn) (d : Int) (w : World) (hL : Laid w) (hc : Is w D c) (h : ce c = 0) (h2 : wo x = true) (d0 : 402 ≤ d) (d1 : d ≤ 3651990) (hk : x.k = 1) (hb : beg c x d = false) : Calls Tryz.prog 11 #[.agg D, .agg (wc x).toArray, .int .i64 d] w fun e w' => e = .returned (.tuple #[.agg (sc4 0 0 0 0), .bool false, .int .i64 0]) ∧ Later w w' := by
  have e0 : (ce c != 0) = false := by simpa using h
  have KW := Lib.hid (fun W => Conf.window_any x W)
  rw [show Cf.we x = 0 from (Cf.we_ok x).2 h2] at KW
  have KA := Lib.hid (fun W => asked_any d W)
  rw [(wiB_iff d 402 3651990).2 ⟨d0, d1⟩] at KA
  have hw := (Conf.wo_iff x).1 h2
  obtain ⟨hz, hs⟩ := ce_parts c h
  have KK := Lib.hid (fun W (g : Later w W) => kind_weekly_of (hc.later g) x hk)
  have KB := Lib.hid (fun W => weekly_begins c.z x.u x.l x.a d W (by omega) (by omega))
  rw [show bit x.a d = beg c x d by unfold beg; rw [hk]; simp, hb] at KB
  have KC := Lib.hid (fun W (g : Later w W) => Conf.check_of (hc.later g))
  have HZ := Lib.hid hc.size
  have HG0 := Lib.hid ((((Later.refl w).alloc D 33).alloc (wc x).toArray 35).alloc (sc4 0 0 0 0) 39)
  have HL0 := Lib.hid (hL.grown HG0.out)
  have HA0 := Lib.hid (((At.new w D 33).put (.cells (wc x).toArray 35)).put (.cells (sc4 0 0 0 0) 39))
  have HB0 := Lib.hid ((At.new (w.alloc (.cells D 33)) (wc x).toArray 35).put (.cells (sc4 0 0 0 0) 39))
  have HR0 := Lib.hid (RA.new ((w.alloc (.cells D 33)).alloc (.cells (wc x).toArray 35)) (sc4 0 0 0 0) 39)
  simp only [World.size_alloc] at HB0 HR0
  clear hL hc h h2 hz hs hw d0 d1 hb hk
  generalize ce c = k at *
  obtain ⟨KV, hKV⟩ : ∃ KV, KV = wk c.z x.u x.l x.a := ⟨_, rfl⟩
  rw [← hKV] at KK KB
  clear hKV
  unfold wc sc4 at *
  go_enter Tryz.func11, Tryz.ntmps11
  go_wp2_with (refine load_at D HZ.out rfl (.tmp 3) rfl w.heap.size rfl HA0.out ?_)
  refine (KC.out _ HG0.out).mono ?_
  rintro e w1 ⟨rfl, hg1⟩
  have HG1 := Lib.hid (gtrans HG0.out hg1)
  have HB1' : Hid (w1.rangeAt (w.heap.size + 1) 0 (wc x)) := Lib.hid (fun j y hy => by rw [Nat.zero_add]; exact HB0.out.later hg1 j y (by simpa [wc] using hy))
  have HL1 := Lib.hid (HL0.out.grown hg1)
  have HA1 := Lib.hid (HA0.out.later hg1)
  have HB1 := Lib.hid (HB0.out.later hg1)
  have HR1 := Lib.hid (HR0.out.later hg1)
  clear hg1
  go_wp2_with (refine Conf.load_win x rfl (.tmp 4) rfl (w.heap.size + 1) 0 rfl HB1'.out ?_)
  refine (KW.out _).mono ?_
  rintro e w2 ⟨rfl, hg2⟩
  have HG2 := Lib.hid (gtrans HG1.out hg2)
  have HL2 := Lib.hid (HL1.out.grown hg2)
  have HA2 := Lib.hid (HA1.out.later hg2)
  have HB2 := Lib.hid (HB1.out.later hg2)
  have HR2 := Lib.hid (HR1.out.later hg2)
  clear hg2
  go_wp2_with fail
  refine (KA.out _).mono ?_
  rintro e w3 ⟨rfl, rfl⟩
  have HB2' : Hid (w2.rangeAt (w.heap.size + 1) 0 (wc x)) := Lib.hid (fun j y hy => by rw [Nat.zero_add]; exact HB2.out j y (by simpa [wc] using hy))
  go_wp2_with (first | (refine load_at D HZ.out rfl (.tmp 3) rfl w.heap.size rfl HA2.out ?_) | (refine Conf.load_win x rfl (.tmp 4) rfl (w.heap.size + 1) 0 rfl HB2'.out ?_))
  refine (KK.out _ HG2.out).mono ?_
  rintro e w4 ⟨rfl, hg4⟩
  have HG4 := Lib.hid (gtrans HG2.out hg4)
  have HL4 := Lib.hid (HL2.out.grown hg4)
  have HB4 := Lib.hid (HB2.out.later hg4)
  have HR4 := Lib.hid (HR2.out.later hg4)
  clear hg4
  go_wp2_with fail
  refine (KB.out _).mono ?_
  rintro e w5 ⟨rfl, hg5⟩
  have HG5 := Lib.hid (gtrans HG4.out hg5)
  have HL5 := Lib.hid (HL4.out.grown hg5)
  have HB5 := Lib.hid (HB4.out.later hg5)
  have HR5 := Lib.hid (HR4.out.later hg5)
  clear hg5
  have r0 := (HR5.out).cell 0 _ rfl
  have f0 := (HR5.out).froz 0
  have r1 := (HR5.out).cell 1 _ rfl
  have f1 := (HR5.out).froz 1
  have r2 := (HR5.out).cell 2 _ rfl
  have f2 := (HR5.out).froz 2
  have r3 := (HR5.out).cell 3 _ rfl
  have f3 := (HR5.out).froz 3
  go_wp2_with fail
  refine bodyPost_ret (results_rtt (P := Tryz.prog) (fn := Tryz.f11) Tryz.results11 _ _ (w.heap.size + 1 + 1) 39 _ _ _ _ rfl rfl rfl (RA.set4 (HR5.out) _ _ _ _) Tryz.underlying39 rfl (by kernel_rfl)) rfl ⟨rfl, ?_⟩
  exact later_set4 (HG5.out) (by omega) _ _ _ _

theorem span_dated_no (D : Array Value) (c : Cg) (x : Wn) (d : Int) (w : World) (hL : Laid w) (hc : Is w D c) (h : ce c = 0) (h2 : wo x = true) (d0 : 402 ≤ d) (d1 : d ≤ 3651990) (hk : x.k = 2) (hb : beg c x d = false) : Calls Tryz.prog 11 #[.agg D, .agg (wc x).toArray, .int .i64 d] w fun e w' => e = .returned (.tuple #[.agg (sc4 0 0 0 0), .bool false, .int .i64 0]) ∧ Later w w' := by
  have e0 : (ce c != 0) = false := by simpa using h
  have KW := Lib.hid (fun W => Conf.window_any x W)
  rw [show Cf.we x = 0 from (Cf.we_ok x).2 h2] at KW
  have KA := Lib.hid (fun W => asked_any d W)
  rw [(wiB_iff d 402 3651990).2 ⟨d0, d1⟩] at KA
  have hw := (Conf.wo_iff x).1 h2
  obtain ⟨hz, hs⟩ := ce_parts c h
  have KK := Lib.hid (fun W (g : Later w W) => kind_dated_of (hc.later g) x hk)
  have KB := Lib.hid (fun W => dated_begins c.z x.u x.l x.a d W)
  rw [show (d == x.a) = beg c x d by unfold beg; rw [hk]; simp, hb] at KB
  have KC := Lib.hid (fun W (g : Later w W) => Conf.check_of (hc.later g))
  have HZ := Lib.hid hc.size
  have HG0 := Lib.hid ((((Later.refl w).alloc D 33).alloc (wc x).toArray 35).alloc (sc4 0 0 0 0) 39)
  have HL0 := Lib.hid (hL.grown HG0.out)
  have HA0 := Lib.hid (((At.new w D 33).put (.cells (wc x).toArray 35)).put (.cells (sc4 0 0 0 0) 39))
  have HB0 := Lib.hid ((At.new (w.alloc (.cells D 33)) (wc x).toArray 35).put (.cells (sc4 0 0 0 0) 39))
  have HR0 := Lib.hid (RA.new ((w.alloc (.cells D 33)).alloc (.cells (wc x).toArray 35)) (sc4 0 0 0 0) 39)
  simp only [World.size_alloc] at HB0 HR0
  clear hL hc h h2 hz hs hw d0 d1 hb hk
  generalize ce c = k at *
  obtain ⟨KV, hKV⟩ : ∃ KV, KV = wk c.z x.u x.l x.a := ⟨_, rfl⟩
  rw [← hKV] at KK KB
  clear hKV
  unfold wc sc4 at *
  go_enter Tryz.func11, Tryz.ntmps11
  go_wp2_with (refine load_at D HZ.out rfl (.tmp 3) rfl w.heap.size rfl HA0.out ?_)
  refine (KC.out _ HG0.out).mono ?_
  rintro e w1 ⟨rfl, hg1⟩
  have HG1 := Lib.hid (gtrans HG0.out hg1)
  have HB1' : Hid (w1.rangeAt (w.heap.size + 1) 0 (wc x)) := Lib.hid (fun j y hy => by rw [Nat.zero_add]; exact HB0.out.later hg1 j y (by simpa [wc] using hy))
  have HL1 := Lib.hid (HL0.out.grown hg1)
  have HA1 := Lib.hid (HA0.out.later hg1)
  have HB1 := Lib.hid (HB0.out.later hg1)
  have HR1 := Lib.hid (HR0.out.later hg1)
  clear hg1
  go_wp2_with (refine Conf.load_win x rfl (.tmp 4) rfl (w.heap.size + 1) 0 rfl HB1'.out ?_)
  refine (KW.out _).mono ?_
  rintro e w2 ⟨rfl, hg2⟩
  have HG2 := Lib.hid (gtrans HG1.out hg2)
  have HL2 := Lib.hid (HL1.out.grown hg2)
  have HA2 := Lib.hid (HA1.out.later hg2)
  have HB2 := Lib.hid (HB1.out.later hg2)
  have HR2 := Lib.hid (HR1.out.later hg2)
  clear hg2
  go_wp2_with fail
  refine (KA.out _).mono ?_
  rintro e w3 ⟨rfl, rfl⟩
  have HB2' : Hid (w2.rangeAt (w.heap.size + 1) 0 (wc x)) := Lib.hid (fun j y hy => by rw [Nat.zero_add]; exact HB2.out j y (by simpa [wc] using hy))
  go_wp2_with (first | (refine load_at D HZ.out rfl (.tmp 3) rfl w.heap.size rfl HA2.out ?_) | (refine Conf.load_win x rfl (.tmp 4) rfl (w.heap.size + 1) 0 rfl HB2'.out ?_))
  refine (KK.out _ HG2.out).mono ?_
  rintro e w4 ⟨rfl, hg4⟩
  have HG4 := Lib.hid (gtrans HG2.out hg4)
  have HL4 := Lib.hid (HL2.out.grown hg4)
  have HB4 := Lib.hid (HB2.out.later hg4)
  have HR4 := Lib.hid (HR2.out.later hg4)
  clear hg4
  go_wp2_with fail
  refine (KB.out _).mono ?_
  rintro e w5 ⟨rfl, hg5⟩
  have HG5 := Lib.hid (gtrans HG4.out hg5)
  have HL5 := Lib.hid (HL4.out.grown hg5)
  have HB5 := Lib.hid (HB4.out.later hg5)
  have HR5 := Lib.hid (HR4.out.later hg5)
  clear hg5
  have r0 := (HR5.out).cell 0 _ rfl
  have f0 := (HR5.out).froz 0
  have r1 := (HR5.out).cell 1 _ rfl
  have f1 := (HR5.out).froz 1
  have r2 := (HR5.out).cell 2 _ rfl
  have f2 := (HR5.out).froz 2
  have r3 := (HR5.out).cell 3 _ rfl
  have f3 := (HR5.out).froz 3
  go_wp2_with fail
  refine bodyPost_ret (results_rtt (P := Tryz.prog) (fn := Tryz.f11) Tryz.results11 _ _ (w.heap.size + 1 + 1) 39 _ _ _ _ rfl rfl rfl (RA.set4 (HR5.out) _ _ _ _) Tryz.underlying39 rfl (by kernel_rfl)) rfl ⟨rfl, ?_⟩
  exact later_set4 (HG5.out) (by omega) _ _ _ _

theorem span_festive_no (D : Array Value) (c : Cg) (x : Wn) (d : Int) (w : World) (hL : Laid w) (hc : Is w D c) (h : ce c = 0) (h2 : wo x = true) (d0 : 402 ≤ d) (d1 : d ≤ 3651990) (hk : x.k = 3) (hb : beg c x d = false) : Calls Tryz.prog 11 #[.agg D, .agg (wc x).toArray, .int .i64 d] w fun e w' => e = .returned (.tuple #[.agg (sc4 0 0 0 0), .bool false, .int .i64 0]) ∧ Later w w' := by
  have e0 : (ce c != 0) = false := by simpa using h
  have KW := Lib.hid (fun W => Conf.window_any x W)
  rw [show Cf.we x = 0 from (Cf.we_ok x).2 h2] at KW
  have KA := Lib.hid (fun W => asked_any d W)
  rw [(wiB_iff d 402 3651990).2 ⟨d0, d1⟩] at KA
  have hw := (Conf.wo_iff x).1 h2
  obtain ⟨hz, hs⟩ := ce_parts c h
  have KK := Lib.hid (fun W (g : Later w W) => kind_festive_of (hc.later g) x hk)
  have KB := Lib.hid (fun W => festive_begins c.z x.u x.l x.a x.h d c.ab W (by omega) (by omega) (by omega) (by omega))
  rw [show (kd c.ab (d - x.h) == x.a) = beg c x d by unfold beg; rw [hk]; simp, hb] at KB
  have KC := Lib.hid (fun W (g : Later w W) => Conf.check_of (hc.later g))
  have HZ := Lib.hid hc.size
  have HG0 := Lib.hid ((((Later.refl w).alloc D 33).alloc (wc x).toArray 35).alloc (sc4 0 0 0 0) 39)
  have HL0 := Lib.hid (hL.grown HG0.out)
  have HA0 := Lib.hid (((At.new w D 33).put (.cells (wc x).toArray 35)).put (.cells (sc4 0 0 0 0) 39))
  have HB0 := Lib.hid ((At.new (w.alloc (.cells D 33)) (wc x).toArray 35).put (.cells (sc4 0 0 0 0) 39))
  have HR0 := Lib.hid (RA.new ((w.alloc (.cells D 33)).alloc (.cells (wc x).toArray 35)) (sc4 0 0 0 0) 39)
  simp only [World.size_alloc] at HB0 HR0
  clear hL hc h h2 hz hs hw d0 d1 hb hk
  generalize ce c = k at *
  obtain ⟨KV, hKV⟩ : ∃ KV, KV = fk c.z x.u x.l x.a x.h c.ab := ⟨_, rfl⟩
  rw [← hKV] at KK KB
  clear hKV
  unfold wc sc4 at *
  go_enter Tryz.func11, Tryz.ntmps11
  go_wp2_with (refine load_at D HZ.out rfl (.tmp 3) rfl w.heap.size rfl HA0.out ?_)
  refine (KC.out _ HG0.out).mono ?_
  rintro e w1 ⟨rfl, hg1⟩
  have HG1 := Lib.hid (gtrans HG0.out hg1)
  have HB1' : Hid (w1.rangeAt (w.heap.size + 1) 0 (wc x)) := Lib.hid (fun j y hy => by rw [Nat.zero_add]; exact HB0.out.later hg1 j y (by simpa [wc] using hy))
  have HL1 := Lib.hid (HL0.out.grown hg1)
  have HA1 := Lib.hid (HA0.out.later hg1)
  have HB1 := Lib.hid (HB0.out.later hg1)
  have HR1 := Lib.hid (HR0.out.later hg1)
  clear hg1
  go_wp2_with (refine Conf.load_win x rfl (.tmp 4) rfl (w.heap.size + 1) 0 rfl HB1'.out ?_)
  refine (KW.out _).mono ?_
  rintro e w2 ⟨rfl, hg2⟩
  have HG2 := Lib.hid (gtrans HG1.out hg2)
  have HL2 := Lib.hid (HL1.out.grown hg2)
  have HA2 := Lib.hid (HA1.out.later hg2)
  have HB2 := Lib.hid (HB1.out.later hg2)
  have HR2 := Lib.hid (HR1.out.later hg2)
  clear hg2
  go_wp2_with fail
  refine (KA.out _).mono ?_
  rintro e w3 ⟨rfl, rfl⟩
  have HB2' : Hid (w2.rangeAt (w.heap.size + 1) 0 (wc x)) := Lib.hid (fun j y hy => by rw [Nat.zero_add]; exact HB2.out j y (by simpa [wc] using hy))
  go_wp2_with (first | (refine load_at D HZ.out rfl (.tmp 3) rfl w.heap.size rfl HA2.out ?_) | (refine Conf.load_win x rfl (.tmp 4) rfl (w.heap.size + 1) 0 rfl HB2'.out ?_))
  refine (KK.out _ HG2.out).mono ?_
  rintro e w4 ⟨rfl, hg4⟩
  have HG4 := Lib.hid (gtrans HG2.out hg4)
  have HL4 := Lib.hid (HL2.out.grown hg4)
  have HB4 := Lib.hid (HB2.out.later hg4)
  have HR4 := Lib.hid (HR2.out.later hg4)
  clear hg4
  go_wp2_with fail
  refine (KB.out _).mono ?_
  rintro e w5 ⟨rfl, hg5⟩
  have HG5 := Lib.hid (gtrans HG4.out hg5)
  have HL5 := Lib.hid (HL4.out.grown hg5)
  have HB5 := Lib.hid (HB4.out.later hg5)
  have HR5 := Lib.hid (HR4.out.later hg5)
  clear hg5
  have r0 := (HR5.out).cell 0 _ rfl
  have f0 := (HR5.out).froz 0
  have r1 := (HR5.out).cell 1 _ rfl
  have f1 := (HR5.out).froz 1
  have r2 := (HR5.out).cell 2 _ rfl
  have f2 := (HR5.out).froz 2
  have r3 := (HR5.out).cell 3 _ rfl
  have f3 := (HR5.out).froz 3
  go_wp2_with fail
  refine bodyPost_ret (results_rtt (P := Tryz.prog) (fn := Tryz.f11) Tryz.results11 _ _ (w.heap.size + 1 + 1) 39 _ _ _ _ rfl rfl rfl (RA.set4 (HR5.out) _ _ _ _) Tryz.underlying39 rfl (by kernel_rfl)) rfl ⟨rfl, ?_⟩
  exact later_set4 (HG5.out) (by omega) _ _ _ _

theorem span_restful_no (D : Array Value) (c : Cg) (x : Wn) (d : Int) (w : World) (hL : Laid w) (hc : Is w D c) (h : ce c = 0) (h2 : wo x = true) (d0 : 402 ≤ d) (d1 : d ≤ 3651990) (hk : x.k = 4) (hb : beg c x d = false) : Calls Tryz.prog 11 #[.agg D, .agg (wc x).toArray, .int .i64 d] w fun e w' => e = .returned (.tuple #[.agg (sc4 0 0 0 0), .bool false, .int .i64 0]) ∧ Later w w' := by
  have e0 : (ce c != 0) = false := by simpa using h
  have KW := Lib.hid (fun W => Conf.window_any x W)
  rw [show Cf.we x = 0 from (Cf.we_ok x).2 h2] at KW
  have KA := Lib.hid (fun W => asked_any d W)
  rw [(wiB_iff d 402 3651990).2 ⟨d0, d1⟩] at KA
  have hw := (Conf.wo_iff x).1 h2
  obtain ⟨hz, hs⟩ := ce_parts c h
  have KK := Lib.hid (fun W (g : Later w W) => kind_restful_of (hc.later g) x hk)
  have KB := Lib.hid (fun W => restful_begins c.z c.s c.ab x.u x.l d W (by omega) (by omega))
  rw [show (!rst c.ab d && rst c.ab (d + 1)) = beg c x d by unfold beg; rw [hk]; simp, hb] at KB
  have KC := Lib.hid (fun W (g : Later w W) => Conf.check_of (hc.later g))
  have HZ := Lib.hid hc.size
  have HG0 := Lib.hid ((((Later.refl w).alloc D 33).alloc (wc x).toArray 35).alloc (sc4 0 0 0 0) 39)
  have HL0 := Lib.hid (hL.grown HG0.out)
  have HA0 := Lib.hid (((At.new w D 33).put (.cells (wc x).toArray 35)).put (.cells (sc4 0 0 0 0) 39))
  have HB0 := Lib.hid ((At.new (w.alloc (.cells D 33)) (wc x).toArray 35).put (.cells (sc4 0 0 0 0) 39))
  have HR0 := Lib.hid (RA.new ((w.alloc (.cells D 33)).alloc (.cells (wc x).toArray 35)) (sc4 0 0 0 0) 39)
  simp only [World.size_alloc] at HB0 HR0
  clear hL hc h h2 hz hs hw d0 d1 hb hk
  generalize ce c = k at *
  obtain ⟨KV, hKV⟩ : ∃ KV, KV = rk c.z c.s c.ab x.u x.l := ⟨_, rfl⟩
  rw [← hKV] at KK KB
  clear hKV
  unfold wc sc4 at *
  go_enter Tryz.func11, Tryz.ntmps11
  go_wp2_with (refine load_at D HZ.out rfl (.tmp 3) rfl w.heap.size rfl HA0.out ?_)
  refine (KC.out _ HG0.out).mono ?_
  rintro e w1 ⟨rfl, hg1⟩
  have HG1 := Lib.hid (gtrans HG0.out hg1)
  have HB1' : Hid (w1.rangeAt (w.heap.size + 1) 0 (wc x)) := Lib.hid (fun j y hy => by rw [Nat.zero_add]; exact HB0.out.later hg1 j y (by simpa [wc] using hy))
  have HL1 := Lib.hid (HL0.out.grown hg1)
  have HA1 := Lib.hid (HA0.out.later hg1)
  have HB1 := Lib.hid (HB0.out.later hg1)
  have HR1 := Lib.hid (HR0.out.later hg1)
  clear hg1
  go_wp2_with (refine Conf.load_win x rfl (.tmp 4) rfl (w.heap.size + 1) 0 rfl HB1'.out ?_)
  refine (KW.out _).mono ?_
  rintro e w2 ⟨rfl, hg2⟩
  have HG2 := Lib.hid (gtrans HG1.out hg2)
  have HL2 := Lib.hid (HL1.out.grown hg2)
  have HA2 := Lib.hid (HA1.out.later hg2)
  have HB2 := Lib.hid (HB1.out.later hg2)
  have HR2 := Lib.hid (HR1.out.later hg2)
  clear hg2
  go_wp2_with fail
  refine (KA.out _).mono ?_
  rintro e w3 ⟨rfl, rfl⟩
  have HB2' : Hid (w2.rangeAt (w.heap.size + 1) 0 (wc x)) := Lib.hid (fun j y hy => by rw [Nat.zero_add]; exact HB2.out j y (by simpa [wc] using hy))
  go_wp2_with (first | (refine load_at D HZ.out rfl (.tmp 3) rfl w.heap.size rfl HA2.out ?_) | (refine Conf.load_win x rfl (.tmp 4) rfl (w.heap.size + 1) 0 rfl HB2'.out ?_))
  refine (KK.out _ HG2.out).mono ?_
  rintro e w4 ⟨rfl, hg4⟩
  have HG4 := Lib.hid (gtrans HG2.out hg4)
  have HL4 := Lib.hid (HL2.out.grown hg4)
  have HB4 := Lib.hid (HB2.out.later hg4)
  have HR4 := Lib.hid (HR2.out.later hg4)
  clear hg4
  go_wp2_with fail
  refine (KB.out _).mono ?_
  rintro e w5 ⟨rfl, hg5⟩
  have HG5 := Lib.hid (gtrans HG4.out hg5)
  have HL5 := Lib.hid (HL4.out.grown hg5)
  have HB5 := Lib.hid (HB4.out.later hg5)
  have HR5 := Lib.hid (HR4.out.later hg5)
  clear hg5
  have r0 := (HR5.out).cell 0 _ rfl
  have f0 := (HR5.out).froz 0
  have r1 := (HR5.out).cell 1 _ rfl
  have f1 := (HR5.out).froz 1
  have r2 := (HR5.out).cell 2 _ rfl
  have f2 := (HR5.out).froz 2
  have r3 := (HR5.out).cell 3 _ rfl
  have f3 := (HR5.out).froz 3
  go_wp2_with fail
  refine bodyPost_ret (results_rtt (P := Tryz.prog) (fn := Tryz.f11) Tryz.results11 _ _ (w.heap.size + 1 + 1) 39 _ _ _ _ rfl rfl rfl (RA.set4 (HR5.out) _ _ _ _) Tryz.underlying39 rfl (by kernel_rfl)) rfl ⟨rfl, ?_⟩
  exact later_set4 (HG5.out) (by omega) _ _ _ _

end Go.Proofs.YtmlnlkfdbbnkbaaGreatDoor.Window
