/-
  The statement GregLast: for any year and month (of a date) and any int w the last day of a weekday is the fifth one, if there is one, else the fourth, and a week later it is another month, or no day; where Nth refuses, it refuses all three alike, with 0. Condition: the table of months is what the program's text lays (the card ties it).
-/
import Derived.Test.YthbgkojmkllagaaDoorLift
namespace Go.Proofs.YthbgkojmkllagaaDoor.gregLast
open Go.ChangeShapes Go.WideShapes Go.ChangeAt Go.RowKit Go.Joins
open Go.Proofs.YthbgkojmkllagaaDoor.Divs Go.Proofs.YthbgkojmkllagaaDoor.Greg
open Go.Proofs.YthbgkojmkllagaaDoor.Cal (lp ln tab dm ya ma dn yr mo om od)
set_option linter.unusedVariables false

/-- Where Nth refuses. -/
theorem core_no (y m d v c : Int) (w : World) (hL : Laid w) (hc : (c != 0) = true)
    (H1 : Hid (∀ W, Laid W → Calls Tryd.prog 22 #[.int .i64 y, .int .i64 m, .int .i64 v, .int .i64 (-1)] W fun e w' => e = .returned (.tuple #[.int .i64 0, .int .i64 c]) ∧ Grown W w'))
    (H4 : Hid (∀ W, Laid W → Calls Tryd.prog 22 #[.int .i64 y, .int .i64 m, .int .i64 v, .int .i64 4] W fun e w' => e = .returned (.tuple #[.int .i64 0, .int .i64 c]) ∧ Grown W w'))
    (H5 : Hid (∀ W, Laid W → Calls Tryd.prog 22 #[.int .i64 y, .int .i64 m, .int .i64 v, .int .i64 5] W fun e w' => e = .returned (.tuple #[.int .i64 0, .int .i64 c]) ∧ Grown W w')) :
    Calls Tryd.prog 9 #[.agg #[.int .i64 y, .int .i64 m, .int .i64 d], .int .i64 v] w fun e w' => e = .returned (.bool true) ∧ Grown w w' := by
  have hL0 : Laid (w.alloc (.cells #[.int .i64 y, .int .i64 m, .int .i64 d] 23)) := hL.grown ((Grown.refl w).alloc _ _)
  have X0 := Lib.hid (gw_new w #[.int .i64 y, .int .i64 m, .int .i64 d] 23 0 (.int .i64 y) rfl)
  have X1 := Lib.hid (gw_new w #[.int .i64 y, .int .i64 m, .int .i64 d] 23 1 (.int .i64 m) rfl)
  have t1 : (c == c) = true := by simp
  go_enter Tryd.func9, Tryd.ntmps9
  go_wp2_with fail
  refine (H1.out _ hL0).mono ?_
  rintro e w1 ⟨rfl, hg1⟩
  have c0 : w1.cell? ⟨w.heap.size, 0, none⟩ = some (.int .i64 y) := X0.out ⟨w1, hg1⟩
  have c1 : w1.cell? ⟨w.heap.size, 1, none⟩ = some (.int .i64 m) := X1.out ⟨w1, hg1⟩
  go_wp2_with fail
  refine (H4.out _ (hL0.grown hg1)).mono ?_
  rintro e w2 ⟨rfl, hg2⟩
  have hg12 := gtrans hg1 hg2
  clear c0 c1
  have c0 : w2.cell? ⟨w.heap.size, 0, none⟩ = some (.int .i64 y) := X0.out ⟨w2, hg12⟩
  have c1 : w2.cell? ⟨w.heap.size, 1, none⟩ = some (.int .i64 m) := X1.out ⟨w2, hg12⟩
  go_wp2_with fail
  refine (H5.out _ (hL0.grown hg12)).mono ?_
  rintro e w3 ⟨rfl, hg3⟩
  have hg13 := gtrans hg12 hg3
  clear c0 c1
  go_wp2_with fail
  refine (awake_any _ (hL0.grown hg13)).mono ?_
  rintro e w4 ⟨rfl, hg4⟩
  go_wp2_with fail
  go_ret
  exact ⟨by simp, gtrans (gtrans ((Grown.refl w).alloc _ _) hg13) hg4⟩

/-- Where there is a fifth one. -/
theorem core_five (y m d v p q : Int) (w : World) (hL : Laid w) (q0 : 0 ≤ q) (q1 : q ≤ 4000000) (hp : (p == q + 7) = true)
    (H1 : Hid (∀ W, Laid W → Calls Tryd.prog 22 #[.int .i64 y, .int .i64 m, .int .i64 v, .int .i64 (-1)] W fun e w' => e = .returned (.tuple #[.int .i64 p, .int .i64 0]) ∧ Grown W w'))
    (H4 : Hid (∀ W, Laid W → Calls Tryd.prog 22 #[.int .i64 y, .int .i64 m, .int .i64 v, .int .i64 4] W fun e w' => e = .returned (.tuple #[.int .i64 q, .int .i64 0]) ∧ Grown W w'))
    (H5 : Hid (∀ W, Laid W → Calls Tryd.prog 22 #[.int .i64 y, .int .i64 m, .int .i64 v, .int .i64 5] W fun e w' => e = .returned (.tuple #[.int .i64 p, .int .i64 0]) ∧ Grown W w')) :
    Calls Tryd.prog 9 #[.agg #[.int .i64 y, .int .i64 m, .int .i64 d], .int .i64 v] w fun e w' => e = .returned (.bool true) ∧ Grown w w' := by
  have hL0 : Laid (w.alloc (.cells #[.int .i64 y, .int .i64 m, .int .i64 d] 23)) := hL.grown ((Grown.refl w).alloc _ _)
  have X0 := Lib.hid (gw_new w #[.int .i64 y, .int .i64 m, .int .i64 d] 23 0 (.int .i64 y) rfl)
  have X1 := Lib.hid (gw_new w #[.int .i64 y, .int .i64 m, .int .i64 d] 23 1 (.int .i64 m) rfl)
  have t1 : (p == p) = true := by simp
  go_enter Tryd.func9, Tryd.ntmps9
  go_wp2_with fail
  refine (H1.out _ hL0).mono ?_
  rintro e w1 ⟨rfl, hg1⟩
  have c0 : w1.cell? ⟨w.heap.size, 0, none⟩ = some (.int .i64 y) := X0.out ⟨w1, hg1⟩
  have c1 : w1.cell? ⟨w.heap.size, 1, none⟩ = some (.int .i64 m) := X1.out ⟨w1, hg1⟩
  go_wp2_with fail
  refine (H4.out _ (hL0.grown hg1)).mono ?_
  rintro e w2 ⟨rfl, hg2⟩
  have hg12 := gtrans hg1 hg2
  clear c0 c1
  have c0 : w2.cell? ⟨w.heap.size, 0, none⟩ = some (.int .i64 y) := X0.out ⟨w2, hg12⟩
  have c1 : w2.cell? ⟨w.heap.size, 1, none⟩ = some (.int .i64 m) := X1.out ⟨w2, hg12⟩
  go_wp2_with fail
  refine (H5.out _ (hL0.grown hg12)).mono ?_
  rintro e w3 ⟨rfl, hg3⟩
  have hg13 := gtrans hg12 hg3
  clear c0 c1
  go_wp2_with fail
  refine (awake_any _ (hL0.grown hg13)).mono ?_
  rintro e w4 ⟨rfl, hg4⟩
  go_wp2_with fail
  go_ret
  exact ⟨by simp, gtrans (gtrans ((Grown.refl w).alloc _ _) hg13) hg4⟩

/-- Where there is none. -/
theorem core_four (y m d v q o0 o1 o2 h : Int) (w : World) (hL : Laid w) (q0 : 0 ≤ q) (q1 : q ≤ 4000000)
    (H1 : Hid (∀ W, Laid W → Calls Tryd.prog 22 #[.int .i64 y, .int .i64 m, .int .i64 v, .int .i64 (-1)] W fun e w' => e = .returned (.tuple #[.int .i64 q, .int .i64 0]) ∧ Grown W w'))
    (H4 : Hid (∀ W, Laid W → Calls Tryd.prog 22 #[.int .i64 y, .int .i64 m, .int .i64 v, .int .i64 4] W fun e w' => e = .returned (.tuple #[.int .i64 q, .int .i64 0]) ∧ Grown W w'))
    (H5 : Hid (∀ W, Laid W → Calls Tryd.prog 22 #[.int .i64 y, .int .i64 m, .int .i64 v, .int .i64 5] W fun e w' => e = .returned (.tuple #[.int .i64 0, .int .i64 22]) ∧ Grown W w'))
    (HO : Hid (∀ W, Laid W → Calls Tryd.prog 20 #[.int .i64 (q + 7)] W fun e w' => e = .returned (.tuple #[.agg #[.int .i64 o0, .int .i64 o1, .int .i64 o2], .int .i64 h]) ∧ Grown W w'))
    (HW : Hid (∀ W, Calls Tryd.prog 15 #[.int .i64 q] W fun e w' => e = .returned (.int .i64 v) ∧ ∃ n, w' = W.drewN n))
    (ho : (h != 0) = true ∨ ((h != 0) = false ∧ (o1 != m) = true)) :
    Calls Tryd.prog 9 #[.agg #[.int .i64 y, .int .i64 m, .int .i64 d], .int .i64 v] w fun e w' => e = .returned (.bool true) ∧ Grown w w' := by
  have hL0 : Laid (w.alloc (.cells #[.int .i64 y, .int .i64 m, .int .i64 d] 23)) := hL.grown ((Grown.refl w).alloc _ _)
  have X0 := Lib.hid (gw_new w #[.int .i64 y, .int .i64 m, .int .i64 d] 23 0 (.int .i64 y) rfl)
  have X1 := Lib.hid (gw_new w #[.int .i64 y, .int .i64 m, .int .i64 d] 23 1 (.int .i64 m) rfl)
  have t1 : (q == q) = true := by simp
  have t2 : (v == v) = true := by simp
  rcases ho with ho | ⟨ho, ho'⟩
  all_goals
    go_enter Tryd.func9, Tryd.ntmps9
    go_wp2_with fail
    refine (H1.out _ hL0).mono ?_
    rintro e w1 ⟨rfl, hg1⟩
    have c0 : w1.cell? ⟨w.heap.size, 0, none⟩ = some (.int .i64 y) := X0.out ⟨w1, hg1⟩
    have c1 : w1.cell? ⟨w.heap.size, 1, none⟩ = some (.int .i64 m) := X1.out ⟨w1, hg1⟩
    go_wp2_with fail
    refine (H4.out _ (hL0.grown hg1)).mono ?_
    rintro e w2 ⟨rfl, hg2⟩
    have hg12 := gtrans hg1 hg2
    clear c0 c1
    have c0 : w2.cell? ⟨w.heap.size, 0, none⟩ = some (.int .i64 y) := X0.out ⟨w2, hg12⟩
    have c1 : w2.cell? ⟨w.heap.size, 1, none⟩ = some (.int .i64 m) := X1.out ⟨w2, hg12⟩
    go_wp2_with fail
    refine (H5.out _ (hL0.grown hg12)).mono ?_
    rintro e w3 ⟨rfl, hg3⟩
    have hg13 := gtrans hg12 hg3
    clear c0 c1
    go_wp2_with fail
    refine (HO.out _ (hL0.grown hg13)).mono ?_
    rintro e w4 ⟨rfl, hg4⟩
    have hg14 := gtrans hg13 hg4
    go_wp2_with fail
    have hg15 := hg14.alloc #[.int .i64 o0, .int .i64 o1, .int .i64 o2] 23
    refine (awake_any _ (hL0.grown hg15)).mono ?_
    rintro e w5 ⟨rfl, hg5⟩
    have hg16 := gtrans hg15 hg5
    have c1 : w5.cell? ⟨w.heap.size, 1, none⟩ = some (.int .i64 m) := X1.out ⟨w5, hg16⟩
    have b1 : w5.cell? ⟨w4.heap.size, 1, none⟩ = some (.int .i64 o1) := gsome hg5 (by simp)
    go_wp2_with fail
    refine (HW.out _).mono ?_
    rintro e w6 ⟨rfl, j6, rfl⟩
    go_wp2_with fail
    go_ret
    exact ⟨by simp, gtrans ((Grown.refl w).alloc _ _) hg16⟩

/-- A week behind the last one of a weekday it is another month. -/
theorem week_on (y m n : Int) (h1 : 1 ≤ y) (h2 : y ≤ 9999) (h3 : 1 ≤ m) (h4 : m ≤ 12) (n0 : fst y m + dm y m ≤ n) (n1 : n ≤ fst y m + dm y m + 6) (n2 : n ≤ 3652059) : ¬ om n = m := by
  have hs := Cal.ma_succ y m h1 h2 h3 h4
  unfold fst at n0 n1
  by_cases hm : m < 12
  · have hb := Cal.dm_bd y (m + 1) h1 h2 (by omega) (by omega)
    obtain ⟨_, k2, _⟩ := Cal.of_back y (m + 1) (n - ya y - ma y (m + 1)) h1 h2 (by omega) (by omega) (by omega) (by omega)
    have e : dn y (m + 1) (n - ya y - ma y (m + 1)) = n := by unfold Cal.dn; omega
    rw [e] at k2
    omega
  · obtain rfl : m = 12 := by omega
    have hend := Cal.ma_end y
    have e13 : ma y (12 + 1) = ma y 13 := rfl
    have hy := Cal.ya_succ y
    have hlt : y < 9999 := by
      by_cases c : y = 9999
      · subst c
        have h9 := Cal.ya_end
        have e9 : ya (9999 + 1) = ya 10000 := rfl
        omega
      · omega
    have hb := Cal.dm_bd (y + 1) 1 (by omega) (by omega) (by omega) (by omega)
    have h1m := Cal.ma_one (y + 1)
    obtain ⟨_, k2, _⟩ := Cal.of_back (y + 1) 1 (n - ya (y + 1)) (by omega) (by omega) (by omega) (by omega) (by omega) (by omega)
    have e : dn (y + 1) 1 (n - ya (y + 1)) = n := by unfold Cal.dn; omega
    rw [e] at k2
    omega

theorem walk (y m d v : Int) (wy : (Lit.int .i64 y).wf = true) (wm : (Lit.int .i64 m).wf = true) (wd : (Lit.int .i64 d).wf = true) (wv : (Lit.int .i64 v).wf = true) (w : World) (hL : Laid w) :
    Calls Tryd.prog 9 #[.agg #[.int .i64 y, .int .i64 m, .int .i64 d], .int .i64 v] w fun e w' => e = .returned (.bool true) ∧ Grown w w' := by
  have H1 := fun W hW => nth_all y m v (-1) W hW
  have H4 := fun W hW => nth_all y m v 4 W hW
  have H5 := fun W hW => nth_all y m v 5 W hW
  by_cases h : dm y m = 0
  · have eV : ∀ k, nthV y m v k = 0 := fun k => by unfold nthV; rw [if_pos (Or.inl h)]
    have eE : ∀ k, nthE y m v k = 20 := fun k => by unfold nthE; rw [if_pos h]
    rw [eV, eE] at H1 H4 H5
    exact core_no y m d v 20 w hL rfl (Lib.hid H1) (Lib.hid H4) (Lib.hid H5)
  by_cases hv : v < 0 ∨ 6 < v
  · have eV : ∀ k, nthV y m v k = 0 := fun k => by unfold nthV; rw [if_pos (by omega)]
    have eE : ∀ k, nthE y m v k = 22 := fun k => by unfold nthE; rw [if_neg h, if_pos (by omega)]
    rw [eV, eE] at H1 H4 H5
    exact core_no y m d v 22 w hL rfl (Lib.hid H1) (Lib.hid H4) (Lib.hid H5)
  obtain ⟨h1, h2, h3, h4⟩ := Cal.dm_some y m h
  have hd := Cal.dm_bd y m h1 h2 h3 h4
  have hf := Cal.dn_bd y m 1 h1 h2 h3 h4 (by omega) (by omega)
  have hfe : dn y m 1 = fst y m := rfl
  rw [hfe] at hf
  have hb1 := fo_bd (fst y m) v (by omega) (by omega)
  have hb2 := fo_bd (fst y m + dm y m - 7) v (by omega) (by omega)
  have v1 : nthV y m v (-1) = fo (fst y m + dm y m - 7) v := by unfold nthV; rw [if_neg (by omega), if_pos rfl]
  have e1 : nthE y m v (-1) = 0 := by unfold nthE; rw [if_neg h, if_neg (by omega), if_pos rfl]
  have v4 : nthV y m v 4 = fo (fst y m) v + 21 := by unfold nthV; rw [if_neg (by omega), if_neg (by omega), if_pos (by omega)]; omega
  have e4 : nthE y m v 4 = 0 := by unfold nthE; rw [if_neg h, if_neg (by omega), if_neg (by omega), if_pos (by omega)]
  rw [v1, e1] at H1
  rw [v4, e4] at H4
  by_cases hs : fo (fst y m) v + 28 ≤ fst y m + dm y m - 1
  · have v5 : nthV y m v 5 = fo (fst y m + dm y m - 7) v := by unfold nthV; rw [if_neg (by omega), if_neg (by omega), if_pos (by omega)]; omega
    have e5 : nthE y m v 5 = 0 := by unfold nthE; rw [if_neg h, if_neg (by omega), if_neg (by omega), if_pos (by omega)]
    rw [v5, e5] at H5
    exact core_five y m d v _ _ w hL (by omega) (by omega) (by simp; omega) (Lib.hid H1) (Lib.hid H4) (Lib.hid H5)
  · have v5 : nthV y m v 5 = 0 := by unfold nthV; rw [if_neg (by omega), if_neg (by omega), if_neg (by omega)]
    have e5 : nthE y m v 5 = 22 := by unfold nthE; rw [if_neg h, if_neg (by omega), if_neg (by omega), if_neg (by omega)]
    rw [v5, e5] at H5
    have ev : fo (fst y m) v + 21 = fo (fst y m + dm y m - 7) v := by omega
    rw [ev] at H4
    have HW := fun W => weekday_any (fo (fst y m + dm y m - 7) v) W (by omega) (by omega)
    rw [hb2.2.2] at HW
    by_cases hn : 3652059 < fo (fst y m + dm y m - 7) v + 7
    · exact core_four y m d v _ 0 0 0 21 w hL (by omega) (by omega) (Lib.hid H1) (Lib.hid H4) (Lib.hid H5) (Lib.hid fun W _ => of_no _ W (Or.inr hn)) (Lib.hid HW) (Or.inl rfl)
    · exact core_four y m d v _ _ _ _ 0 w hL (by omega) (by omega) (Lib.hid H1) (Lib.hid H4) (Lib.hid H5) (Lib.hid fun W hW => of_yes _ W hW (by omega) (by omega)) (Lib.hid HW)
        (Or.inr ⟨rfl, bne_iff_ne.2 (week_on y m _ h1 h2 h3 h4 (by omega) (by omega) (by omega))⟩)

set_option maxHeartbeats 1000000 in
set_option maxRecDepth 100000 in
theorem lifted (os : Os) (started : os.Started) (H : Type) (enc : TypeId × Value → H) :
    ReturnsInHanded {} Tryd.checked os 9 .any (fun w args => (Rows.gregLastSpec.pre enc Tryd.prog Tryd.f9 [] false w args ∧ laidMetH Tryd.prog laidL w) ∧ sizedMet enc Tryd.prog Tryd.f9 (OpenSpec.ofChange Rows.gregLastSpec) false w args)
      (Rows.gregLastSpec.post enc Tryd.prog Tryd.f9 false true false false) := by
  refine returnsInHanded_of_change_and (C := Tryd.checked) (X := fun w _ => laidMetH Tryd.prog laidL w) (fun _ _ _ hh h => h.of_heap hh) own started (by kernel_rfl) Tryd.func9
    (ChangeSpec.witness_shaped (enc := enc) (C := Tryd.checked) (os := os) (X := fun w _ => laidMetH Tryd.prog laidL w) false (World.doorLaid Tryd.prog 400 os) #[.agg #[.int .i64 0, .int .i64 0, .int .i64 0], .int .i64 0] 8 rfl (World.shaped_of_RefB (by kernel_rfl) (by kernel_rfl)) (by kernel_rfl) (by kernel_rfl) (by kernel_rfl) (door_met os _)) ?_
  intro W base args ds gs before hval0 hW _ _ hL _
  have hval : ∀ (j : Nat) t v, Tryd.f9.params[j]? = some t → args[j]? = some v → Value.okWide Tryd.prog W .any base t v := hval0
  have hW' := hW
  obtain ⟨p, q, hA0, hV, rfl, hfz, hnd⟩ := hW
  have hA : DataW.TrodAll enc Tryd.prog W 0 (fun _ => true) true Tryd.f9.params.toList args.toList ds p := hA0
  rw [Tryd.params9] at hA hval
  obtain ⟨v0, vs0, d0, ds0, p0, q0, hargs, rfl, rfl, h0, r0⟩ := trodAll_cons hA
  obtain ⟨v1, vs1, d1, ds1, p1, q1, rfl, rfl, rfl, h1, r1⟩ := trodAll_cons r0
  obtain ⟨rfl, rfl, rfl⟩ := trodAll_nil r1
  obtain rfl : args = #[v0, v1] := by cases args; simp_all
  obtain ⟨rfl, rfl⟩ := trodVars_none hV
  obtain ⟨c00, c01, c02, y00, y01, y02, n0, rfl, rfl, rfl, hy00, hy01, hy02⟩ := open_agg3 Tryd.underlying23 (by kernel_rfl) cells23 (hval 0 23 v0 rfl rfl) h0
  obtain ⟨b00, e00, rfl, w00⟩ := DataW.trod_int Tryd.underlying3 hy00
  obtain ⟨b01, e01, rfl, w01⟩ := DataW.trod_int Tryd.underlying3 hy01
  obtain ⟨b02, e02, rfl, w02⟩ := DataW.trod_int Tryd.underlying3 hy02
  simp only [List.cons.injEq, and_true] at e00 e01 e02
  subst e00 e01 e02
  obtain ⟨a1, rfl, rfl, rfl, w1⟩ := open_int Tryd.underlying3 (hval 1 3 v1 rfl rfl) h1
  clear hA0 hval0
  simp only [List.append_nil] at hW'
  refine (walk b00 b01 b02 a1 w00 w01 w02 w1 W (of_laid hL)).mono fun e W' ⟨he, hg⟩ => ?_
  subst he
  exact ⟨_, rfl, post_of_same (pa := []) (pv := []) hW' (fun _ _ _ => (trodAll_cons_mk (shut_bool Tryd.underlying4 _) trodAll_mk0)) (fun sp _ => (trodAll_cons_mk (shut_agg3 (y0 := (.lit (.int .i64 b00), [])) (y1 := (.lit (.int .i64 b01), [])) (y2 := (.lit (.int .i64 b02), [])) Tryd.underlying23 (by kernel_rfl) cells23 ⟨1, by simp [DataW.trod, Tryd.underlying3, w00]⟩ ⟨1, by simp [DataW.trod, Tryd.underlying3, w01]⟩ ⟨1, by simp [DataW.trod, Tryd.underlying3, w02]⟩) (trodAll_cons_mk (shut_int Tryd.underlying3 w1) trodAll_mk0))) (fun _ _ => rfl) rfl
    (hg.frame _) hg.2.1 (ok_one (by kernel_rfl) rfl (okWide_bool_mk Tryd.underlying4 _))⟩

theorem over : Rows.gregLastRow.holds Tryd.pinned (OpenSpec.ofChange Rows.gregLastSpec) :=
  OpenClaim.holds_of_wide 9 Tryd.f9 rfl rfl rfl rfl rfl rfl rfl ⟨rfl, rfl, rfl, rfl, rfl⟩ rfl rfl rfl rfl rfl (by kernel_rfl) Tryd.func9 (by kernel_rfl)
    (of_decide_eq_true (by kernel_rfl)) (by unfold Func.isWrapper; first | (rw [if_pos (by decide +kernel)]; kernel_rfl) | (rw [if_neg (by decide +kernel)]; exact ⟨rfl, rfl⟩))
    (fun os started H enc _ => lifted os started H enc)

/-- The statement. -/
theorem proved : Rows.GregLastCardSaid :=
  Claim7.holds_tied_plain_at .later [] [.data] true (true, "aacca204a4741e31dc60c47b29a7724d966c80bbda26557ec97b9370967abf46") false
    over (fun _ h => by cases h) (by kernel_rfl) (fun _ h => by cases h) gregLast_row_tie rfl ⟨rfl, rfl⟩ (by kernel_rfl) rfl
    (fun f fn hf hfn => by
      obtain rfl : f = 9 := Option.some.inj ((show Tryd.prog.funcNamed "newel/newellaw02.GregLast" = some 9 by kernel_rfl).symm.trans hf) |>.symm
      obtain rfl : fn = Tryd.f9 := (Option.some.inj (Tryd.func9.symm.trans hfn)).symm
      exact ⟨by kernel_rfl, fun j t ht => by
        rw [Tryd.params9] at ht
        have hm : t ∈ [23, 3] := by simpa using Array.mem_of_getElem? ht
        have hall : ([23, 3].all fun u => !Tryd.prog.wantsStandIn u) = true := by kernel_rfl
        exact (show Tryd.prog.wantsStandIn t = false by simpa using List.all_eq_true.1 hall t hm)⟩)
    (by kernel_rfl)
#print axioms proved
end Go.Proofs.YthbgkojmkllagaaDoor.gregLast
