/-
  The statement HebrewNext: for any int, where it and the next have dates, the next date is the next day, of the same month, of the next that has days, or of the next year. Conditions: none.
-/
import Derived.Test.YtnaacmmliodenaaRows
import Derived.WalkKit
import Derived.ProofKit
import Derived.OpenShut
import Derived.Test.YtnaacmmliodenaaRo
import Derived.ShutString
namespace Go.Proofs.Ytnaacmmliodenaa.hebrewNext
open Go.ChangeShapes Go.WideShapes Go.ChangeAt Go.RowKit
open Go.ChangeMaps (open_string shut_string)
open Go.Proofs.Ytnaacmmliodenaa.Divs Go.Proofs.Ytnaacmmliodenaa.Grow Go.Proofs.Ytnaacmmliodenaa.Mol Go.Proofs.Ytnaacmmliodenaa.Hebrew
open Go.Proofs.Ytnaacmmliodenaa.Year (lh mh pt md mp p1 p2 po dl ny yl)
open Go.Proofs.Ytnaacmmliodenaa.Heb (hd ha ups)
set_option linter.unusedVariables false

theorem own : ownKnob Try.prog.godebug = none := by kernel_rfl

theorem of_at (n h m d : Int) (w : World) (h1 : 3762 ≤ h) (h2 : h ≤ 9999) (a1 : ny h ≤ n) (a2 : n < ny (h + 1)) (m1 : 1 ≤ m) (m2 : m ≤ 13) (g1 : ha (yl h) (lh h) m ≤ n - ny h) (g2 : n - ny h < ha (yl h) (lh h) (m + 1))
    (hd : d = n - ny h - ha (yl h) (lh h) m + 1) :
    Calls Try.prog 15 #[.int .i64 n] w fun e w' => e = .returned (.tuple #[.agg #[.int .i64 h, .int .i64 m, .int .i64 d], .int .i64 0]) ∧ Later w w' := by
  subst hd
  exact of_yes n h m w h1 h2 a1 a2 m1 m2 g1 g2

/-- The next day is of the same month. -/
theorem same_month (a0 h m d : Int) (w : World) (t1 : ¬ a0 < ny 3762) (t2 : ¬ ny 10000 - 1 ≤ a0) (n0 : -10000000 ≤ a0) (n1 : a0 ≤ 10000000) (d1 : 1 ≤ d) (d2 : d ≤ 30)
    (K1 : Hid (∀ W, Calls Try.prog 15 #[.int .i64 a0] W fun e w' => e = .returned (.tuple #[.agg #[.int .i64 h, .int .i64 m, .int .i64 d], .int .i64 0]) ∧ Later W w'))
    (K2 : Hid (∀ W, Calls Try.prog 15 #[.int .i64 (a0 + 1)] W fun e w' => e = .returned (.tuple #[.agg #[.int .i64 h, .int .i64 m, .int .i64 (d + 1)], .int .i64 0]) ∧ Later W w')) :
    Calls Try.prog 6 #[.int .i64 a0] w fun e w' => e = .returned (.bool true) ∧ Later w w' := by
  have AW := Lib.hid awake_any
  have F := Lib.hid rfirst_any
  have L := Lib.hid rlast_any
  go_enter Try.func6, Try.ntmps6
  go_wp2_with fail
  refine (F.out _).mono ?_
  rintro e w1 ⟨rfl, hg1⟩
  go_wp2_with fail
  refine (L.out _).mono ?_
  rintro e w2 ⟨rfl, hg2⟩
  go_wp2_with fail
  refine (K1.out _).mono ?_
  rintro e w3 ⟨rfl, hg3⟩
  go_wp2_with fail
  refine (K2.out _).mono ?_
  rintro e w4 ⟨rfl, hg4⟩
  go_wp2_with fail
  refine (AW.out _).mono ?_
  rintro e w5 ⟨rfl, hg5⟩
  have hA := gtrans hg4 (gtrans ((Later.refl w4).alloc _ _) hg5)
  have a0' := cell4 hA 0 rfl
  have a1' := cell4 hA 1 rfl
  have a2' := cell4 hA 2 rfl
  have b0' := cell4 hg5 0 rfl
  have b1' := cell4 hg5 1 rfl
  have b2' := cell4 hg5 2 rfl
  go_wp2_with fail
  go_ret
  exact ⟨rfl, gtrans hg1 (gtrans hg2 (gtrans (hg3.alloc _ _) (gtrans (hg4.alloc _ _) hg5)))⟩

set_option maxHeartbeats 1000000 in
/-- The next day is the next month's first. -/
theorem next_month (a0 h m m' : Int) (w : World) (t1 : ¬ a0 < ny 3762) (t2 : ¬ ny 10000 - 1 ≤ a0) (n0 : -10000000 ≤ a0) (n1 : a0 ≤ 10000000) (m1 : 1 ≤ m) (m2 : m ≤ 13)
    (h1 : 3762 ≤ h) (h2 : h ≤ 9999) (hm : m' = m + 1 ∨ (m' = 7 ∧ m = 5 ∧ lh h = false))
    (K1 : Hid (∀ W, Calls Try.prog 15 #[.int .i64 a0] W fun e w' => e = .returned (.tuple #[.agg #[.int .i64 h, .int .i64 m, .int .i64 (rd h m)], .int .i64 0]) ∧ Later W w'))
    (K2 : Hid (∀ W, Calls Try.prog 15 #[.int .i64 (a0 + 1)] W fun e w' => e = .returned (.tuple #[.agg #[.int .i64 h, .int .i64 m', .int .i64 1], .int .i64 0]) ∧ Later W w')) :
    Calls Try.prog 6 #[.int .i64 a0] w fun e w' => e = .returned (.bool true) ∧ Later w w' := by
  have AW := Lib.hid awake_any
  have F := Lib.hid rfirst_any
  have L := Lib.hid rlast_any
  have D := Lib.hid (fun W => days_any h m W)
  have B := Lib.hid (fun W => drew_g (leap_any h W (by omega) (by omega)))
  have bd := rd_bd h m
  have q1 : (m' == 1) = false := by simp; omega
  by_cases hx : m' = m + 1
  · have q2 : (m' == m + 1) = true := beq_iff_eq.2 hx
    clear hx hm
    go_enter Try.func6, Try.ntmps6
    go_wp2_with fail
    refine (F.out _).mono ?_
    rintro e w1 ⟨rfl, hg1⟩
    go_wp2_with fail
    refine (L.out _).mono ?_
    rintro e w2 ⟨rfl, hg2⟩
    go_wp2_with fail
    refine (K1.out _).mono ?_
    rintro e w3 ⟨rfl, hg3⟩
    go_wp2_with fail
    refine (K2.out _).mono ?_
    rintro e w4 ⟨rfl, hg4⟩
    go_wp2_with fail
    have hA := gtrans hg4 ((Later.refl w4).put (.cells #[.int .i64 h, .int .i64 m', .int .i64 1] 26))
    have A0 := Lib.hid (gw_cell (cell4 hA 0 rfl))
    have A1 := Lib.hid (gw_cell (cell4 hA 1 rfl))
    have A2 := Lib.hid (gw_cell (cell4 hA 2 rfl))
    have x0 := A0.out
    have x1 := A1.out
    have x2 := A2.out
    refine region_grown (by kernel_rfl) (by kernel_rfl) ?_
    repeat (go_big_quiet_step ((go_at_call 10; exact in_grown (D.out _))))
    refine wpQuiet_nil (grown_end ?_)
    intro w5 hg5
    clear x0 x1 x2
    have b1' := cell4 hg5 1 rfl
    go_wp2_with fail
    refine (AW.out _).mono ?_
    rintro e w6 ⟨rfl, hg6⟩
    have x0 := A0.out ⟨_, gtrans hg5 hg6⟩
    have x1 := A1.out ⟨_, gtrans hg5 hg6⟩
    have y0 := cell4 (gtrans hg5 hg6) 0 rfl
    have y1 := cell4 (gtrans hg5 hg6) 1 rfl
    clear b1'
    go_wp2_with fail
    go_ret
    exact ⟨rfl, gtrans hg1 (gtrans hg2 (gtrans (hg3.alloc _ _) (gtrans (hg4.alloc _ _) (gtrans hg5 hg6))))⟩
  · obtain ⟨rfl, rfl, hl⟩ := hm.resolve_left hx
    rw [hl] at B
    clear hx hl q1
    go_enter Try.func6, Try.ntmps6
    go_wp2_with fail
    refine (F.out _).mono ?_
    rintro e w1 ⟨rfl, hg1⟩
    go_wp2_with fail
    refine (L.out _).mono ?_
    rintro e w2 ⟨rfl, hg2⟩
    go_wp2_with fail
    refine (K1.out _).mono ?_
    rintro e w3 ⟨rfl, hg3⟩
    go_wp2_with fail
    refine (K2.out _).mono ?_
    rintro e w4 ⟨rfl, hg4⟩
    go_wp2_with fail
    have hA := gtrans hg4 ((Later.refl w4).put (.cells #[.int .i64 h, .int .i64 7, .int .i64 1] 26))
    have A0 := Lib.hid (gw_cell (cell4 hA 0 rfl))
    have A1 := Lib.hid (gw_cell (cell4 hA 1 rfl))
    have A2 := Lib.hid (gw_cell (cell4 hA 2 rfl))
    have x0 := A0.out
    have x1 := A1.out
    have x2 := A2.out
    refine region_grown (by kernel_rfl) (by kernel_rfl) ?_
    repeat (go_big_quiet_step ((go_at_call 10; exact in_grown (D.out _))))
    refine wpQuiet_nil (grown_end ?_)
    intro w5 hg5
    clear x0 x1 x2
    have b1' := cell4 hg5 1 rfl
    go_wp2_with fail
    refine (AW.out _).mono ?_
    rintro e w6 ⟨rfl, hg6⟩
    have x0 := A0.out ⟨_, gtrans hg5 hg6⟩
    have x1 := A1.out ⟨_, gtrans hg5 hg6⟩
    have y0 := cell4 (gtrans hg5 hg6) 0 rfl
    have y1 := cell4 (gtrans hg5 hg6) 1 rfl
    clear b1'
    go_wp2_with fail
    refine (B.out _).mono ?_
    rintro e w7 ⟨rfl, hg7⟩
    go_wp2_with fail
    go_ret
    exact ⟨rfl, gtrans hg1 (gtrans hg2 (gtrans (hg3.alloc _ _) (gtrans (hg4.alloc _ _) (gtrans hg5 (gtrans hg6 hg7)))))⟩

set_option maxHeartbeats 1000000 in
/-- The next day is the next year's first. -/
theorem next_year (a0 h : Int) (w : World) (t1 : ¬ a0 < ny 3762) (t2 : ¬ ny 10000 - 1 ≤ a0) (n0 : -10000000 ≤ a0) (n1 : a0 ≤ 10000000) (h1 : 3762 ≤ h) (h2 : h ≤ 9999)
    (K1 : Hid (∀ W, Calls Try.prog 15 #[.int .i64 a0] W fun e w' => e = .returned (.tuple #[.agg #[.int .i64 h, .int .i64 13, .int .i64 (rd h 13)], .int .i64 0]) ∧ Later W w'))
    (K2 : Hid (∀ W, Calls Try.prog 15 #[.int .i64 (a0 + 1)] W fun e w' => e = .returned (.tuple #[.agg #[.int .i64 (h + 1), .int .i64 1, .int .i64 1], .int .i64 0]) ∧ Later W w')) :
    Calls Try.prog 6 #[.int .i64 a0] w fun e w' => e = .returned (.bool true) ∧ Later w w' := by
  have AW := Lib.hid awake_any
  have F := Lib.hid rfirst_any
  have L := Lib.hid rlast_any
  have D := Lib.hid (fun W => days_any h 13 W)
  have bd := rd_bd h 13
  go_enter Try.func6, Try.ntmps6
  go_wp2_with fail
  refine (F.out _).mono ?_
  rintro e w1 ⟨rfl, hg1⟩
  go_wp2_with fail
  refine (L.out _).mono ?_
  rintro e w2 ⟨rfl, hg2⟩
  go_wp2_with fail
  refine (K1.out _).mono ?_
  rintro e w3 ⟨rfl, hg3⟩
  go_wp2_with fail
  refine (K2.out _).mono ?_
  rintro e w4 ⟨rfl, hg4⟩
  go_wp2_with fail
  have hA := gtrans hg4 ((Later.refl w4).put (.cells #[.int .i64 (h + 1), .int .i64 1, .int .i64 1] 26))
  have A0 := Lib.hid (gw_cell (cell4 hA 0 rfl))
  have A1 := Lib.hid (gw_cell (cell4 hA 1 rfl))
  have A2 := Lib.hid (gw_cell (cell4 hA 2 rfl))
  have x0 := A0.out
  have x1 := A1.out
  have x2 := A2.out
  refine region_grown (by kernel_rfl) (by kernel_rfl) ?_
  repeat (go_big_quiet_step ((go_at_call 10; exact in_grown (D.out _))))
  refine wpQuiet_nil (grown_end ?_)
  intro w5 hg5
  clear x0 x1 x2
  have b1' := cell4 hg5 1 rfl
  go_wp2_with fail
  refine (AW.out _).mono ?_
  rintro e w6 ⟨rfl, hg6⟩
  have x0 := A0.out ⟨_, gtrans hg5 hg6⟩
  have x1 := A1.out ⟨_, gtrans hg5 hg6⟩
  have y0 := cell4 (gtrans hg5 hg6) 0 rfl
  clear b1'
  go_wp2_with fail
  go_ret
  exact ⟨rfl, gtrans hg1 (gtrans hg2 (gtrans (hg3.alloc _ _) (gtrans (hg4.alloc _ _) (gtrans hg5 hg6))))⟩

theorem walk (a0 : Int) (w0 : (Lit.int .i64 a0).wf = true) (w : World) :
    Calls Try.prog 6 #[.int .i64 a0] w fun e w' => e = .returned (.bool true) ∧ Later w w' := by
  by_cases he : a0 < ny 3762
  · have AW := Lib.hid awake_any
    have F := Lib.hid rfirst_any
    clear w0
    go_enter Try.func6, Try.ntmps6
    go_wp2_with fail
    refine (F.out _).mono ?_
    rintro e w1 ⟨rfl, hg1⟩
    go_wp2_with fail
    refine (AW.out _).mono ?_
    rintro e w2 ⟨rfl, hg2⟩
    go_wp2_with fail
    go_ret
    exact ⟨rfl, gtrans hg1 hg2⟩
  by_cases hl : ny 10000 - 1 ≤ a0
  · have AW := Lib.hid awake_any
    have F := Lib.hid rfirst_any
    have L := Lib.hid rlast_any
    clear w0
    go_enter Try.func6, Try.ntmps6
    go_wp2_with fail
    refine (F.out _).mono ?_
    rintro e w1 ⟨rfl, hg1⟩
    go_wp2_with fail
    refine (L.out _).mono ?_
    rintro e w2 ⟨rfl, hg2⟩
    go_wp2_with fail
    refine (AW.out _).mono ?_
    rintro e w3 ⟨rfl, hg3⟩
    go_wp2_with fail
    go_ret
    exact ⟨rfl, gtrans hg1 (gtrans hg2 hg3)⟩
  obtain ⟨h, h1, h2, x1, x2⟩ := Heb.year_of a0 (by omega) (by omega)
  have hn := Heb.ny_next h
  obtain ⟨m, m1, m2, y1, y2⟩ := Heb.month_of (yl h) (lh h) (a0 - ny h) (by omega) (by rw [Heb.ha_all]; omega)
  have b1 := Year.ny_bd h (by omega) (by omega)
  have b2 := Year.ny_bd (h + 1) (by omega) (by omega)
  have st := Heb.ha_step (yl h) (lh h) m m1 m2
  have bm := Heb.hd_bd (yl h) (lh h) m
  by_cases c1 : a0 + 1 - ny h < ha (yl h) (lh h) (m + 1)
  · have mo := Heb.ha_mono (yl h) (lh h) (m + 1) 14 (by omega) (by omega) (by omega)
    rw [Heb.ha_all] at mo
    exact same_month a0 h m (a0 - ny h - ha (yl h) (lh h) m + 1) w he hl (by omega) (by omega) (by omega) (by omega)
      (fun W => of_at a0 h m _ W h1 h2 x1 x2 m1 m2 y1 y2 rfl)
      (fun W => of_at (a0 + 1) h m _ W h1 h2 (by omega) (by omega) m1 m2 (by omega) c1 (by omega))
  · have hr := rd_yes h m h1 h2
    have e1 : rd h m = a0 - ny h - ha (yl h) (lh h) m + 1 := by omega
    by_cases c2 : m = 13
    · subst c2
      have al := Heb.ha_all h
      rw [show (13 : Int) + 1 = 14 from rfl] at c1 y2 st
      have hh : h + 1 ≤ 9999 := by
        by_cases k : h + 1 ≤ 9999
        · exact k
        · have : h + 1 = 10000 := by omega
          rw [this] at hn x2 b2
          omega
      have o1 := Heb.ha_one (yl (h + 1)) (lh (h + 1))
      have o2 := Heb.ha_step (yl (h + 1)) (lh (h + 1)) 1 (by omega) (by omega)
      have o3 := Heb.hd_in (yl (h + 1)) (lh (h + 1)) 1 (by omega) (by omega) (by omega)
      have o4 := Heb.ny_next (h + 1)
      have o5 := Heb.yl_bd (h + 1)
      exact next_year a0 h w he hl (by omega) (by omega) h1 h2
        (fun W => of_at a0 h 13 _ W h1 h2 x1 x2 m1 m2 y1 (by simpa using y2) e1)
        (fun W => of_at (a0 + 1) (h + 1) 1 1 W (by omega) hh (by omega) (by omega) (by omega) (by omega) (by omega) (by omega) (by omega))
    · have st2 := Heb.ha_step (yl h) (lh h) (m + 1) (by omega) (by omega)
      by_cases c3 : hd (yl h) (lh h) (m + 1) = 0
      · obtain ⟨c4, c5⟩ := Heb.hd_zero (yl h) (lh h) (m + 1) (by omega) (by omega) c3
        obtain rfl : m = 5 := by omega
        have st3 := Heb.ha_step (yl h) (lh h) 7 (by omega) (by omega)
        have o3 := Heb.hd_in (yl h) (lh h) 7 (by omega) (by omega) (by omega)
        have mo := Heb.ha_mono (yl h) (lh h) (7 + 1) 14 (by omega) (by omega) (by omega)
        rw [Heb.ha_all] at mo
        rw [show (5 : Int) + 1 + 1 = 7 from rfl] at st2
        exact next_month a0 h 5 7 w he hl (by omega) (by omega) m1 m2 h1 h2 (.inr ⟨rfl, rfl, c5⟩)
          (fun W => of_at a0 h 5 _ W h1 h2 x1 x2 m1 m2 y1 y2 e1)
          (fun W => of_at (a0 + 1) h 7 1 W h1 h2 (by omega) (by omega) (by omega) (by omega) (by omega) (by omega) (by omega))
      · have o3 := Heb.hd_bd (yl h) (lh h) (m + 1)
        have mo := Heb.ha_mono (yl h) (lh h) (m + 1 + 1) 14 (by omega) (by omega) (by omega)
        rw [Heb.ha_all] at mo
        exact next_month a0 h m (m + 1) w he hl (by omega) (by omega) m1 m2 h1 h2 (.inl rfl)
          (fun W => of_at a0 h m _ W h1 h2 x1 x2 m1 m2 y1 y2 e1)
          (fun W => of_at (a0 + 1) h (m + 1) 1 W h1 h2 (by omega) (by omega) (by omega) (by omega) (by omega) (by omega) (by omega))

set_option maxRecDepth 100000 in
theorem lifted (os : Os) (started : os.Started) (H : Type) (enc : TypeId × Value → H) :
    ReturnsInHanded {} Try.checked os 6 .any (Rows.hebrewNextSpec.pre6 enc Try.prog Try.f6 Rows.hebrewNextRow.domain false) (Rows.hebrewNextSpec.post enc Try.prog Try.f6 false true false false) := by
  refine returnsInHanded_of_change (C := Try.checked) own started (by kernel_rfl) Try.func6
    (ChangeSpec.witness6 (enc := enc) (C := Try.checked) false ⟨#[], #[.int .i64 0], []⟩ 8 (by kernel_rfl) (by kernel_rfl) (by kernel_rfl) (by kernel_rfl)) ?_
  intro W base args ds gs before hval0 hW hcnd _
  have hval : ∀ (j : Nat) t v, Try.f6.params[j]? = some t → args[j]? = some v → Value.okWide Try.prog W .any base t v := hval0
  have hW' := hW
  obtain ⟨p, q, hA0, hV, rfl, hfz, hnd⟩ := hW
  have hA : DataW.TrodAll enc Try.prog W 0 (fun _ => true) true Try.f6.params.toList args.toList ds p := hA0
  rw [Try.params6] at hA hval
  obtain ⟨v0, vs0, d0, ds0, p0, q0, hargs, rfl, rfl, h0, r0⟩ := trodAll_cons hA
  obtain ⟨rfl, rfl, rfl⟩ := trodAll_nil r0
  obtain rfl : args = #[v0] := by cases args; simp_all
  obtain ⟨rfl, rfl⟩ := trodVars_none hV
  obtain ⟨a0, rfl, rfl, rfl, w0⟩ := open_int Try.underlying3 (hval 0 3 v0 rfl rfl) h0
  clear hA0 hval0
  simp only [List.append_nil] at hW'
  refine (walk a0 w0 W).mono fun e W' ⟨he, hg⟩ => ?_
  subst he
  exact ⟨_, rfl, post_bare hW' (fun _ _ _ => (trodAll_cons_mk (shut_bool Try.underlying4 _) trodAll_mk0)) (fun sp => (trodAll_cons_mk (shut_int Try.underlying3 w0) trodAll_mk0)) (fun _ => rfl) hg
    (ok_one (by kernel_rfl) rfl (okWide_bool_mk Try.underlying4 _))⟩

theorem over : Rows.hebrewNextRow.holds Try.pinned (OpenSpec.ofChange Rows.hebrewNextSpec) :=
  OpenClaim.holds_of_wide 6 Try.f6 rfl rfl rfl rfl rfl rfl rfl ⟨rfl, rfl, rfl, rfl, rfl⟩ rfl rfl rfl rfl rfl (by kernel_rfl) Try.func6 (by kernel_rfl)
    (of_decide_eq_true (by kernel_rfl)) (by unfold Func.isWrapper; first | (rw [if_pos (by decide +kernel)]; kernel_rfl) | (rw [if_neg (by decide +kernel)]; exact ⟨rfl, rfl⟩))
    (fun os started H enc _ => lifted os started H enc)

/-- The statement. -/
theorem proved : Rows.HebrewNextSaid :=
  over
#print axioms proved
end Go.Proofs.Ytnaacmmliodenaa.hebrewNext
