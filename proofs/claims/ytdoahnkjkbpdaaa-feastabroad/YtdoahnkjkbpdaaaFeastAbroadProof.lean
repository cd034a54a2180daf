/-
  The statement FeastAbroad: for any int as a day: what is a day of rest is one abroad, too; a feast's day that is one only there is behind one that is one here. Conditions: none.
-/
import Derived.Test.YtdoahnkjkbpdaaaRows
import Derived.WalkKit
import Derived.ProofKit
import Derived.OpenShut
import Derived.Test.YtdoahnkjkbpdaaaFw
import Derived.ShutString
namespace Go.Proofs.Ytdoahnkjkbpdaaa.feastAbroad
open Go.ChangeShapes Go.WideShapes Go.ChangeAt Go.RowKit
open Go.ChangeMaps (open_string shut_string)
open Go.Proofs.Ytdoahnkjkbpdaaa.Divs Go.Proofs.Ytdoahnkjkbpdaaa.Grow Go.Proofs.Ytdoahnkjkbpdaaa.Mol Go.Proofs.Ytdoahnkjkbpdaaa.Hebrew Go.Proofs.Ytdoahnkjkbpdaaa.Feast Go.Proofs.Ytdoahnkjkbpdaaa.Fe
open Go.Proofs.Ytdoahnkjkbpdaaa.Year (lh mh pt md mp p1 p2 po dl ny yl)
open Go.Proofs.Ytdoahnkjkbpdaaa.Heb (hd ha ups)
set_option linter.unusedVariables false

theorem own : ownKnob Try.prog.godebug = none := by kernel_rfl

theorem fp_same (l i : Int) (hl : 353 ≤ l) (h : fp false l i ≠ 0) : fp true l i = fp false l i := by
  unfold fp at h ⊢
  simp at h ⊢
  revert h
  repeat' split
  all_goals omega

theorem fp_only (l i : Int) (hl : 353 ≤ l) (i0 : 0 ≤ i) (h : fp false l i = 0) (k : fp true l i ≠ 0) : 1 ≤ i ∧ fp false l (i - 1) = fp true l i ∧ fp true l i ≠ 1 ∧ fp true l i ≠ 2 := by
  have c : i = 15 ∨ i = 22 ∨ i = l - 162 ∨ i = l - 156 ∨ i = l - 112 := by
    unfold fp at h k
    simp at h k
    revert h k
    repeat' split
    all_goals omega
  have v1 : i = 15 → fp true l i = 3 ∧ fp false l (i - 1) = 3 := by rintro rfl; simp [fp]
  have v2 : i = 22 → fp true l i = 4 ∧ fp false l (i - 1) = 4 := by rintro rfl; simp [fp]
  have v3 : i = l - 162 → fp true l i = 5 ∧ fp false l (i - 1) = 5 := by
    intro e
    unfold fp
    rw [if_neg (by first | omega | (simp; omega)), if_neg (by first | omega | (simp; omega)), if_neg (by first | omega | (simp; omega)), if_neg (by first | omega | (simp; omega)), if_pos (by right; exact ⟨rfl, by omega⟩), if_neg (by first | omega | (simp; omega)), if_neg (by first | omega | (simp; omega)), if_neg (by first | omega | (simp; omega)), if_neg (by first | omega | (simp; omega)), if_pos (by left; omega)]
    exact ⟨rfl, rfl⟩
  have v4 : i = l - 156 → fp true l i = 6 ∧ fp false l (i - 1) = 6 := by
    intro e
    unfold fp
    rw [if_neg (by first | omega | (simp; omega)), if_neg (by first | omega | (simp; omega)), if_neg (by first | omega | (simp; omega)), if_neg (by first | omega | (simp; omega)), if_neg (by first | omega | (simp; omega)), if_pos (by right; exact ⟨rfl, by omega⟩), if_neg (by first | omega | (simp; omega)), if_neg (by first | omega | (simp; omega)), if_neg (by first | omega | (simp; omega)), if_neg (by first | omega | (simp; omega)), if_neg (by first | omega | (simp; omega)), if_pos (by left; omega)]
    exact ⟨rfl, rfl⟩
  have v5 : i = l - 112 → fp true l i = 7 ∧ fp false l (i - 1) = 7 := by
    intro e
    unfold fp
    rw [if_neg (by first | omega | (simp; omega)), if_neg (by first | omega | (simp; omega)), if_neg (by first | omega | (simp; omega)), if_neg (by first | omega | (simp; omega)), if_neg (by first | omega | (simp; omega)), if_neg (by first | omega | (simp; omega)), if_pos (by right; exact ⟨rfl, by omega⟩), if_neg (by first | omega | (simp; omega)), if_neg (by first | omega | (simp; omega)), if_neg (by first | omega | (simp; omega)), if_neg (by first | omega | (simp; omega)), if_neg (by first | omega | (simp; omega)), if_neg (by first | omega | (simp; omega)), if_pos (by left; omega)]
    exact ⟨rfl, rfl⟩
  rcases c with c | c | c | c | c
  · have := v1 c; omega
  · have := v2 c; omega
  · have := v3 c; omega
  · have := v4 c; omega
  · have := v5 c; omega

theorem kd_year (ab : Bool) (n : Int) (h : kd ab n ≠ 0) : ∃ g, 3762 ≤ g ∧ g ≤ 9999 ∧ ny g ≤ n ∧ n < ny (g + 1) ∧ ∀ b, kd b n = fp b (yl g) (n - ny g) := by
  by_cases c : n < ny 3762 ∨ ny 10000 ≤ n
  · exact absurd (kd_out ab n c) h
  · obtain ⟨g, x1, x2, x3, x4⟩ := Heb.year_of n (by omega) (by omega)
    exact ⟨g, x1, x2, x3, x4, fun b => kd_in b n g x1 x2 x3 x4⟩

theorem kd_same (n : Int) (h : kd false n ≠ 0) : kd true n = kd false n := by
  obtain ⟨g, x1, x2, x3, x4, x5⟩ := kd_year false n h
  rw [x5] at h
  rw [x5, x5]
  exact fp_same _ _ (Heb.yl_bd g).1 h

theorem kd_only (n : Int) (h : kd false n = 0) (k : kd true n ≠ 0) : kd false (n - 1) = kd true n ∧ kd true n ≠ 1 ∧ kd true n ≠ 2 ∧ -10000000 ≤ n ∧ n ≤ 10000000 := by
  obtain ⟨g, x1, x2, x3, x4, x5⟩ := kd_year true n k
  have b1 := Year.ny_bd g (by omega) (by omega)
  have b2 := Year.ny_bd (g + 1) (by omega) (by omega)
  rw [x5] at h
  rw [x5] at k
  obtain ⟨y1, y2, y3, y4⟩ := fp_only _ _ (Heb.yl_bd g).1 (by omega) h k
  rw [x5 true, kd_in false (n - 1) g x1 x2 (by omega) (by omega), show n - 1 - ny g = n - ny g - 1 by omega]
  exact ⟨y2, y3, y4, by omega, by omega⟩

theorem rst_abroad (n : Int) (h : rst false n = true) : rst true n = true := by
  rw [rst_iff] at h ⊢
  obtain ⟨h1, h2, h3⟩ := h
  refine ⟨h1, h2, h3.imp id (fun k => ?_)⟩
  rw [kd_same n k]
  exact k

set_option maxHeartbeats 2000000 in
theorem walk (a0 : Int) (w0 : (Lit.int .i64 a0).wf = true) (w : World) :
    Calls Try.prog 7 #[.int .i64 a0] w fun e w' => e = .returned (.bool true) ∧ Later w w' := by
  obtain ⟨h0, h1⟩ := bounds_i64 w0
  have AW := Lib.hid awake_any
  have K1 := Lib.hid (fun W => kind_any a0 false W)
  have K2 := Lib.hid (fun W => kind_any a0 true W)
  have K3 := Lib.hid (fun W => kind_any (a0 - 1) false W)
  have R1 := Lib.hid (fun W => rest_any a0 false W h0 h1)
  have R2 := Lib.hid (fun W => rest_any a0 true W h0 h1)
  have KS := kd_same a0
  have KO := kd_only a0
  have RA := rst_abroad a0
  obtain ⟨x, hx⟩ : ∃ x, kd false a0 = x := ⟨_, rfl⟩
  obtain ⟨y, hy⟩ : ∃ y, kd true a0 = y := ⟨_, rfl⟩
  obtain ⟨z, hz⟩ : ∃ z, kd false (a0 - 1) = z := ⟨_, rfl⟩
  rw [hx] at K1 KS KO
  rw [hy] at K2 KS KO
  rw [hz] at K3 KO
  clear w0 hx hy hz
  cases e1 : rst false a0
  · rw [e1] at R1
    clear RA e1 R2
    by_cases c : x = 0
    · subst c
      by_cases d : y = 0
      · subst d
        clear KS KO
        go_enter Try.func7, Try.ntmps7
        go_wp2_with fail
        refine (K1.out _).mono ?_
        rintro e w1 ⟨rfl, hg1⟩
        go_wp2_with fail
        refine (K2.out _).mono ?_
        rintro e w2 ⟨rfl, hg2⟩
        go_wp2_with fail
        refine (R1.out _).mono ?_
        rintro e w3 ⟨rfl, hg3⟩
        go_wp2_with fail
        refine (AW.out _).mono ?_
        rintro e w4 ⟨rfl, hg4⟩
        go_wp2_with fail
        go_ret
        exact ⟨rfl, gtrans hg1 (gtrans hg2 (gtrans hg3 hg4))⟩
      · obtain ⟨q1, q2, q3, q4, q5⟩ := KO rfl d
        rw [q1] at K3
        have t1 : (y != 0) = true := by simpa using d
        have t2 : (y != 1) = true := by simpa using q2
        have t3 : (y != 2) = true := by simpa using q3
        clear KS KO d q1 q2 q3
        go_enter Try.func7, Try.ntmps7
        go_wp2_with fail
        refine (K1.out _).mono ?_
        rintro e w1 ⟨rfl, hg1⟩
        go_wp2_with fail
        refine (K2.out _).mono ?_
        rintro e w2 ⟨rfl, hg2⟩
        go_wp2_with fail
        refine (R1.out _).mono ?_
        rintro e w3 ⟨rfl, hg3⟩
        go_wp2_with fail
        refine (AW.out _).mono ?_
        rintro e w4 ⟨rfl, hg4⟩
        go_wp2_with fail
        refine (K3.out _).mono ?_
        rintro e w5 ⟨rfl, hg5⟩
        go_wp2_with fail
        go_ret
        exact ⟨rfl, gtrans hg1 (gtrans hg2 (gtrans hg3 (gtrans hg4 hg5)))⟩
    · obtain rfl := KS c
      have t1 : (y != 0) = true := by simpa using c
      have t2 : (y == 0) = false := by simpa using c
      clear KS KO c
      go_enter Try.func7, Try.ntmps7
      go_wp2_with fail
      refine (K1.out _).mono ?_
      rintro e w1 ⟨rfl, hg1⟩
      go_wp2_with fail
      refine (K2.out _).mono ?_
      rintro e w2 ⟨rfl, hg2⟩
      go_wp2_with fail
      refine (R1.out _).mono ?_
      rintro e w3 ⟨rfl, hg3⟩
      go_wp2_with fail
      refine (AW.out _).mono ?_
      rintro e w4 ⟨rfl, hg4⟩
      go_wp2_with fail
      go_ret
      exact ⟨rfl, gtrans hg1 (gtrans hg2 (gtrans hg3 hg4))⟩
  · rw [e1] at R1
    rw [RA e1] at R2
    clear RA e1
    by_cases c : x = 0
    · subst c
      by_cases d : y = 0
      · subst d
        clear KS KO
        go_enter Try.func7, Try.ntmps7
        go_wp2_with fail
        refine (K1.out _).mono ?_
        rintro e w1 ⟨rfl, hg1⟩
        go_wp2_with fail
        refine (K2.out _).mono ?_
        rintro e w2 ⟨rfl, hg2⟩
        go_wp2_with fail
        refine (R1.out _).mono ?_
        rintro e w3 ⟨rfl, hg3⟩
        go_wp2_with fail
        refine (R2.out _).mono ?_
        rintro e w4 ⟨rfl, hg4⟩
        go_wp2_with fail
        refine (AW.out _).mono ?_
        rintro e w5 ⟨rfl, hg5⟩
        go_wp2_with fail
        go_ret
        exact ⟨rfl, gtrans hg1 (gtrans hg2 (gtrans hg3 (gtrans hg4 hg5)))⟩
      · obtain ⟨q1, q2, q3, q4, q5⟩ := KO rfl d
        rw [q1] at K3
        have t1 : (y != 0) = true := by simpa using d
        have t2 : (y != 1) = true := by simpa using q2
        have t3 : (y != 2) = true := by simpa using q3
        clear KS KO d q1 q2 q3
        go_enter Try.func7, Try.ntmps7
        go_wp2_with fail
        refine (K1.out _).mono ?_
        rintro e w1 ⟨rfl, hg1⟩
        go_wp2_with fail
        refine (K2.out _).mono ?_
        rintro e w2 ⟨rfl, hg2⟩
        go_wp2_with fail
        refine (R1.out _).mono ?_
        rintro e w3 ⟨rfl, hg3⟩
        go_wp2_with fail
        refine (R2.out _).mono ?_
        rintro e w4 ⟨rfl, hg4⟩
        go_wp2_with fail
        refine (AW.out _).mono ?_
        rintro e w5 ⟨rfl, hg5⟩
        go_wp2_with fail
        refine (K3.out _).mono ?_
        rintro e w6 ⟨rfl, hg6⟩
        go_wp2_with fail
        go_ret
        exact ⟨rfl, gtrans hg1 (gtrans hg2 (gtrans hg3 (gtrans hg4 (gtrans hg5 hg6))))⟩
    · obtain rfl := KS c
      have t1 : (y != 0) = true := by simpa using c
      have t2 : (y == 0) = false := by simpa using c
      clear KS KO c
      go_enter Try.func7, Try.ntmps7
      go_wp2_with fail
      refine (K1.out _).mono ?_
      rintro e w1 ⟨rfl, hg1⟩
      go_wp2_with fail
      refine (K2.out _).mono ?_
      rintro e w2 ⟨rfl, hg2⟩
      go_wp2_with fail
      refine (R1.out _).mono ?_
      rintro e w3 ⟨rfl, hg3⟩
      go_wp2_with fail
      refine (R2.out _).mono ?_
      rintro e w4 ⟨rfl, hg4⟩
      go_wp2_with fail
      refine (AW.out _).mono ?_
      rintro e w5 ⟨rfl, hg5⟩
      go_wp2_with fail
      go_ret
      exact ⟨rfl, gtrans hg1 (gtrans hg2 (gtrans hg3 (gtrans hg4 hg5)))⟩

set_option maxRecDepth 100000 in
theorem lifted (os : Os) (started : os.Started) (H : Type) (enc : TypeId × Value → H) :
    ReturnsInHanded {} Try.checked os 7 .any (Rows.feastAbroadSpec.pre6 enc Try.prog Try.f7 Rows.feastAbroadRow.domain false) (Rows.feastAbroadSpec.post enc Try.prog Try.f7 false true false false) := by
  refine returnsInHanded_of_change (C := Try.checked) own started (by kernel_rfl) Try.func7
    (ChangeSpec.witness6 (enc := enc) (C := Try.checked) false ⟨#[], #[.int .i64 0], []⟩ 8 (by kernel_rfl) (by kernel_rfl) (by kernel_rfl) (by kernel_rfl)) ?_
  intro W base args ds gs before hval0 hW hcnd _
  have hval : ∀ (j : Nat) t v, Try.f7.params[j]? = some t → args[j]? = some v → Value.okWide Try.prog W .any base t v := hval0
  have hW' := hW
  obtain ⟨p, q, hA0, hV, rfl, hfz, hnd⟩ := hW
  have hA : DataW.TrodAll enc Try.prog W 0 (fun _ => true) true Try.f7.params.toList args.toList ds p := hA0
  rw [Try.params7] at hA hval
  obtain ⟨v0, vs0, d0, ds0, p0, q0, hargs, rfl, rfl, h0, r0⟩ := trodAll_cons hA
  obtain ⟨rfl, rfl, rfl⟩ := trodAll_nil r0
  obtain rfl : args = #[v0] := by cases args; simp_all
  obtain ⟨rfl, rfl⟩ := trodVars_none hV
  obtain ⟨a0, rfl, rfl, rfl, w0⟩ := open_int Try.underlying3 (hval 0 3 v0 rfl rfl) h0
  clear hA0 hval0
  simp only [List.append_nil] at hW'
  refine (walk a0 w0 W).mono fun e W' ⟨he, hg⟩ => ?_
  subst he
  exact ⟨_, rfl, post_bare hW' (fun _ _ _ => (trodAll_cons_mk (shut_bool Try.underlying4 _) trodAll_mk0)) (fun sp => (trodAll_cons_mk (shut_int Try.underlying3 w0) trodAll_mk0)) (fun _ => rfl) hg
    (ok_one (by kernel_rfl) rfl (okWide_bool_mk Try.underlying4 _))⟩

theorem over : Rows.feastAbroadRow.holds Try.pinned (OpenSpec.ofChange Rows.feastAbroadSpec) :=
  OpenClaim.holds_of_wide 7 Try.f7 rfl rfl rfl rfl rfl rfl rfl ⟨rfl, rfl, rfl, rfl, rfl⟩ rfl rfl rfl rfl rfl (by kernel_rfl) Try.func7 (by kernel_rfl)
    (of_decide_eq_true (by kernel_rfl)) (by unfold Func.isWrapper; first | (rw [if_pos (by decide +kernel)]; kernel_rfl) | (rw [if_neg (by decide +kernel)]; exact ⟨rfl, rfl⟩))
    (fun os started H enc _ => lifted os started H enc)

/-- The statement. -/
theorem proved : Rows.FeastAbroadSaid :=
  over
#print axioms proved
end Go.Proofs.Ytdoahnkjkbpdaaa.feastAbroad
