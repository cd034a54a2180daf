/-
  Whether a configuration's times and windows may be, by the program. No condition but those that each theorem states.
-/
import Derived.Test.YthbgllbbliijlaaCs
import Derived.Laws.Cover1
namespace Go.Proofs.Ythbgllbbliijlaa.Conf
open Go.ChangeShapes Go.WideShapes Go.ChangeAt Go.RowKit
open Go.Proofs.Ythbgllbbliijlaa.Divs Go.Proofs.Ythbgllbbliijlaa.Grow Go.Proofs.Ythbgllbbliijlaa.Zone
open Go.Proofs.Ythbgllbbliijlaa.By (Sk SL)
open Go.Proofs.Ythbgllbbliijlaa.Each
open Go.Proofs.Ythbgllbbliijlaa.Zo Go.Proofs.Ythbgllbbliijlaa.Su Go.Proofs.Ythbgllbbliijlaa.Cf

theorem min_three (x y z : Int) (W : World) : (Builtin.min_ #[3, 3, 3] 3 #[.int .i64 x, .int .i64 y, .int .i64 z]).run Try.prog W = .ok (.int .i64 (min (min x y) z)) W := by
  rw [run_min_int3]
  have : (if z < (if y < x then y else x) then z else (if y < x then y else x)) = min (min x y) z := by
    split <;> split at * <;> omega
  rw [this]

set_option maxHeartbeats 2000000 in
theorem times_any (c : Cg) (u v : Value) (w : World) : Calls Try.prog 33 #[.agg (cc c u v)] w fun e w' => e = .returned (.int .i64 (if ti c = true then 0 else 102)) ∧ Later w w' := by
  obtain ⟨N, hN⟩ : ∃ N : Int, N = if ti c = true then 0 else 102 := ⟨_, rfl⟩
  rw [← hN]
  obtain ⟨B1, e1⟩ : ∃ b, (bt c.t 1 60 && (bt c.l 1 60 && (bt c.o 1 60 && (bt c.d 1 60 && bt c.c 1 60)))) = b := ⟨_, rfl⟩
  obtain ⟨B2, e2⟩ : ∃ b, bt c.h 0 60 = b := ⟨_, rfl⟩
  obtain ⟨B3, e3⟩ : ∃ b, (bt c.r 1 300 && bt c.q 1 300) = b := ⟨_, rfl⟩
  obtain ⟨B4, e4⟩ : ∃ b, bt c.e 1 (min (min c.d c.r) c.q) = b := ⟨_, rfl⟩
  have HN : Hid (N = if (B1 && (B2 && (B3 && B4))) = true then 0 else 102) := Lib.hid (by rw [hN]; unfold ti; rw [e1, e2, e3, e4])
  have E1 := Lib.hid e1
  have E2 := Lib.hid e2
  have E3 := Lib.hid e3
  have E4 := Lib.hid e4
  clear hN e1 e2 e3 e4
  have K1 := Lib.hid (fun a b x g W h => hold_one a b x g W h)
  have K2 := Lib.hid (fun a b x y g W h h1 => hold_two a b x y g W h h1)
  have K5 := Lib.hid (fun a b x y z s t g W h h1 h2 h3 h4 => hold_five a b x y z s t g W h h1 h2 h3 h4)
  obtain ⟨C, hC⟩ : ∃ C, C = cc c u v := ⟨_, rfl⟩
  rw [← hC]
  have f4 : C[4]? = some (.int .i64 c.t) := by rw [hC]; rfl
  have f5 : C[5]? = some (.int .i64 c.l) := by rw [hC]; rfl
  have f6 : C[6]? = some (.int .i64 c.o) := by rw [hC]; rfl
  have f7 : C[7]? = some (.int .i64 c.d) := by rw [hC]; rfl
  have f8 : C[8]? = some (.int .i64 c.e) := by rw [hC]; rfl
  have f9 : C[9]? = some (.int .i64 c.c) := by rw [hC]; rfl
  have f10 : C[10]? = some (.int .i64 c.h) := by rw [hC]; rfl
  have f11 : C[11]? = some (.int .i64 c.r) := by rw [hC]; rfl
  have f12 : C[12]? = some (.int .i64 c.q) := by rw [hC]; rfl
  clear hC
  obtain ⟨M, hM⟩ : ∃ M, min (min c.d c.r) c.q = M := ⟨_, rfl⟩
  have mn : ∀ W : World, (Builtin.min_ #[3, 3, 3] 3 #[.int .i64 c.d, .int .i64 c.r, .int .i64 c.q]).run Try.prog W = .ok (.int .i64 M) W := by
    intro W
    rw [min_three, hM]
  rw [hM] at E4
  clear hM
  have AA := Lib.hid (At.new w C 33)
  obtain ⟨T, hT⟩ : ∃ T : Array Value, T = #[.int .i64 c.t, .int .i64 c.l, .int .i64 c.o, .int .i64 c.d, .int .i64 c.e, .int .i64 c.c, .int .i64 c.h] := ⟨_, rfl⟩
  have AT := Lib.hid (At.new (w.alloc (.cells C 33)) T 24)
  have A1 := Lib.hid (At.new ((w.alloc (.cells C 33)).alloc (.cells T 24)) #[.int .i64 1, .int .i64 60] 48)
  have A2 := Lib.hid (At.new (((w.alloc (.cells C 33)).alloc (.cells T 24)).alloc (.cells #[.int .i64 1, .int .i64 60] 48)) #[.int .i64 0, .int .i64 60] 48)
  have A3 := Lib.hid (At.new ((((w.alloc (.cells C 33)).alloc (.cells T 24)).alloc (.cells #[.int .i64 1, .int .i64 60] 48)).alloc (.cells #[.int .i64 0, .int .i64 60] 48)) #[.int .i64 1, .int .i64 300] 48)
  have A4 := Lib.hid (At.new (((((w.alloc (.cells C 33)).alloc (.cells T 24)).alloc (.cells #[.int .i64 1, .int .i64 60] 48)).alloc (.cells #[.int .i64 0, .int .i64 60] 48)).alloc (.cells #[.int .i64 1, .int .i64 300] 48)) #[.int .i64 1, .int .i64 M] 48)
  subst hT
  simp only [World.size_alloc] at AT A1 A2 A3 A4
  have F8 := Lib.hid f8
  have F10 := Lib.hid f10
  have F11 := Lib.hid f11
  have F12 := Lib.hid f12
  go_enter Try.func33, Try.ntmps33
  go_wp2_with fail
  refine (K5.out _ _ c.t c.l c.o c.d c.c _ _ (new_cell _ _ _ 0 _ _ (by simp) rfl) (new_cell _ _ _ 1 _ _ (by simp) rfl) (new_cell _ _ _ 2 _ _ (by simp) rfl) (new_cell _ _ _ 3 _ _ (by simp) rfl) (new_cell _ _ _ 4 _ _ (by simp) rfl)).mono ?_
  rintro e w1 ⟨rfl, hg1⟩
  rw [E1.out]
  clear mn f4 f5 f6 f7 f8 f9 f10 f11 f12
  have HG1 := Lib.hid (off_put hg1)
  clear hg1
  have HW := Lib.hid (off_put (off_put (off_put (off_put (off_put (off_put HG1.out))))))
  cases B1 with
  | false =>
    have HV : Hid (N = 102) := Lib.hid (by rw [HN.out]; rfl)
    go_wp2_with fail
    go_ret
    exact ⟨ret1 HV.out.symm, HW.out⟩
  | true =>
    have a0 := A2.out.put (.cells #[.int .i64 1, .int .i64 300] 48)
    have a1 := (a0.put (.cells #[.int .i64 1, .int .i64 M] 48)).later HG1.out
    have c1 := a1 0 _ rfl
    have c2 := a1 1 _ rfl
    have t1 := (((((AT.out.put (.cells #[.int .i64 1, .int .i64 60] 48)).put (.cells #[.int .i64 0, .int .i64 60] 48)).put (.cells #[.int .i64 1, .int .i64 300] 48)).put (.cells #[.int .i64 1, .int .i64 M] 48)).later HG1.out)
    have HT := Lib.hid t1
    have c3 := t1 6 _ rfl
    clear a0 a1 t1
    go_wp2_with fail
    refine (K1.out _ _ c.h _ _ (new_cell _ _ _ 0 _ _ (by simp) rfl)).mono ?_
    rintro e w2 ⟨rfl, hg2⟩
    rw [E2.out]
    clear c1 c2 c3
    have HG2 := Lib.hid (off_put hg2)
    clear hg2
    cases B2 with
    | false =>
      have HV : Hid (N = 102) := Lib.hid (by rw [HN.out]; rfl)
      go_wp2_with fail
      go_ret
      exact ⟨ret1 HV.out.symm, gtrans HW.out HG2.out⟩
    | true =>
      have a1 := (A3.out.put (.cells #[.int .i64 1, .int .i64 M] 48)).later (gtrans HG1.out HG2.out)
      have c1 := a1 0 _ rfl
      have c2 := a1 1 _ rfl
      have hx := (AA.out.later (gtrans (((((Later.refl _).put _).put _).put _).put _) (gtrans ((Later.refl _).put _) (gtrans HG1.out HG2.out))))
      have c3 := hx 11 _ F11.out
      have c4 := hx 12 _ F12.out
      clear a1 hx
      go_wp2_with fail
      refine (K2.out _ _ c.r c.q _ _ (new_cell _ _ _ 0 _ _ (by simp) rfl) (new_cell _ _ _ 1 _ _ (by simp) rfl)).mono ?_
      rintro e w3 ⟨rfl, hg3⟩
      rw [E3.out]
      clear c1 c2 c3 c4
      have HG3 := Lib.hid (off_put hg3)
      clear hg3
      cases B3 with
      | false =>
        have HV : Hid (N = 102) := Lib.hid (by rw [HN.out]; rfl)
        go_wp2_with fail
        go_ret
        exact ⟨ret1 HV.out.symm, gtrans HW.out (gtrans HG2.out HG3.out)⟩
      | true =>
        have a1 := A4.out.later (gtrans HG1.out (gtrans HG2.out HG3.out))
        have c1 := a1 0 _ rfl
        have c2 := a1 1 _ rfl
        have c3 := HT.out.later (gtrans HG2.out HG3.out) 4 _ rfl
        clear a1
        go_wp2_with fail
        refine (K1.out _ _ c.e _ _ (new_cell _ _ _ 0 _ _ (by simp) rfl)).mono ?_
        rintro e w4 ⟨rfl, hg4⟩
        rw [E4.out]
        clear c1 c2 c3
        have HG4 := Lib.hid (off_put hg4)
        clear hg4
        cases B4 with
        | false =>
          have HV : Hid (N = 102) := Lib.hid (by rw [HN.out]; rfl)
          go_wp2_with fail
          go_ret
          exact ⟨ret1 HV.out.symm, gtrans HW.out (gtrans HG2.out (gtrans HG3.out HG4.out))⟩
        | true =>
          have HV : Hid (N = 0) := Lib.hid (by rw [HN.out]; rfl)
          go_wp2_with fail
          go_ret
          exact ⟨ret1 HV.out.symm, gtrans HW.out (gtrans HG2.out (gtrans HG3.out HG4.out))⟩

end Go.Proofs.Ythbgllbbliijlaa.Conf
