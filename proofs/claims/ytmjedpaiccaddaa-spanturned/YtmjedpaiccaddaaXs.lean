/-
  Which of any spans an instant is in, and what of them is between two; what is cut in two and put together: the laws' walks.  Conditions: as each theorem states.
-/
import Derived.Test.YtmjedpaiccaddaaXr
namespace Go.Proofs.Ytmjedpaiccaddaa.Span
set_option maxRecDepth 100000
open Go.ChangeShapes Go.WideShapes Go.ChangeAt Go.RowKit
open Go.Proofs.Ytmjedpaiccaddaa.Divs Go.Proofs.Ytmjedpaiccaddaa.Grow
open Go.Proofs.Ytmjedpaiccaddaa.By (Sk SL)
open Go.Proofs.Ytmjedpaiccaddaa.Sp

theorem mb_len {l : List Sp} (h : mb l = true) : l.length ≤ 500 := ((mb_iff l).1 h).1

/-- A row that is known by its length. -/
theorem WL.lit {W : World} {b : Nat} {v : Value} {xs : List Sp} {n : Nat} (h : WL W b v xs) (hn : xs.length = n) : ∃ ad cap, v = .slice ad n cap := by
  obtain ⟨ad, cap, e, _⟩ := h.ws.len
  exact ⟨ad, cap, by rw [e, hn]⟩

theorem run_eql (x : Sp) (w : World) : Sem.run Try.prog (binOp .eql 31 (.agg #[.int .i64 x.f, .int .i64 x.t, .int .i64 x.m, .int .i64 x.p]) (.agg #[.int .i64 x.f, .int .i64 x.t, .int .i64 x.m, .int .i64 x.p])) w = .ok (.bool true) w := by
  have u3 := Try.underlying31
  go_simp

set_option maxHeartbeats 2000000 in
theorem tells_core (w : World) (v : Value) (l : List Sp) (t o : Int) (h : Ws w v l) : Calls Try.prog 4 #[v, .int .i64 t, .int .i64 o] w fun e w' => e = .returned (.bool true) ∧ Later w w' := by
  have A := Lib.hid awake_any
  have HG0 := Lib.hid (Later.refl w)
  obtain ⟨ad, cap, e0, _⟩ := h.form
  obtain ⟨n, hn⟩ : ∃ n, l.length = n := ⟨_, rfl⟩
  rw [hn] at e0
  subst e0
  have HS := Lib.hid h
  have HN := Lib.hid hn
  by_cases h1 : 60 < n
  · have t1 : (n : Int) > 60 := by omega
    clear h hn h1 HS HN
    go_enter Try.func4, Try.ntmps4
    go_wp2_with fail
    refine (A.out _).mono ?_
    rintro e w9 ⟨rfl, hg9⟩
    go_wp2_with fail
    go_ret
    exact ⟨rfl, gtrans HG0.out hg9⟩
  · have t1 : ¬ (n : Int) > 60 := by omega
    have O := Lib.hid (fun W (g : Later w W) => own_any _ l W (HS.out.later g) (by omega))
    obtain ⟨q, hq⟩ : ∃ q, av l t = q := ⟨_, rfl⟩
    obtain ⟨B, hB⟩ : ∃ B, ab l t = B := ⟨_, rfl⟩
    have P := Lib.hid (fun W u (k : Ws W u l) => at_any u l t W k)
    have R := Lib.hid (fun W u (k : Ws W u l) => rat_any u l t W k)
    rw [hq, hB] at P R
    unfold sc at P R
    have C := Lib.hid (fun W u (k : Ws W u l) => cut_any u l t o W k (by omega))
    have D := Lib.hid (fun W (g : Later w W) => rcut_any _ l t o W (HS.out.later g) (by omega))
    have tB : (B == B) = true := by simp
    have heq := run_eql q
    clear h hn h1 hq hB
    go_enter Try.func4, Try.ntmps4
    go_wp2_with fail
    refine (O.out _ HG0.out).mono ?_
    rintro e w1 ⟨v1, rfl, hv1, hg1⟩
    obtain ⟨a1, c1, rfl⟩ := hv1.lit HN.out
    have HW1 := Lib.hid hv1.ws
    have HG1 := Lib.hid hg1
    clear hv1 hg1
    go_wp2_with fail
    refine (P.out _ _ HW1.out).mono ?_
    rintro e w2 ⟨rfl, hg2⟩
    have HG2 := Lib.hid ((gtrans HG1.out hg2).put (.cells #[.int .i64 q.f, .int .i64 q.t, .int .i64 q.m, .int .i64 q.p] 31))
    have HB2 := Lib.hid (RA.new w2 #[.int .i64 q.f, .int .i64 q.t, .int .i64 q.m, .int .i64 q.p] 31)
    clear hg2
    go_wp2_with fail
    refine (R.out _ _ (HS.out.later HG2.out)).mono ?_
    rintro e w3 ⟨rfl, hg3⟩
    have HG3 := Lib.hid ((gtrans HG2.out hg3).put (.cells #[.int .i64 q.f, .int .i64 q.t, .int .i64 q.m, .int .i64 q.p] 31))
    have HB3 := Lib.hid (HB2.out.later (hg3.put (.cells #[.int .i64 q.f, .int .i64 q.t, .int .i64 q.m, .int .i64 q.p] 31)))
    have HC3 := Lib.hid (RA.new w3 #[.int .i64 q.f, .int .i64 q.t, .int .i64 q.m, .int .i64 q.p] 31)
    clear hg3
    go_wp2_with fail
    refine (A.out _).mono ?_
    rintro e w4 ⟨rfl, hg4⟩
    have b0 := (HB3.out.later hg4).cell 0 (.int .i64 q.f) rfl
    have b1 := (HB3.out.later hg4).cell 1 (.int .i64 q.t) rfl
    have b2 := (HB3.out.later hg4).cell 2 (.int .i64 q.m) rfl
    have b3 := (HB3.out.later hg4).cell 3 (.int .i64 q.p) rfl
    have d0 := (HC3.out.later hg4).cell 0 (.int .i64 q.f) rfl
    have d1 := (HC3.out.later hg4).cell 1 (.int .i64 q.t) rfl
    have d2 := (HC3.out.later hg4).cell 2 (.int .i64 q.m) rfl
    have d3 := (HC3.out.later hg4).cell 3 (.int .i64 q.p) rfl
    have HG4 := Lib.hid (gtrans HG3.out hg4)
    clear hg4
    go_wp2_with fail
    clear b0 b1 b2 b3 d0 d1 d2 d3
    refine (O.out _ HG4.out).mono ?_
    rintro e w5 ⟨v5, rfl, hv5, hg5⟩
    obtain ⟨a5, c5, rfl⟩ := hv5.lit HN.out
    have HW5 := Lib.hid hv5.ws
    have HG5 := Lib.hid (gtrans HG4.out hg5)
    clear hv5 hg5
    go_wp2_with fail
    refine (C.out _ _ HW5.out).mono ?_
    rintro e w6 ⟨v6, rfl, hv6, hg6⟩
    have HW6 := Lib.hid hv6.ws
    have HG6 := Lib.hid (gtrans HG5.out hg6)
    obtain ⟨a6, c6, rfl⟩ := hv6.lit rfl
    clear hv6 hg6
    go_wp2_with fail
    refine (D.out _ HG6.out).mono ?_
    rintro e w7 ⟨v7, rfl, hv7, hg7⟩
    obtain ⟨a7, c7, rfl⟩ := hv7.lit rfl
    have S := Lib.hid (same_any _ _ (cu l t o) (cu l t o) w7 (HW6.out.later hg7) hv7.ws)
    rw [decide_eq_true rfl] at S
    have HG7 := Lib.hid (gtrans HG6.out hg7)
    clear hv7 hg7
    go_wp2_with fail
    refine (S.out).mono ?_
    rintro e w8 ⟨rfl, hg8⟩
    go_wp2_with fail
    go_ret
    exact ⟨rfl, gtrans HG7.out hg8⟩

end Go.Proofs.Ytmjedpaiccaddaa.Span
