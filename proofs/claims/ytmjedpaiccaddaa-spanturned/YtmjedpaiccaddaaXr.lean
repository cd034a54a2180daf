/-
  The chapter's example, and what the laws ask of the program's Resolve.  Conditions: as each theorem states.
-/
import Derived.Test.YtmjedpaiccaddaaXq
import Derived.Test.YtmjedpaiccaddaaXi
namespace Go.Proofs.Ytmjedpaiccaddaa.Span
set_option maxRecDepth 100000
open Go.ChangeShapes Go.WideShapes Go.ChangeAt Go.RowKit
open Go.Proofs.Ytmjedpaiccaddaa.Divs Go.Proofs.Ytmjedpaiccaddaa.Grow
open Go.Proofs.Ytmjedpaiccaddaa.By (Sk SL)
open Go.Proofs.Ytmjedpaiccaddaa.Sp

/-- A block of these spans' cells is a slice of them. -/
theorem ra_ws {W : World} {g : Nat} {xs : List Sp} {n : Nat} (h : RA W g (sf xs).toArray 31) (hn : xs.length = n) (hb : n ≤ 100000) : Ws W (.slice (some ⟨g, 0, none⟩) n n) xs := by
  subst hn
  refine ⟨_, xs.length, rfl, Nat.le_refl _, by omega, by simp, fun i u hu => ⟨g, 0, rfl, ?_⟩⟩
  rw [Nat.zero_add]
  exact h.cell i u (by simpa using hu)

def x1 : List Sp := [⟨0, 10, 1, 0⟩, ⟨3, 5, 2, 1⟩]
def x2 : List Sp := [⟨0, 3, 1, 0⟩, ⟨3, 5, 2, 0⟩, ⟨5, 10, 1, 0⟩]

theorem full_x : Full x2 (md x1) := by
  have g0 : Sp.Good [] (md x1) 0 := st_start x1 0 (by decide)
  have g1 := st_good g0 (show Nx (ends x1) 0 3 true from ⟨by decide, by decide, by decide⟩)
  have g2 := st_good g1 (show Nx (ends x1) 3 5 true from ⟨by decide, by decide, by decide⟩)
  have g3 := st_good g2 (show Nx (ends x1) 5 10 true from ⟨by decide, by decide, by decide⟩)
  have g4 := st_end 0 g3 (show ∀ e ∈ ends x1, e ≤ 10 by decide)
  exact g4

/-- e is what spans that may be are answered. -/
def IsRes (l : List Sp) (w w' : World) (e : Ending) : Prop := ∃ v' R, e = .returned (.tuple #[v', .int .i64 0]) ∧ Full R (md l) ∧ WL w' w.heap.size v' R

theorem res_yes (v : Value) (l : List Sp) (w : World) (h : Ws w v l) (hm : mb l = true) :
    Calls Try.prog 10 #[v] w fun e w' => IsRes l w w' e ∧ Later w w' := by
  refine (resolve_yes v l w h hm ((mb_iff l).1 hm).1).mono ?_
  rintro e w' ⟨v', he, ⟨R, h1, h2⟩, hg⟩
  exact ⟨⟨v', R, he, h1, h2⟩, hg⟩

/-- A row of spans known. -/
theorem res_known (v : Value) (l R : List Sp) (w : World) (h : Ws w v l) (hm : mb l = true) (hR : Full R (md l)) :
    Calls Try.prog 10 #[v] w fun e w' => ∃ v', e = .returned (.tuple #[v', .int .i64 0]) ∧ WL w' w.heap.size v' R ∧ Later w w' := by
  refine (res_yes v l w h hm).mono ?_
  rintro e w' ⟨⟨v', S, he, h1, h2⟩, hg⟩
  obtain rfl := uniq h1 hR
  exact ⟨v', he, h2, hg⟩

set_option maxHeartbeats 2000000 in
theorem awake_any (w : World) : Calls Try.prog 9 #[] w fun e w' => e = .returned (.bool true) ∧ Later w w' := by
  have HG0 := Lib.hid ((Later.refl w).put (.cells #[.int .i64 0, .int .i64 10, .int .i64 1, .int .i64 0, .int .i64 3, .int .i64 5, .int .i64 2, .int .i64 1] 31))
  have R1 := Lib.hid (res_known _ x1 x2 _ (ra_ws (xs := x1) (n := 2) (RA.new w #[.int .i64 0, .int .i64 10, .int .i64 1, .int .i64 0, .int .i64 3, .int .i64 5, .int .i64 2, .int .i64 1] 31) rfl (by omega)) (by decide) full_x)
  go_enter Try.func9, Try.ntmps9
  go_wp2_with fail
  refine (R1.out).mono ?_
  rintro e w1 ⟨v', rfl, hv, hg⟩
  have HG1 := Lib.hid (gtrans HG0.out hg)
  have HV := Lib.hid hv
  obtain ⟨ad, cap, hv', _⟩ := hv.ws.len
  rw [show x2.length = 3 from rfl] at hv'
  subst hv'
  clear hv hg
  have A := Lib.hid (at_any _ x2 4 w1 HV.out.ws)
  rw [show av x2 4 = ⟨3, 5, 2, 0⟩ by decide, show ab x2 4 = true by decide] at A
  unfold sc at A
  go_wp2_with fail
  refine (A.out).mono ?_
  rintro e w2 ⟨rfl, hg⟩
  have HV2 := Lib.hid (HV.out.later hg)
  have HG2 := Lib.hid (gtrans HG1.out hg)
  clear hg
  have L4 := Lib.hid (((Later.refl w2).put (.cells #[.int .i64 3, .int .i64 5, .int .i64 2, .int .i64 0] 31)).put (.cells #[.int .i64 0, .int .i64 3, .int .i64 1, .int .i64 0, .int .i64 3, .int .i64 5, .int .i64 2, .int .i64 0, .int .i64 5, .int .i64 10, .int .i64 1, .int .i64 0] 31))
  have B3 := Lib.hid (((RA.new w2 #[.int .i64 3, .int .i64 5, .int .i64 2, .int .i64 0] 31)).later ((Later.refl _).put (.cells #[.int .i64 0, .int .i64 3, .int .i64 1, .int .i64 0, .int .i64 3, .int .i64 5, .int .i64 2, .int .i64 0, .int .i64 5, .int .i64 10, .int .i64 1, .int .i64 0] 31)))
  have S := Lib.hid (same_any (.slice ad 3 cap) _ x2 x2 _ (HV2.out.later L4.out).ws (ra_ws (xs := x2) (n := 3) (RA.new (w2.alloc (.cells #[.int .i64 3, .int .i64 5, .int .i64 2, .int .i64 0] 31)) #[.int .i64 0, .int .i64 3, .int .i64 1, .int .i64 0, .int .i64 3, .int .i64 5, .int .i64 2, .int .i64 0, .int .i64 5, .int .i64 10, .int .i64 1, .int .i64 0] 31) rfl (by omega)))
  rw [show decide (x2 = x2) = true by decide, World.size_alloc] at S
  go_wp2_with fail
  refine (S.out).mono ?_
  rintro e w5 ⟨rfl, hg⟩
  have b2 : w5.cell? ⟨w2.heap.size, 2, none⟩ = some (.int .i64 2) := (B3.out.later hg).cell 2 _ rfl
  have HG5 := Lib.hid (gtrans (gtrans HG2.out L4.out) hg)
  have C := Lib.hid (cut_any (.slice ad 3 cap) x2 4 6 w5 (HV2.out.later (gtrans L4.out hg)).ws (show 3 ≤ 50000 by omega))
  clear hg
  go_wp2_with fail
  refine (C.out).mono ?_
  rintro e w6 ⟨v6, rfl, hv6, hg⟩
  obtain ⟨ad6, cap6, hv', _⟩ := hv6.ws.len
  rw [show (cu x2 4 6).length = 2 by decide] at hv'
  subst hv'
  clear hv6 b2
  go_wp2_with fail
  go_ret
  exact ⟨rfl, gtrans HG5.out hg⟩

end Go.Proofs.Ytmjedpaiccaddaa.Span
