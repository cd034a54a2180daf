/-
  The document's answer for layer 5, on: a year's feasts as a row, and whether two rows are the same. Conditions: the year is from 3762 to 9999; the two rows are of the same feasts.
-/
import Derived.Test.YtdoahnkjkbpdaaaFl
import Derived.Test.YtdoahnkjkbpdaaaFf
import Derived.OwnWalk
import Derived.BigQuiet
import Derived.Deep.QuietTactic
namespace Go.Proofs.Ytdoahnkjkbpdaaa.Feast
open Go.ChangeShapes Go.WideShapes Go.ChangeAt Go.RowKit
open Go.Proofs.Ytdoahnkjkbpdaaa.Divs Go.Proofs.Ytdoahnkjkbpdaaa.Grow Go.Proofs.Ytdoahnkjkbpdaaa.Mol Go.Proofs.Ytdoahnkjkbpdaaa.Hebrew
open Go.Proofs.Ytdoahnkjkbpdaaa.Year (lh mh pt md mp p1 p2 po dl ny yl)
open Go.Proofs.Ytdoahnkjkbpdaaa.Heb (hd ha ups)
open Go.Proofs.Ytdoahnkjkbpdaaa.Fe

def LRel (h : Int) (ab : Bool) (w : World) (x y : Value) (wr : World) : Prop := ∃ i : Nat, i ≤ 280 ∧ x = .int .i64 i ∧ FL wr w.heap.size y (ls ab (ny h) i) ∧ Later w wr

theorem later_grown {w a b : World} {v : Value} {xs : List (Int × Int)} (g : Later w a) (f : FL a w.heap.size v xs) (k : a.grownBy b v.ownBlock) : Later w b :=
  Later.of_below (g.below.grown k g.size (fun j e => (World.ownsRow.lt f j e).1))

set_option maxHeartbeats 2000000 in
theorem rlist_any (h : Int) (ab : Bool) (w : World) (h1 : 3762 ≤ h) (h2 : h ≤ 9999) :
    Calls Try.prog 18 #[.int .i64 h, .bool ab] w fun e w' => ∃ v, e = .returned v ∧ FL w' w.heap.size v (fl ab (ny h) (ny h + yl h - 163)) ∧ Later w w' := by
  have N := Lib.hid (fun W => rnewyear_any h W (by omega) (by omega))
  have K := Lib.hid (fun n W => rkind_any n ab W)
  have nb := Year.ny_bd h (by omega) (by omega)
  obtain ⟨i0, hi, hz0, hz1, hz2⟩ := info_parts info_feast
  have HI := Lib.hid hi
  have HZ0 := Lib.hid hz0
  have HZ1 := Lib.hid hz1
  have HZ2 := Lib.hid hz2
  clear hi hz0 hz1 hz2
  go_enter Try.func18, Try.ntmps18
  go_wp2_with fail
  refine (N.out _).mono ?_
  rintro e w1 ⟨rfl, hg1⟩
  have HG1 := Lib.hid hg1
  clear hg1
  go_wp2_with fail
  go_loopw [7, 5] (fun x y wr => LRel h ab w x y wr) (fun x _ _ => (280 - intOf x).toNat)
  case atStart => exact ⟨0, by omega, rfl, World.ownsRow_nil _ _ _ _, HG1.out⟩
  case round =>
    obtain ⟨i, i1, rfl, hF, hg⟩ := hrel
    have HF := Lib.hid hF
    have HG := Lib.hid hg
    clear hF hg
    by_cases hlt : i < 280
    · have t : decide ((i : Int) < 280) = true := by simp; omega
      have ll := ls_length ab (ny h) i
      go_wp2_with fail
      refine (K.out _ _).mono ?_
      rintro e w2 ⟨rfl, hg2⟩
      have HF2 := Lib.hid (HF.out.later hg2)
      have HG2 := Lib.hid (gtrans HG.out hg2)
      clear hg2
      by_cases hz : kd ab (ny h + i) = 0
      · have t : (kd ab (ny h + i) != 0) = false := by simp [hz]
        have HZ := Lib.hid hz
        clear hz
        go_wp2_with fail
        go_roundw
        case rel => exact ⟨i + 1, by omega, by push_cast; rfl, by rw [ls_miss ab (ny h) i HZ.out]; exact HF2.out, HG2.out⟩
        case measure => simp [intOf]; omega
      · have t : (kd ab (ny h + i) != 0) = true := by simpa using hz
        have HZ := Lib.hid hz
        clear hz
        go_wp2_with (at_builtin; refine wpList_append_own _ rfl _ _ 25 rfl w.heap.size 40 i0 (.agg #[.int .i64 0, .int .i64 0]) 2 16 Try.underlying25 HI.out HZ0.out HZ1.out HZ2.out rfl (by decide) _ _ _ rfl (World.ownsRow.alloc HF2.out _) ⟨w2.heap.size, 0, none⟩ 1 1 [.int .i64 (kd ab (ny h + i)), .int .i64 (ny h + i)] rfl rfl (cells_two _ _ _ _) (by simp [Value.oneCell']) (by simp only [maxLen]; omega) (by omega) (by have := HG2.out.size; simp; omega) ?_; intro v' w4 hown' hgrow _; obtain ⟨g', cap', rfl⟩ := ownsRow_succ hown'; have HL4 := Lib.hid (later_grown (HG2.out.put _) (HF2.out.later ((Later.refl w2).put _)) hgrow); have HO := Lib.hid hown'; clear hown' hgrow)
        go_roundw
        case rel => exact ⟨i + 1, by omega, by push_cast; rfl, by unfold FL; rw [ls_hit ab (ny h) i HZ.out, cl_snoc, List.length_append]; exact HO.out, HL4.out⟩
        case measure => simp [intOf]; omega
    · obtain rfl : i = 280 := by omega
      go_wp2_with fail
      go_ret
      have yb := Heb.yl_bd h
      have F := HF.out
      rw [ls_all ab h 280 h1 h2 (by omega) (by omega)] at F
      exact ⟨_, rfl, F, HG.out⟩

theorem cl_get (xs : List (Int × Int)) (i : Nat) (a d : Int) (h : xs[i]? = some (a, d)) : (cl xs)[i * 2]? = some (.int .i64 a) ∧ (cl xs)[i * 2 + 1]? = some (.int .i64 d) := by
  induction xs generalizing i with
  | nil => simp at h
  | cons x r ih =>
    cases i with
    | zero =>
      obtain rfl : x = (a, d) := by simpa using h
      simp [cl]
    | succ i =>
      have k := ih i (by simpa using h)
      rw [show (i + 1) * 2 = i * 2 + 2 by omega]
      simpa [cl] using k

theorem add_zero (g j : Nat) : (⟨g, 0, none⟩ : Addr).add j = ⟨g, j, none⟩ := by
  unfold Addr.add
  split
  · rename_i h
    rw [h]
  · simp

theorem equal_feast (a b c d : Int) (w : World) : (Op.equalIn 10000 40 (.agg #[.int .i64 a, .int .i64 b]) (.agg #[.int .i64 c, .int .i64 d])).run Try.prog w = .ok (a == c && b == d) w := by
  have u3 := Try.underlying3
  have a3 := Try.isAgg3
  have z3 := Try.sizeOf3
  have hS : Try.prog.underlying 40 = some (.struct (Try.prog.fieldsOf 40)) := by kernel_rfl
  have hp : Try.prog.stoodInHeld 40 = false := by kernel_rfl
  rw [show (10000 : Nat) = 9999 + 1 from rfl, run_equalIn_agg w 9999 40 _ _ hS hp]
  simp only [Program.fieldsOf, Try.underlying40]
  go_simp
  by_cases h1 : a = c <;> by_cases h2 : b = d <;> simp [h1, h2]

attribute [local go_sem] equal_feast

/-- What a slice of feasts is, and where they lie. -/
theorem FL.lies {W : World} {b : Nat} {v : Value} {xs : List (Int × Int)} (h : FL W b v xs) (hn : xs ≠ []) : ∃ g cap, v = .slice (some ⟨g, 0, none⟩) xs.length cap ∧ g < W.heap.size ∧
    ∀ (i : Nat) (a d : Int), xs[i]? = some (a, d) → W.cell? ⟨g, i * 2, none⟩ = some (.int .i64 a) ∧ W.cell? ⟨g, i * 2 + 1, none⟩ = some (.int .i64 d) := by
  have hl : 0 < xs.length := by cases xs; exact absurd rfl hn; simp
  rcases h.2 with ⟨_, h0⟩ | ⟨g, cap, cur, rfl, hb, hg, _⟩
  · omega
  · refine ⟨g, cap, rfl, (Array.getElem?_eq_some_iff.1 hg).1, fun i a d hx => ?_⟩
    have c := World.ownsRow.cells h (g := g) rfl
    obtain ⟨k1, k2⟩ := cl_get xs i a d hx
    have c1 := c _ _ k1
    have c2 := c _ _ k2
    rw [add_zero] at c1 c2
    exact ⟨c1, c2⟩

def SRl (n : Nat) (x : Value) : Prop := ∃ i : Nat, i ≤ n ∧ x = .int .i64 i

set_option maxHeartbeats 2000000 in
theorem rsame_any (xs : List (Int × Int)) (g cap g' cap' : Nat) (w : World) (hl : xs.length ≤ 1000)
    (h1 : ∀ (i : Nat) (a d : Int), xs[i]? = some (a, d) → w.cell? ⟨g, i * 2, none⟩ = some (.int .i64 a) ∧ w.cell? ⟨g, i * 2 + 1, none⟩ = some (.int .i64 d))
    (h2 : ∀ (i : Nat) (a d : Int), xs[i]? = some (a, d) → w.cell? ⟨g', i * 2, none⟩ = some (.int .i64 a) ∧ w.cell? ⟨g', i * 2 + 1, none⟩ = some (.int .i64 d)) :
    Calls Try.prog 17 #[.slice (some ⟨g, 0, none⟩) xs.length cap, .slice (some ⟨g', 0, none⟩) xs.length cap'] w fun e w' => e = .returned (.bool true) ∧ Later w w' := by
  obtain ⟨n, hn⟩ : ∃ n, xs.length = n := ⟨_, rfl⟩
  have H1 := Lib.hid h1
  have H2 := Lib.hid h2
  rw [hn] at hl ⊢
  have HN := Lib.hid hn
  clear h1 h2 hn
  go_enter Try.func17, Try.ntmps17
  go_wp2_with fail
  go_loopw [5] (fun x wr => SRl n x ∧ ∃ k, wr = w.drewN k) (fun x _ => ((n : Int) - intOf x).toNat)
  case atStart => exact ⟨⟨0, by omega, rfl⟩, 0, rfl⟩
  case round =>
    obtain ⟨⟨i, i1, rfl⟩, k, rfl⟩ := hrel
    by_cases hlt : i < n
    · have t : (i : Int) < (n : Int) := by omega
      have t0 : (0 : Int) ≤ (i : Int) := by omega
      obtain ⟨a, d, hx⟩ : ∃ a d, xs[i]? = some (a, d) := ⟨_, _, List.getElem?_eq_getElem (by have := HN.out; omega)⟩
      obtain ⟨c1, c2⟩ := H1.out i a d hx
      obtain ⟨e1, e2⟩ := H2.out i a d hx
      clear hx
      have st : (SRl n (.int .i64 ((i : Int) + 1))) := ⟨i + 1, by omega, by push_cast; rfl⟩
      have ST := Lib.hid st
      clear st
      by_cases hz : i = 0
      · subst hz
        simp only [Nat.zero_mul, Nat.zero_add] at c1 c2 e1 e2
        go_wp2_with fail
        go_quiet (fail)
        go_wp2_with fail
        go_roundw
        case rel => exact ⟨ST.out, _, rfl⟩
        case measure => simp [intOf]; omega
      · have hz2 : ¬ i * 2 = 0 := by omega
        go_wp2_with fail
        go_quiet (fail)
        go_wp2_with fail
        go_roundw
        case rel => exact ⟨ST.out, _, rfl⟩
        case measure => simp [intOf]; omega
    · obtain rfl : i = n := by omega
      go_wp2_with fail
      go_ret
      exact ⟨rfl, later_drewN w k⟩

end Go.Proofs.Ytdoahnkjkbpdaaa.Feast
