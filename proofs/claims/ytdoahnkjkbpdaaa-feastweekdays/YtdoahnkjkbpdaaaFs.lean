/-
  The program's map of the feasts' days, as it is made: its literal, whose stores come in whatever order, and what is stored behind it abroad. No condition.
-/
import Derived.Test.YtdoahnkjkbpdaaaFm
namespace Go.Proofs.Ytdoahnkjkbpdaaa.Feast
open Go.ChangeShapes Go.WideShapes Go.ChangeAt Go.RowKit
open Go.Proofs.Ytdoahnkjkbpdaaa.Divs Go.Proofs.Ytdoahnkjkbpdaaa.Grow Go.Proofs.Ytdoahnkjkbpdaaa.Mol Go.Proofs.Ytdoahnkjkbpdaaa.Hebrew
open Go.Proofs.Ytdoahnkjkbpdaaa.Fe

/-- Whatever order is picked, an invariant over what has come up serves. -/
theorem wpAny_inv {P : Program} {md : Region.Mode} {ops : Array Oper} {Q : Exit → Act → World → Prop} (I : Nat → Array Bool → Act → World → Prop)
    (h0 : ∀ fuel listed a w, I fuel listed a w → Region.ready md ops listed = [] → Q .normal a w) (hz : ∀ listed a w, I 0 listed a w → Region.ready md ops listed = [])
    (hs : ∀ fuel listed a w i, I (fuel + 1) listed a w → i ∈ Region.ready md ops listed → wpOp P ops Q i (fun a' w' => I fuel (listed.setIfInBounds i true) a' w') a w) :
    ∀ fuel listed a w, I fuel listed a w → wpAny P md ops Q fuel listed a w := by
  intro fuel
  induction fuel with
  | zero => exact fun listed a w h => ⟨hz listed a w h, h0 _ _ _ _ h (hz listed a w h)⟩
  | succ fuel ih => exact fun listed a w h => ⟨fun e => h0 _ _ _ _ h e, fun i hi => wpOp_mono (fun a' w' h' => ih _ _ _ h') (hs _ _ _ _ i h hi)⟩

/-- What the map answers once these of its entries are stored. -/
def f8 (b1 b2 b3 b4 b5 b6 b7 b8 : Bool) (m d : Int) : Int := if b1 = true ∧ m = 1 ∧ d = 1 then 1 else if b2 = true ∧ m = 1 ∧ d = 2 then 1 else if b3 = true ∧ m = 1 ∧ d = 10 then 2 else if b4 = true ∧ m = 1 ∧ d = 15 then 3 else if b5 = true ∧ m = 1 ∧ d = 22 then 4 else if b6 = true ∧ m = 8 ∧ d = 15 then 5 else if b7 = true ∧ m = 8 ∧ d = 21 then 6 else if b8 = true ∧ m = 10 ∧ d = 6 then 7 else 0

def off (b : Bool) : Nat := if b then 0 else 1

def cb (b1 b2 b3 b4 b5 b6 b7 b8 : Bool) (i : Nat) : Bool := (i == 2 && !b1) || (i == 4 && !b2) || (i == 6 && !b3) || (i == 8 && !b4) || (i == 10 && !b5) || (i == 12 && !b6) || (i == 14 && !b7) || (i == 16 && !b8) || (i == 17 && b1 && b2 && b3 && b4 && b5 && b6 && b7 && b8)

theorem f8_all : f8 true true true true true true true true = fk false := by
  funext m d
  unfold f8 fk
  simp
  repeat' split
  all_goals omega

theorem f8_1 (b2 b3 b4 b5 b6 b7 b8 : Bool) : (fun m d => if m = 1 ∧ d = 1 then 1 else f8 false b2 b3 b4 b5 b6 b7 b8 m d) = f8 true b2 b3 b4 b5 b6 b7 b8 := by
  funext m d
  by_cases h : m = 1 ∧ d = 1
  · obtain ⟨rfl, rfl⟩ := h
    simp [f8]
  · simp [f8, h]

theorem f8z_1 (b2 b3 b4 b5 b6 b7 b8 : Bool) : f8 false b2 b3 b4 b5 b6 b7 b8 1 1 = 0 := by simp [f8]

theorem f8_2 (b1 b3 b4 b5 b6 b7 b8 : Bool) : (fun m d => if m = 1 ∧ d = 2 then 1 else f8 b1 false b3 b4 b5 b6 b7 b8 m d) = f8 b1 true b3 b4 b5 b6 b7 b8 := by
  funext m d
  by_cases h : m = 1 ∧ d = 2
  · obtain ⟨rfl, rfl⟩ := h
    simp [f8]
  · simp [f8, h]

theorem f8z_2 (b1 b3 b4 b5 b6 b7 b8 : Bool) : f8 b1 false b3 b4 b5 b6 b7 b8 1 2 = 0 := by simp [f8]

theorem f8_3 (b1 b2 b4 b5 b6 b7 b8 : Bool) : (fun m d => if m = 1 ∧ d = 10 then 2 else f8 b1 b2 false b4 b5 b6 b7 b8 m d) = f8 b1 b2 true b4 b5 b6 b7 b8 := by
  funext m d
  by_cases h : m = 1 ∧ d = 10
  · obtain ⟨rfl, rfl⟩ := h
    simp [f8]
  · simp [f8, h]

theorem f8z_3 (b1 b2 b4 b5 b6 b7 b8 : Bool) : f8 b1 b2 false b4 b5 b6 b7 b8 1 10 = 0 := by simp [f8]

theorem f8_4 (b1 b2 b3 b5 b6 b7 b8 : Bool) : (fun m d => if m = 1 ∧ d = 15 then 3 else f8 b1 b2 b3 false b5 b6 b7 b8 m d) = f8 b1 b2 b3 true b5 b6 b7 b8 := by
  funext m d
  by_cases h : m = 1 ∧ d = 15
  · obtain ⟨rfl, rfl⟩ := h
    simp [f8]
  · simp [f8, h]

theorem f8z_4 (b1 b2 b3 b5 b6 b7 b8 : Bool) : f8 b1 b2 b3 false b5 b6 b7 b8 1 15 = 0 := by simp [f8]

theorem f8_5 (b1 b2 b3 b4 b6 b7 b8 : Bool) : (fun m d => if m = 1 ∧ d = 22 then 4 else f8 b1 b2 b3 b4 false b6 b7 b8 m d) = f8 b1 b2 b3 b4 true b6 b7 b8 := by
  funext m d
  by_cases h : m = 1 ∧ d = 22
  · obtain ⟨rfl, rfl⟩ := h
    simp [f8]
  · simp [f8, h]

theorem f8z_5 (b1 b2 b3 b4 b6 b7 b8 : Bool) : f8 b1 b2 b3 b4 false b6 b7 b8 1 22 = 0 := by simp [f8]

theorem f8_6 (b1 b2 b3 b4 b5 b7 b8 : Bool) : (fun m d => if m = 8 ∧ d = 15 then 5 else f8 b1 b2 b3 b4 b5 false b7 b8 m d) = f8 b1 b2 b3 b4 b5 true b7 b8 := by
  funext m d
  by_cases h : m = 8 ∧ d = 15
  · obtain ⟨rfl, rfl⟩ := h
    simp [f8]
  · simp [f8, h]

theorem f8z_6 (b1 b2 b3 b4 b5 b7 b8 : Bool) : f8 b1 b2 b3 b4 b5 false b7 b8 8 15 = 0 := by simp [f8]

theorem f8_7 (b1 b2 b3 b4 b5 b6 b8 : Bool) : (fun m d => if m = 8 ∧ d = 21 then 6 else f8 b1 b2 b3 b4 b5 b6 false b8 m d) = f8 b1 b2 b3 b4 b5 b6 true b8 := by
  funext m d
  by_cases h : m = 8 ∧ d = 21
  · obtain ⟨rfl, rfl⟩ := h
    simp [f8]
  · simp [f8, h]

theorem f8z_7 (b1 b2 b3 b4 b5 b6 b8 : Bool) : f8 b1 b2 b3 b4 b5 b6 false b8 8 21 = 0 := by simp [f8]

theorem f8_8 (b1 b2 b3 b4 b5 b6 b7 : Bool) : (fun m d => if m = 10 ∧ d = 6 then 7 else f8 b1 b2 b3 b4 b5 b6 b7 false m d) = f8 b1 b2 b3 b4 b5 b6 b7 true := by
  funext m d
  by_cases h : m = 10 ∧ d = 6
  · obtain ⟨rfl, rfl⟩ := h
    simp [f8]
  · simp [f8, h]

theorem f8z_8 (b1 b2 b3 b4 b5 b6 b7 : Bool) : f8 b1 b2 b3 b4 b5 b6 b7 false 10 6 = 0 := by simp [f8]

theorem fk_true : fk true = (fun m d => if m = 10 ∧ d = 7 then 7 else if m = 8 ∧ d = 22 then 6 else if m = 8 ∧ d = 16 then 5 else if m = 1 ∧ d = 23 then 4 else if m = 1 ∧ d = 16 then 3 else fk false m d) := by
  funext m d
  by_cases h1 : m = 1
  · subst h1
    simp [fk]
    repeat' split
    all_goals omega
  · by_cases h8 : m = 8
    · subst h8
      simp [fk]
      repeat' split
      all_goals omega
    · by_cases h10 : m = 10
      · subst h10
        simp [fk]
        repeat' split
        all_goals omega
      · simp [fk, h1, h8, h10]

set_option maxRecDepth 100000 in
set_option maxHeartbeats 8000000 in
theorem feasts_any (ab : Bool) (w : World) : Calls Try.prog 42 #[.bool ab] w fun e w' => e = .returned (.map (some w.heap.size)) ∧ FMap w' w.heap.size (fk ab) ∧ Later w w' := by
  go_enter Try.func42, Try.ntmps42
  go_wp2
  refine wp_region_any (by kernel_rfl) ?_
  refine wpAny_take (i := 1) (v := kv 1 1) rfl (by kernel_rfl) (by kernel_rfl) (by kernel_rfl) (fun _ _ _ h => h) (Or.inl ⟨by rfl, by intro w; go_simp; rfl⟩) ?_
  refine wpAny_take (i := 3) (v := kv 1 2) rfl (by kernel_rfl) (by kernel_rfl) (by kernel_rfl) (fun _ _ _ h => h) (Or.inl ⟨by rfl, by intro w; go_simp; rfl⟩) ?_
  refine wpAny_take (i := 5) (v := kv 1 10) rfl (by kernel_rfl) (by kernel_rfl) (by kernel_rfl) (fun _ _ _ h => h) (Or.inl ⟨by rfl, by intro w; go_simp; rfl⟩) ?_
  refine wpAny_take (i := 7) (v := kv 1 15) rfl (by kernel_rfl) (by kernel_rfl) (by kernel_rfl) (fun _ _ _ h => h) (Or.inl ⟨by rfl, by intro w; go_simp; rfl⟩) ?_
  refine wpAny_take (i := 9) (v := kv 1 22) rfl (by kernel_rfl) (by kernel_rfl) (by kernel_rfl) (fun _ _ _ h => h) (Or.inl ⟨by rfl, by intro w; go_simp; rfl⟩) ?_
  refine wpAny_take (i := 11) (v := kv 8 15) rfl (by kernel_rfl) (by kernel_rfl) (by kernel_rfl) (fun _ _ _ h => h) (Or.inl ⟨by rfl, by intro w; go_simp; rfl⟩) ?_
  refine wpAny_take (i := 13) (v := kv 8 21) rfl (by kernel_rfl) (by kernel_rfl) (by kernel_rfl) (fun _ _ _ h => h) (Or.inl ⟨by rfl, by intro w; go_simp; rfl⟩) ?_
  refine wpAny_take (i := 15) (v := kv 10 6) rfl (by kernel_rfl) (by kernel_rfl) (by kernel_rfl) (fun _ _ _ h => h) (Or.inl ⟨by rfl, by intro w; go_simp; rfl⟩) ?_
  refine wpAny_ready (rs := [0]) (by kernel_rfl) (by simp) (AllReady.cons rfl (fun K hK => ?_) AllReady.nil)
  go_simp
  refine hK _ _ ?_
  clear hK K
  refine wpAny_inv (fun fuel listed a' w' =>
    (∃ b1 b2 b3 b4 b5 b6 b7 b8 : Bool, fuel = off b1 + off b2 + off b3 + off b4 + off b5 + off b6 + off b7 + off b8 + 2 ∧ listed = #[true, true, b1, true, b2, true, b3, true, b4, true, b5, true, b6, true, b7, true, b8, false, false] ∧ a' = { tmps := #[.bool ab, undef, .map none, undef, .map (some w.heap.size), kv 1 1, kv 1 2, kv 1 10, kv 1 15, kv 1 22, kv 8 15, kv 8 21, kv 10 6, undef, undef, undef, undef, undef, undef, undef, undef, undef, undef, undef, undef, undef], defers := [] } ∧ FMap w' w.heap.size (f8 b1 b2 b3 b4 b5 b6 b7 b8) ∧ Later w w') ∨
    (fuel = 1 ∧ listed = #[true, true, true, true, true, true, true, true, true, true, true, true, true, true, true, true, true, true, false] ∧ a' = { tmps := #[.bool ab, undef, .map none, undef, .map (some w.heap.size), kv 1 1, kv 1 2, kv 1 10, kv 1 15, kv 1 22, kv 8 15, kv 8 21, kv 10 6, .map (some w.heap.size), undef, undef, undef, undef, undef, undef, undef, undef, undef, undef, undef, undef], defers := [] } ∧ FMap w' w.heap.size (fk false) ∧ Later w w') ∨
    (fuel = 0 ∧ listed = #[true, true, true, true, true, true, true, true, true, true, true, true, true, true, true, true, true, true, true] ∧ a' = { tmps := #[.bool ab, undef, .map none, .map (some w.heap.size), .map (some w.heap.size), kv 1 1, kv 1 2, kv 1 10, kv 1 15, kv 1 22, kv 8 15, kv 8 21, kv 10 6, .map (some w.heap.size), undef, undef, undef, undef, undef, undef, undef, undef, undef, undef, undef, undef], defers := [] } ∧ FMap w' w.heap.size (fk false) ∧ Later w w')) ?h0 ?hz ?hs _ _ _ _ ?st
  case st => exact .inl ⟨false, false, false, false, false, false, false, false, rfl, rfl, rfl, (FMap.new w.drew).same rfl, (Later.refl w).put _⟩
  case hz =>
    rintro listed a' w' (⟨b1, b2, b3, b4, b5, b6, b7, b8, hf, _⟩ | ⟨hf, _⟩ | ⟨_, rfl, _⟩)
    · omega
    · omega
    · kernel_rfl
  case hs =>
    rintro fuel listed a' w' i (⟨b1, b2, b3, b4, b5, b6, b7, b8, hf, rfl, rfl, hF, hL⟩ | ⟨hf, rfl, rfl, hF, hL⟩ | ⟨hf, _⟩) hi
    · have hc : (i = 2 ∧ b1 = false) ∨ (i = 4 ∧ b2 = false) ∨ (i = 6 ∧ b3 = false) ∨ (i = 8 ∧ b4 = false) ∨ (i = 10 ∧ b5 = false) ∨ (i = 12 ∧ b6 = false) ∨ (i = 14 ∧ b7 = false) ∨ (i = 16 ∧ b8 = false) ∨ (i = 17 ∧ b1 = true ∧ b2 = true ∧ b3 = true ∧ b4 = true ∧ b5 = true ∧ b6 = true ∧ b7 = true ∧ b8 = true) := by
        have hd : cb b1 b2 b3 b4 b5 b6 b7 b8 i = true := by
          clear hf hF hL
          revert hi
          revert i
          revert b1 b2 b3 b4 b5 b6 b7 b8
          decide +kernel
        clear hi hf hF hL
        simp only [cb, Bool.or_eq_true, Bool.and_eq_true, beq_iff_eq, Bool.not_eq_true', and_assoc, or_assoc] at hd
        exact hd
      clear hi
      rcases hc with ⟨rfl, rfl⟩ | ⟨rfl, rfl⟩ | ⟨rfl, rfl⟩ | ⟨rfl, rfl⟩ | ⟨rfl, rfl⟩ | ⟨rfl, rfl⟩ | ⟨rfl, rfl⟩ | ⟨rfl, rfl⟩ | ⟨rfl, rfl, rfl, rfl, rfl, rfl, rfl, rfl, rfl⟩
      · obtain ⟨W1, r1, F1, g1⟩ := hF.update 1 1 1 (f8z_1 b2 b3 b4 b5 b6 b7 b8) (by omega)
        rw [f8_1 b2 b3 b4 b5 b6 b7 b8] at F1
        have r2 : (Instr.mapUpdate 65 (.map (some w.heap.size)) (kv 1 1) (.int .i64 1)).run Try.prog w' = .ok () W1 := r1
        have L1 : Later w W1 := Later.of_below (hL.below.grown g1 hL.size (fun k e => by cases e; exact Nat.le_refl _))
        clear r1 hF hL g1
        refine wpOp_step rfl (fun K hK => ?_)
        go_simp
        exact hK _ _ (.inl ⟨true, b2, b3, b4, b5, b6, b7, b8, by simp only [off] at hf ⊢; simp at hf ⊢; omega, rfl, rfl, F1, L1⟩)
      · obtain ⟨W1, r1, F1, g1⟩ := hF.update 1 2 1 (f8z_2 b1 b3 b4 b5 b6 b7 b8) (by omega)
        rw [f8_2 b1 b3 b4 b5 b6 b7 b8] at F1
        have r2 : (Instr.mapUpdate 65 (.map (some w.heap.size)) (kv 1 2) (.int .i64 1)).run Try.prog w' = .ok () W1 := r1
        have L1 : Later w W1 := Later.of_below (hL.below.grown g1 hL.size (fun k e => by cases e; exact Nat.le_refl _))
        clear r1 hF hL g1
        refine wpOp_step rfl (fun K hK => ?_)
        go_simp
        exact hK _ _ (.inl ⟨b1, true, b3, b4, b5, b6, b7, b8, by simp only [off] at hf ⊢; simp at hf ⊢; omega, rfl, rfl, F1, L1⟩)
      · obtain ⟨W1, r1, F1, g1⟩ := hF.update 1 10 2 (f8z_3 b1 b2 b4 b5 b6 b7 b8) (by omega)
        rw [f8_3 b1 b2 b4 b5 b6 b7 b8] at F1
        have r2 : (Instr.mapUpdate 65 (.map (some w.heap.size)) (kv 1 10) (.int .i64 2)).run Try.prog w' = .ok () W1 := r1
        have L1 : Later w W1 := Later.of_below (hL.below.grown g1 hL.size (fun k e => by cases e; exact Nat.le_refl _))
        clear r1 hF hL g1
        refine wpOp_step rfl (fun K hK => ?_)
        go_simp
        exact hK _ _ (.inl ⟨b1, b2, true, b4, b5, b6, b7, b8, by simp only [off] at hf ⊢; simp at hf ⊢; omega, rfl, rfl, F1, L1⟩)
      · obtain ⟨W1, r1, F1, g1⟩ := hF.update 1 15 3 (f8z_4 b1 b2 b3 b5 b6 b7 b8) (by omega)
        rw [f8_4 b1 b2 b3 b5 b6 b7 b8] at F1
        have r2 : (Instr.mapUpdate 65 (.map (some w.heap.size)) (kv 1 15) (.int .i64 3)).run Try.prog w' = .ok () W1 := r1
        have L1 : Later w W1 := Later.of_below (hL.below.grown g1 hL.size (fun k e => by cases e; exact Nat.le_refl _))
        clear r1 hF hL g1
        refine wpOp_step rfl (fun K hK => ?_)
        go_simp
        exact hK _ _ (.inl ⟨b1, b2, b3, true, b5, b6, b7, b8, by simp only [off] at hf ⊢; simp at hf ⊢; omega, rfl, rfl, F1, L1⟩)
      · obtain ⟨W1, r1, F1, g1⟩ := hF.update 1 22 4 (f8z_5 b1 b2 b3 b4 b6 b7 b8) (by omega)
        rw [f8_5 b1 b2 b3 b4 b6 b7 b8] at F1
        have r2 : (Instr.mapUpdate 65 (.map (some w.heap.size)) (kv 1 22) (.int .i64 4)).run Try.prog w' = .ok () W1 := r1
        have L1 : Later w W1 := Later.of_below (hL.below.grown g1 hL.size (fun k e => by cases e; exact Nat.le_refl _))
        clear r1 hF hL g1
        refine wpOp_step rfl (fun K hK => ?_)
        go_simp
        exact hK _ _ (.inl ⟨b1, b2, b3, b4, true, b6, b7, b8, by simp only [off] at hf ⊢; simp at hf ⊢; omega, rfl, rfl, F1, L1⟩)
      · obtain ⟨W1, r1, F1, g1⟩ := hF.update 8 15 5 (f8z_6 b1 b2 b3 b4 b5 b7 b8) (by omega)
        rw [f8_6 b1 b2 b3 b4 b5 b7 b8] at F1
        have r2 : (Instr.mapUpdate 65 (.map (some w.heap.size)) (kv 8 15) (.int .i64 5)).run Try.prog w' = .ok () W1 := r1
        have L1 : Later w W1 := Later.of_below (hL.below.grown g1 hL.size (fun k e => by cases e; exact Nat.le_refl _))
        clear r1 hF hL g1
        refine wpOp_step rfl (fun K hK => ?_)
        go_simp
        exact hK _ _ (.inl ⟨b1, b2, b3, b4, b5, true, b7, b8, by simp only [off] at hf ⊢; simp at hf ⊢; omega, rfl, rfl, F1, L1⟩)
      · obtain ⟨W1, r1, F1, g1⟩ := hF.update 8 21 6 (f8z_7 b1 b2 b3 b4 b5 b6 b8) (by omega)
        rw [f8_7 b1 b2 b3 b4 b5 b6 b8] at F1
        have r2 : (Instr.mapUpdate 65 (.map (some w.heap.size)) (kv 8 21) (.int .i64 6)).run Try.prog w' = .ok () W1 := r1
        have L1 : Later w W1 := Later.of_below (hL.below.grown g1 hL.size (fun k e => by cases e; exact Nat.le_refl _))
        clear r1 hF hL g1
        refine wpOp_step rfl (fun K hK => ?_)
        go_simp
        exact hK _ _ (.inl ⟨b1, b2, b3, b4, b5, b6, true, b8, by simp only [off] at hf ⊢; simp at hf ⊢; omega, rfl, rfl, F1, L1⟩)
      · obtain ⟨W1, r1, F1, g1⟩ := hF.update 10 6 7 (f8z_8 b1 b2 b3 b4 b5 b6 b7) (by omega)
        rw [f8_8 b1 b2 b3 b4 b5 b6 b7] at F1
        have r2 : (Instr.mapUpdate 65 (.map (some w.heap.size)) (kv 10 6) (.int .i64 7)).run Try.prog w' = .ok () W1 := r1
        have L1 : Later w W1 := Later.of_below (hL.below.grown g1 hL.size (fun k e => by cases e; exact Nat.le_refl _))
        clear r1 hF hL g1
        refine wpOp_step rfl (fun K hK => ?_)
        go_simp
        exact hK _ _ (.inl ⟨b1, b2, b3, b4, b5, b6, b7, true, by simp only [off] at hf ⊢; simp at hf ⊢; omega, rfl, rfl, F1, L1⟩)
      · rw [f8_all] at hF
        refine wpOp_step rfl (fun K hK => ?_)
        go_simp
        exact hK _ _ (.inr (.inl ⟨by simp only [off] at hf; simp at hf; omega, rfl, rfl, hF, hL⟩))
    · obtain rfl : fuel = 0 := by omega
      have hc : i = 18 := by
        clear hf hF hL
        revert hi
        revert i
        decide +kernel
      subst hc
      refine wpOp_step rfl (fun K hK => ?_)
      go_simp
      exact hK _ _ (.inr (.inr ⟨rfl, rfl, rfl, hF, hL⟩))
    · omega
  case h0 =>
    rintro fuel listed a' w' (⟨b1, b2, b3, b4, b5, b6, b7, b8, hf, rfl, rfl, hF, hL⟩ | ⟨hf, rfl, rfl, hF, hL⟩ | ⟨hf, rfl, rfl, hF, hL⟩) hi
    · exfalso
      clear hf hF hL
      revert hi
      revert b1 b2 b3 b4 b5 b6 b7 b8
      decide +kernel
    · exfalso
      clear hf hF hL
      revert hi
      decide +kernel
    · clear hi hf
      cases ab with
      | false =>
        go_wp2
        go_ret
        exact ⟨rfl, hF, hL⟩
      | true =>
        obtain ⟨W1, r1, F1, g1⟩ := hF.update 1 16 3 (by simp [fk]) (by omega)
        obtain ⟨W2, r2, F2, g2⟩ := F1.update 1 23 4 (by simp [fk]) (by omega)
        obtain ⟨W3, r3, F3, g3⟩ := F2.update 8 16 5 (by simp [fk]) (by omega)
        obtain ⟨W4, r4, F4, g4⟩ := F3.update 8 22 6 (by simp [fk]) (by omega)
        obtain ⟨W5, r5, F5, g5⟩ := F4.update 10 7 7 (by simp [fk]) (by omega)
        have L1 : Later w W1 := Later.of_below (hL.below.grown g1 hL.size (fun k e => by cases e; exact Nat.le_refl _))
        have L2 : Later w W2 := Later.of_below (L1.below.grown g2 L1.size (fun k e => by cases e; exact Nat.le_refl _))
        have L3 : Later w W3 := Later.of_below (L2.below.grown g3 L2.size (fun k e => by cases e; exact Nat.le_refl _))
        have L4 : Later w W4 := Later.of_below (L3.below.grown g4 L3.size (fun k e => by cases e; exact Nat.le_refl _))
        have L5 : Later w W5 := Later.of_below (L4.below.grown g5 L4.size (fun k e => by cases e; exact Nat.le_refl _))
        have F6 : FMap W5 w.heap.size (fk true) := by
          rw [show fk true = _ from fk_true]
          exact F5
        clear F1 F2 F3 F4 F5 g1 g2 g3 g4 g5 hF hL L1 L2 L3 L4
        go_wp2
        go_ret
        exact ⟨rfl, F6, L5⟩

end Go.Proofs.Ytdoahnkjkbpdaaa.Feast
