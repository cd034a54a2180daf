/-
  Texts of mine, merged: each part says what it holds. Conditions: as each theorem states.
-/
import Derived.Laws.EntriesVeiled
import Derived.Test.YtmlnlkfdbbnkbaaGreatDoorM11

/- The program's map of the feasts' days, as it is made: its literal, whose stores come in whatever order, and what is stored behind it abroad. No condition. -/
namespace Go.Proofs.YtmlnlkfdbbnkbaaGreatDoor.Feast
set_option maxRecDepth 100000
open Go.ChangeShapes Go.WideShapes Go.ChangeAt Go.RowKit
open Go.Proofs.YtmlnlkfdbbnkbaaGreatDoor.Divs Go.Proofs.YtmlnlkfdbbnkbaaGreatDoor.Grow Go.Proofs.YtmlnlkfdbbnkbaaGreatDoor.Mol Go.Proofs.YtmlnlkfdbbnkbaaGreatDoor.Hebrew
open Go.Proofs.YtmlnlkfdbbnkbaaGreatDoor.Fe

/-- Whatever order is picked, an invariant over what has come up serves. -/
theorem wpAny_inv {P : Program} {md : Region.Mode} {ops : Array Oper} {Q : Exit → Act → World → Prop} (I : Nat → Array Bool → Act → World → Prop)
    (h0 : ∀ fuel listed a w, I fuel listed a w → Region.ready md ops listed = [] → Q .normal a w) (hz : ∀ listed a w, I 0 listed a w → Region.ready md ops listed = [])
    (hs : ∀ fuel listed a w i, I (fuel + 1) listed a w → i ∈ Region.ready md ops listed → wpOp P ops Q i (fun a' w' => I fuel (listed.setIfInBounds i true) a' w') a w) :
    ∀ fuel listed a w, I fuel listed a w → wpAny P md ops Q fuel listed a w := by
  intro fuel
  induction fuel with
  | zero => exact fun listed a w h => ⟨hz listed a w h, h0 _ _ _ _ h (hz listed a w h)⟩
  | succ fuel ih => exact fun listed a w h => ⟨fun e => h0 _ _ _ _ h e, fun i hi => wpOp_mono (fun a' w' h' => ih _ _ _ h') (hs _ _ _ _ i h hi)⟩

/-- What the map answers once these of its entries are stored. -/
def f8 (b1 b2 b3 b4 b5 b6 b7 b8 : Bool) (m d : Int) : Int := if b1 = true ∧ m = 1 ∧ d = 1 then 1 else if b2 = true ∧ m = 1 ∧ d = 2 then 1 else if b3 = true ∧ m = 1 ∧ d = 10 then 2 else if b4 = true ∧ m = 1 ∧ d = 15 then 3 else if b5 = true ∧ m = 1 ∧ d = 22 then 4 else if b6 = true ∧ m = 8 ∧ d = 15 then 5 else if b7 = true ∧ m = 8 ∧ d = 21 then 6 else if b8 = true ∧ m = 10 ∧ d = 6 then 7 else 0

def off (b : Bool) : Nat := if b then 0 else 1

def cb (b1 b2 b3 b4 b5 b6 b7 b8 : Bool) (i : Nat) : Bool := (i == 2 && !b1) || (i == 4 && !b2) || (i == 6 && !b3) || (i == 8 && !b4) || (i == 10 && !b5) || (i == 12 && !b6) || (i == 14 && !b7) || (i == 16 && !b8) || (i == 17 && b1 && b2 && b3 && b4 && b5 && b6 && b7 && b8)

theorem f8_all : f8 true true true true true true true true = fk false := by
  funext m d
  unfold f8 fk
  simp
  repeat' split
  all_goals omega

theorem f8_1 (b2 b3 b4 b5 b6 b7 b8 : Bool) : (fun m d => if m = 1 ∧ d = 1 then 1 else f8 false b2 b3 b4 b5 b6 b7 b8 m d) = f8 true b2 b3 b4 b5 b6 b7 b8 := by
  funext m d
  by_cases h : m = 1 ∧ d = 1
  · obtain ⟨rfl, rfl⟩ := h
    simp [f8]
  · simp [f8, h]

theorem f8z_1 (b2 b3 b4 b5 b6 b7 b8 : Bool) : f8 false b2 b3 b4 b5 b6 b7 b8 1 1 = 0 := by simp [f8]

theorem f8_2 (b1 b3 b4 b5 b6 b7 b8 : Bool) : (fun m d => if m = 1 ∧ d = 2 then 1 else f8 b1 false b3 b4 b5 b6 b7 b8 m d) = f8 b1 true b3 b4 b5 b6 b7 b8 := by
  funext m d
  by_cases h : m = 1 ∧ d = 2
  · obtain ⟨rfl, rfl⟩ := h
    simp [f8]
  · simp [f8, h]

theorem f8z_2 (b1 b3 b4 b5 b6 b7 b8 : Bool) : f8 b1 false b3 b4 b5 b6 b7 b8 1 2 = 0 := by simp [f8]

theorem f8_3 (b1 b2 b4 b5 b6 b7 b8 : Bool) : (fun m d => if m = 1 ∧ d = 10 then 2 else f8 b1 b2 false b4 b5 b6 b7 b8 m d) = f8 b1 b2 true b4 b5 b6 b7 b8 := by
  funext m d
  by_cases h : m = 1 ∧ d = 10
  · obtain ⟨rfl, rfl⟩ := h
    simp [f8]
  · simp [f8, h]

theorem f8z_3 (b1 b2 b4 b5 b6 b7 b8 : Bool) : f8 b1 b2 false b4 b5 b6 b7 b8 1 10 = 0 := by simp [f8]

theorem f8_4 (b1 b2 b3 b5 b6 b7 b8 : Bool) : (fun m d => if m = 1 ∧ d = 15 then 3 else f8 b1 b2 b3 false b5 b6 b7 b8 m d) = f8 b1 b2 b3 true b5 b6 b7 b8 := by
  funext m d
  by_cases h : m = 1 ∧ d = 15
  · obtain ⟨rfl, rfl⟩ := h
    simp [f8]
  · simp [f8, h]

theorem f8z_4 (b1 b2 b3 b5 b6 b7 b8 : Bool) : f8 b1 b2 b3 false b5 b6 b7 b8 1 15 = 0 := by simp [f8]

theorem f8_5 (b1 b2 b3 b4 b6 b7 b8 : Bool) : (fun m d => if m = 1 ∧ d = 22 then 4 else f8 b1 b2 b3 b4 false b6 b7 b8 m d) = f8 b1 b2 b3 b4 true b6 b7 b8 := by
  funext m d
  by_cases h : m = 1 ∧ d = 22
  · obtain ⟨rfl, rfl⟩ := h
    simp [f8]
  · simp [f8, h]

theorem f8z_5 (b1 b2 b3 b4 b6 b7 b8 : Bool) : f8 b1 b2 b3 b4 false b6 b7 b8 1 22 = 0 := by simp [f8]

theorem f8_6 (b1 b2 b3 b4 b5 b7 b8 : Bool) : (fun m d => if m = 8 ∧ d = 15 then 5 else f8 b1 b2 b3 b4 b5 false b7 b8 m d) = f8 b1 b2 b3 b4 b5 true b7 b8 := by
  funext m d
  by_cases h : m = 8 ∧ d = 15
  · obtain ⟨rfl, rfl⟩ := h
    simp [f8]
  · simp [f8, h]

theorem f8z_6 (b1 b2 b3 b4 b5 b7 b8 : Bool) : f8 b1 b2 b3 b4 b5 false b7 b8 8 15 = 0 := by simp [f8]

theorem f8_7 (b1 b2 b3 b4 b5 b6 b8 : Bool) : (fun m d => if m = 8 ∧ d = 21 then 6 else f8 b1 b2 b3 b4 b5 b6 false b8 m d) = f8 b1 b2 b3 b4 b5 b6 true b8 := by
  funext m d
  by_cases h : m = 8 ∧ d = 21
  · obtain ⟨rfl, rfl⟩ := h
    simp [f8]
  · simp [f8, h]

theorem f8z_7 (b1 b2 b3 b4 b5 b6 b8 : Bool) : f8 b1 b2 b3 b4 b5 b6 false b8 8 21 = 0 := by simp [f8]

theorem f8_8 (b1 b2 b3 b4 b5 b6 b7 : Bool) : (fun m d => if m = 10 ∧ d = 6 then 7 else f8 b1 b2 b3 b4 b5 b6 b7 false m d) = f8 b1 b2 b3 b4 b5 b6 b7 true := by
  funext m d
  by_cases h : m = 10 ∧ d = 6
  · obtain ⟨rfl, rfl⟩ := h
    simp [f8]
  · simp [f8, h]

theorem f8z_8 (b1 b2 b3 b4 b5 b6 b7 : Bool) : f8 b1 b2 b3 b4 b5 b6 b7 false 10 6 = 0 := by simp [f8]

theorem fk_true : fk true = (fun m d => if m = 10 ∧ d = 7 then 7 else if m = 8 ∧ d = 22 then 6 else if m = 8 ∧ d = 16 then 5 else if m = 1 ∧ d = 23 then 4 else if m = 1 ∧ d = 16 then 3 else fk false m d) := by
  funext m d
  by_cases h1 : m = 1
  · subst h1
    simp [fk]
    repeat' split
    all_goals omega
  · by_cases h8 : m = 8
    · subst h8
      simp [fk]
      repeat' split
      all_goals omega
    · by_cases h10 : m = 10
      · subst h10
        simp [fk]
        repeat' split
        all_goals omega
      · simp [fk, h1, h8, h10]

set_option maxRecDepth 100000 in
set_option maxHeartbeats 8000000 in
theorem feasts_any (ab : Bool) (w : World) : Calls Tryz.prog 89 #[.bool ab] w fun e w' => e = .returned (.map (some w.heap.size)) ∧ FMap w' w.heap.size (fk ab) ∧ Later w w' := by
  go_enter Tryz.func89, Tryz.ntmps89
  go_wp2
  refine wp_region_any (by kernel_rfl) ?_
  refine wpAny_take (i := 1) (v := kv 1 1) rfl (by kernel_rfl) (by kernel_rfl) (by kernel_rfl) (fun _ _ _ h => h) (Or.inl ⟨by rfl, by intro w; go_simp; rfl⟩) ?_
  refine wpAny_take (i := 3) (v := kv 1 2) rfl (by kernel_rfl) (by kernel_rfl) (by kernel_rfl) (fun _ _ _ h => h) (Or.inl ⟨by rfl, by intro w; go_simp; rfl⟩) ?_
  refine wpAny_take (i := 5) (v := kv 1 10) rfl (by kernel_rfl) (by kernel_rfl) (by kernel_rfl) (fun _ _ _ h => h) (Or.inl ⟨by rfl, by intro w; go_simp; rfl⟩) ?_
  refine wpAny_take (i := 7) (v := kv 1 15) rfl (by kernel_rfl) (by kernel_rfl) (by kernel_rfl) (fun _ _ _ h => h) (Or.inl ⟨by rfl, by intro w; go_simp; rfl⟩) ?_
  refine wpAny_take (i := 9) (v := kv 1 22) rfl (by kernel_rfl) (by kernel_rfl) (by kernel_rfl) (fun _ _ _ h => h) (Or.inl ⟨by rfl, by intro w; go_simp; rfl⟩) ?_
  refine wpAny_take (i := 11) (v := kv 8 15) rfl (by kernel_rfl) (by kernel_rfl) (by kernel_rfl) (fun _ _ _ h => h) (Or.inl ⟨by rfl, by intro w; go_simp; rfl⟩) ?_
  refine wpAny_take (i := 13) (v := kv 8 21) rfl (by kernel_rfl) (by kernel_rfl) (by kernel_rfl) (fun _ _ _ h => h) (Or.inl ⟨by rfl, by intro w; go_simp; rfl⟩) ?_
  refine wpAny_take (i := 15) (v := kv 10 6) rfl (by kernel_rfl) (by kernel_rfl) (by kernel_rfl) (fun _ _ _ h => h) (Or.inl ⟨by rfl, by intro w; go_simp; rfl⟩) ?_
  refine wpAny_ready (rs := [0]) (by kernel_rfl) (by simp) (AllReady.cons rfl (fun K hK => ?_) AllReady.nil)
  go_simp
  refine hK _ _ ?_
  clear hK K
  refine wpAny_inv (fun fuel listed a' w' =>
    (∃ b1 b2 b3 b4 b5 b6 b7 b8 : Bool, fuel = off b1 + off b2 + off b3 + off b4 + off b5 + off b6 + off b7 + off b8 + 2 ∧ listed = #[true, true, b1, true, b2, true, b3, true, b4, true, b5, true, b6, true, b7, true, b8, false, false] ∧ a' = { tmps := #[.bool ab, undef, .map none, undef, .map (some w.heap.size), kv 1 1, kv 1 2, kv 1 10, kv 1 15, kv 1 22, kv 8 15, kv 8 21, kv 10 6, undef, undef, undef, undef, undef, undef, undef, undef, undef, undef, undef, undef, undef], defers := [] } ∧ FMap w' w.heap.size (f8 b1 b2 b3 b4 b5 b6 b7 b8) ∧ Later w w') ∨
    (fuel = 1 ∧ listed = #[true, true, true, true, true, true, true, true, true, true, true, true, true, true, true, true, true, true, false] ∧ a' = { tmps := #[.bool ab, undef, .map none, undef, .map (some w.heap.size), kv 1 1, kv 1 2, kv 1 10, kv 1 15, kv 1 22, kv 8 15, kv 8 21, kv 10 6, .map (some w.heap.size), undef, undef, undef, undef, undef, undef, undef, undef, undef, undef, undef, undef], defers := [] } ∧ FMap w' w.heap.size (fk false) ∧ Later w w') ∨
    (fuel = 0 ∧ listed = #[true, true, true, true, true, true, true, true, true, true, true, true, true, true, true, true, true, true, true] ∧ a' = { tmps := #[.bool ab, undef, .map none, .map (some w.heap.size), .map (some w.heap.size), kv 1 1, kv 1 2, kv 1 10, kv 1 15, kv 1 22, kv 8 15, kv 8 21, kv 10 6, .map (some w.heap.size), undef, undef, undef, undef, undef, undef, undef, undef, undef, undef, undef, undef], defers := [] } ∧ FMap w' w.heap.size (fk false) ∧ Later w w')) ?h0 ?hz ?hs _ _ _ _ ?st
  case st => exact .inl ⟨false, false, false, false, false, false, false, false, rfl, rfl, rfl, (FMap.new w.drew).same rfl, (Later.refl w).put _⟩
  case hz =>
    rintro listed a' w' (⟨b1, b2, b3, b4, b5, b6, b7, b8, hf, _⟩ | ⟨hf, _⟩ | ⟨_, rfl, _⟩)
    · omega
    · omega
    · kernel_rfl
  case hs =>
    rintro fuel listed a' w' i (⟨b1, b2, b3, b4, b5, b6, b7, b8, hf, rfl, rfl, hF, hL⟩ | ⟨hf, rfl, rfl, hF, hL⟩ | ⟨hf, _⟩) hi
    · have hc : (i = 2 ∧ b1 = false) ∨ (i = 4 ∧ b2 = false) ∨ (i = 6 ∧ b3 = false) ∨ (i = 8 ∧ b4 = false) ∨ (i = 10 ∧ b5 = false) ∨ (i = 12 ∧ b6 = false) ∨ (i = 14 ∧ b7 = false) ∨ (i = 16 ∧ b8 = false) ∨ (i = 17 ∧ b1 = true ∧ b2 = true ∧ b3 = true ∧ b4 = true ∧ b5 = true ∧ b6 = true ∧ b7 = true ∧ b8 = true) := by
        have hd : cb b1 b2 b3 b4 b5 b6 b7 b8 i = true := by
          clear hf hF hL
          revert hi
          revert i
          revert b1 b2 b3 b4 b5 b6 b7 b8
          decide +kernel
        clear hi hf hF hL
        simp only [cb, Bool.or_eq_true, Bool.and_eq_true, beq_iff_eq, Bool.not_eq_true', and_assoc, or_assoc] at hd
        exact hd
      clear hi
      rcases hc with ⟨rfl, rfl⟩ | ⟨rfl, rfl⟩ | ⟨rfl, rfl⟩ | ⟨rfl, rfl⟩ | ⟨rfl, rfl⟩ | ⟨rfl, rfl⟩ | ⟨rfl, rfl⟩ | ⟨rfl, rfl⟩ | ⟨rfl, rfl, rfl, rfl, rfl, rfl, rfl, rfl, rfl⟩
      · obtain ⟨W1, r1, F1, g1⟩ := hF.update 1 1 1 (f8z_1 b2 b3 b4 b5 b6 b7 b8) (by omega)
        rw [f8_1 b2 b3 b4 b5 b6 b7 b8] at F1
        have r2 : (Instr.mapUpdate 135 (.map (some w.heap.size)) (kv 1 1) (.int .i64 1)).run Tryz.prog w' = .ok () W1 := r1
        have L1 : Later w W1 := Later.of_below (hL.below.grown g1 hL.size (fun k e => by cases e; exact Nat.le_refl _))
        clear r1 hF hL g1
        refine wpOp_step rfl (fun K hK => ?_)
        go_simp
        exact hK _ _ (.inl ⟨true, b2, b3, b4, b5, b6, b7, b8, by simp only [off] at hf ⊢; simp at hf ⊢; omega, rfl, rfl, F1, L1⟩)
      · obtain ⟨W1, r1, F1, g1⟩ := hF.update 1 2 1 (f8z_2 b1 b3 b4 b5 b6 b7 b8) (by omega)
        rw [f8_2 b1 b3 b4 b5 b6 b7 b8] at F1
        have r2 : (Instr.mapUpdate 135 (.map (some w.heap.size)) (kv 1 2) (.int .i64 1)).run Tryz.prog w' = .ok () W1 := r1
        have L1 : Later w W1 := Later.of_below (hL.below.grown g1 hL.size (fun k e => by cases e; exact Nat.le_refl _))
        clear r1 hF hL g1
        refine wpOp_step rfl (fun K hK => ?_)
        go_simp
        exact hK _ _ (.inl ⟨b1, true, b3, b4, b5, b6, b7, b8, by simp only [off] at hf ⊢; simp at hf ⊢; omega, rfl, rfl, F1, L1⟩)
      · obtain ⟨W1, r1, F1, g1⟩ := hF.update 1 10 2 (f8z_3 b1 b2 b4 b5 b6 b7 b8) (by omega)
        rw [f8_3 b1 b2 b4 b5 b6 b7 b8] at F1
        have r2 : (Instr.mapUpdate 135 (.map (some w.heap.size)) (kv 1 10) (.int .i64 2)).run Tryz.prog w' = .ok () W1 := r1
        have L1 : Later w W1 := Later.of_below (hL.below.grown g1 hL.size (fun k e => by cases e; exact Nat.le_refl _))
        clear r1 hF hL g1
        refine wpOp_step rfl (fun K hK => ?_)
        go_simp
        exact hK _ _ (.inl ⟨b1, b2, true, b4, b5, b6, b7, b8, by simp only [off] at hf ⊢; simp at hf ⊢; omega, rfl, rfl, F1, L1⟩)
      · obtain ⟨W1, r1, F1, g1⟩ := hF.update 1 15 3 (f8z_4 b1 b2 b3 b5 b6 b7 b8) (by omega)
        rw [f8_4 b1 b2 b3 b5 b6 b7 b8] at F1
        have r2 : (Instr.mapUpdate 135 (.map (some w.heap.size)) (kv 1 15) (.int .i64 3)).run Tryz.prog w' = .ok () W1 := r1
        have L1 : Later w W1 := Later.of_below (hL.below.grown g1 hL.size (fun k e => by cases e; exact Nat.le_refl _))
        clear r1 hF hL g1
        refine wpOp_step rfl (fun K hK => ?_)
        go_simp
        exact hK _ _ (.inl ⟨b1, b2, b3, true, b5, b6, b7, b8, by simp only [off] at hf ⊢; simp at hf ⊢; omega, rfl, rfl, F1, L1⟩)
      · obtain ⟨W1, r1, F1, g1⟩ := hF.update 1 22 4 (f8z_5 b1 b2 b3 b4 b6 b7 b8) (by omega)
        rw [f8_5 b1 b2 b3 b4 b6 b7 b8] at F1
        have r2 : (Instr.mapUpdate 135 (.map (some w.heap.size)) (kv 1 22) (.int .i64 4)).run Tryz.prog w' = .ok () W1 := r1
        have L1 : Later w W1 := Later.of_below (hL.below.grown g1 hL.size (fun k e => by cases e; exact Nat.le_refl _))
        clear r1 hF hL g1
        refine wpOp_step rfl (fun K hK => ?_)
        go_simp
        exact hK _ _ (.inl ⟨b1, b2, b3, b4, true, b6, b7, b8, by simp only [off] at hf ⊢; simp at hf ⊢; omega, rfl, rfl, F1, L1⟩)
      · obtain ⟨W1, r1, F1, g1⟩ := hF.update 8 15 5 (f8z_6 b1 b2 b3 b4 b5 b7 b8) (by omega)
        rw [f8_6 b1 b2 b3 b4 b5 b7 b8] at F1
        have r2 : (Instr.mapUpdate 135 (.map (some w.heap.size)) (kv 8 15) (.int .i64 5)).run Tryz.prog w' = .ok () W1 := r1
        have L1 : Later w W1 := Later.of_below (hL.below.grown g1 hL.size (fun k e => by cases e; exact Nat.le_refl _))
        clear r1 hF hL g1
        refine wpOp_step rfl (fun K hK => ?_)
        go_simp
        exact hK _ _ (.inl ⟨b1, b2, b3, b4, b5, true, b7, b8, by simp only [off] at hf ⊢; simp at hf ⊢; omega, rfl, rfl, F1, L1⟩)
      · obtain ⟨W1, r1, F1, g1⟩ := hF.update 8 21 6 (f8z_7 b1 b2 b3 b4 b5 b6 b8) (by omega)
        rw [f8_7 b1 b2 b3 b4 b5 b6 b8] at F1
        have r2 : (Instr.mapUpdate 135 (.map (some w.heap.size)) (kv 8 21) (.int .i64 6)).run Tryz.prog w' = .ok () W1 := r1
        have L1 : Later w W1 := Later.of_below (hL.below.grown g1 hL.size (fun k e => by cases e; exact Nat.le_refl _))
        clear r1 hF hL g1
        refine wpOp_step rfl (fun K hK => ?_)
        go_simp
        exact hK _ _ (.inl ⟨b1, b2, b3, b4, b5, b6, true, b8, by simp only [off] at hf ⊢; simp at hf ⊢; omega, rfl, rfl, F1, L1⟩)
      · obtain ⟨W1, r1, F1, g1⟩ := hF.update 10 6 7 (f8z_8 b1 b2 b3 b4 b5 b6 b7) (by omega)
        rw [f8_8 b1 b2 b3 b4 b5 b6 b7] at F1
        have r2 : (Instr.mapUpdate 135 (.map (some w.heap.size)) (kv 10 6) (.int .i64 7)).run Tryz.prog w' = .ok () W1 := r1
        have L1 : Later w W1 := Later.of_below (hL.below.grown g1 hL.size (fun k e => by cases e; exact Nat.le_refl _))
        clear r1 hF hL g1
        refine wpOp_step rfl (fun K hK => ?_)
        go_simp
        exact hK _ _ (.inl ⟨b1, b2, b3, b4, b5, b6, b7, true, by simp only [off] at hf ⊢; simp at hf ⊢; omega, rfl, rfl, F1, L1⟩)
      · rw [f8_all] at hF
        refine wpOp_step rfl (fun K hK => ?_)
        go_simp
        exact hK _ _ (.inr (.inl ⟨by simp only [off] at hf; simp at hf; omega, rfl, rfl, hF, hL⟩))
    · obtain rfl : fuel = 0 := by omega
      have hc : i = 18 := by
        clear hf hF hL
        revert hi
        revert i
        decide +kernel
      subst hc
      refine wpOp_step rfl (fun K hK => ?_)
      go_simp
      exact hK _ _ (.inr (.inr ⟨rfl, rfl, rfl, hF, hL⟩))
    · omega
  case h0 =>
    rintro fuel listed a' w' (⟨b1, b2, b3, b4, b5, b6, b7, b8, hf, rfl, rfl, hF, hL⟩ | ⟨hf, rfl, rfl, hF, hL⟩ | ⟨hf, rfl, rfl, hF, hL⟩) hi
    · exfalso
      clear hf hF hL
      revert hi
      revert b1 b2 b3 b4 b5 b6 b7 b8
      decide +kernel
    · exfalso
      clear hf hF hL
      revert hi
      decide +kernel
    · clear hi hf
      cases ab with
      | false =>
        go_wp2
        go_ret
        exact ⟨rfl, hF, hL⟩
      | true =>
        obtain ⟨W1, r1, F1, g1⟩ := hF.update 1 16 3 (by simp [fk]) (by omega)
        obtain ⟨W2, r2, F2, g2⟩ := F1.update 1 23 4 (by simp [fk]) (by omega)
        obtain ⟨W3, r3, F3, g3⟩ := F2.update 8 16 5 (by simp [fk]) (by omega)
        obtain ⟨W4, r4, F4, g4⟩ := F3.update 8 22 6 (by simp [fk]) (by omega)
        obtain ⟨W5, r5, F5, g5⟩ := F4.update 10 7 7 (by simp [fk]) (by omega)
        have L1 : Later w W1 := Later.of_below (hL.below.grown g1 hL.size (fun k e => by cases e; exact Nat.le_refl _))
        have L2 : Later w W2 := Later.of_below (L1.below.grown g2 L1.size (fun k e => by cases e; exact Nat.le_refl _))
        have L3 : Later w W3 := Later.of_below (L2.below.grown g3 L2.size (fun k e => by cases e; exact Nat.le_refl _))
        have L4 : Later w W4 := Later.of_below (L3.below.grown g4 L3.size (fun k e => by cases e; exact Nat.le_refl _))
        have L5 : Later w W5 := Later.of_below (L4.below.grown g5 L4.size (fun k e => by cases e; exact Nat.le_refl _))
        have F6 : FMap W5 w.heap.size (fk true) := by
          rw [show fk true = _ from fk_true]
          exact F5
        clear F1 F2 F3 F4 F5 g1 g2 g3 g4 g5 hF hL L1 L2 L3 L4
        go_wp2
        go_ret
        exact ⟨rfl, F6, L5⟩

end Go.Proofs.YtmlnlkfdbbnkbaaGreatDoor.Feast

/- A day's feast and whether it is one of rest, by the program: its questions, made as function values over a map, and who asks them. Conditions: the numbers are ints, as each theorem says. -/
namespace Go.Proofs.YtmlnlkfdbbnkbaaGreatDoor.Feast
set_option maxRecDepth 100000
open Go.ChangeShapes Go.WideShapes Go.ChangeAt Go.RowKit
open Go.Proofs.YtmlnlkfdbbnkbaaGreatDoor.Divs Go.Proofs.YtmlnlkfdbbnkbaaGreatDoor.Grow Go.Proofs.YtmlnlkfdbbnkbaaGreatDoor.Mol Go.Proofs.YtmlnlkfdbbnkbaaGreatDoor.Hebrew
open Go.Proofs.YtmlnlkfdbbnkbaaGreatDoor.Year (lh mh pt md mp p1 p2 po dl ny yl)
open Go.Proofs.YtmlnlkfdbbnkbaaGreatDoor.Heb (hd ha ups)
open Go.Proofs.YtmlnlkfdbbnkbaaGreatDoor.Fe

/-- Box b holds the map of the feasts' days. -/
def KB (w : World) (b : Nat) (ab : Bool) : Prop := ∃ c, w.cell? ⟨b, 0, none⟩ = some (.map (some c)) ∧ FMap w c (fk ab)

theorem KB.later {w w' : World} {b : Nat} {ab : Bool} (h : KB w b ab) (g : Later w w') : KB w' b ab := by
  obtain ⟨c, h1, h2⟩ := h
  exact ⟨c, gsome g h1, h2.later g⟩

theorem KB.lt {w : World} {b : Nat} {ab : Bool} (h : KB w b ab) : b < w.heap.size := by
  obtain ⟨c, h1, h2⟩ := h
  exact World.block_lt_of_cell? _ _ h1

/-- The question of a day's feast. -/
def kq (b : Nat) : Value := .func (.func 90) #[] #[.pointer (some ⟨b, 0, none⟩)]

theorem kinds_any (ab : Bool) (w : World) : Calls Tryz.prog 63 #[.bool ab] w fun e w' => ∃ b, e = .returned (.func (.func 90) #[] #[.pointer (some ⟨b, 0, none⟩)]) ∧ w.heap.size ≤ b ∧ KB w' b ab ∧ Later w w' := by
  have F := Lib.hid (fun W => feasts_any ab W)
  go_enter Tryz.func63, Tryz.ntmps63
  go_wp2_with fail
  refine (F.out _).mono ?_
  rintro e w1 ⟨rfl, hF, hg1⟩
  have HF := Lib.hid hF
  have HG := Lib.hid hg1
  clear hF hg1
  go_wp2_with fail
  go_ret
  refine ⟨w1.heap.size, rfl, HG.out.size, ⟨w.heap.size, ?_, HF.out.later ((Later.refl w1).put _)⟩, HG.out.put _⟩
  exact cell4 (Later.refl _) 0 rfl

theorem kinds1_any (y m d : Int) (b : Nat) (ab : Bool) (w : World) (h : KB w b ab) :
    Calls Tryz.prog 90 #[.agg #[.int .i64 y, .int .i64 m, .int .i64 d], .pointer (some ⟨b, 0, none⟩)] w fun e w' => e = .returned (.int .i64 (fk ab m d)) ∧ Later w w' := by
  obtain ⟨c, h1, h2⟩ := h
  have L1 := (Later.refl w).alloc #[.int .i64 y, .int .i64 m, .int .i64 d] 119
  have r := (h2.later L1).lookup m d
  have c1 := gsome L1 h1
  have HL := Lib.hid L1
  clear L1 h1 h2
  go_enter Tryz.func90, Tryz.ntmps90
  go_wp2_with fail
  go_ret
  exact ⟨rfl, HL.out⟩

theorem weekday_any (n : Int) (w : World) (h0 : -9223372036854775808 ≤ n) (h1 : n ≤ 9223372036854775807) : Calls Tryz.prog 66 #[.int .i64 n] w fun e w' => e = .returned (.int .i64 (n % 7)) ∧ ∃ k, w' = w.drewN k := by
  have M := Lib.hid (fun W => mod_yes n 7 W h0 h1 (by omega) (by omega))
  go_enter Tryz.func66, Tryz.ntmps66
  go_wp2_with fail
  refine (M.out _).mono ?_
  rintro e w1 ⟨rfl, k, rfl⟩
  go_wp2_with fail
  go_ret
  exact ⟨rfl, _, rfl⟩

/-- Box r holds the question of a day's feast. -/
def RB (w : World) (r : Nat) (ab : Bool) : Prop := ∃ b, w.cell? ⟨r, 0, none⟩ = some (.func (.func 90) #[] #[.pointer (some ⟨b, 0, none⟩)]) ∧ KB w b ab

theorem RB.later {w w' : World} {b : Nat} {ab : Bool} (h : RB w b ab) (g : Later w w') : RB w' b ab := by
  obtain ⟨c, h1, h2⟩ := h
  exact ⟨c, gsome g h1, h2.later g⟩

theorem RB.lt {w : World} {b : Nat} {ab : Bool} (h : RB w b ab) : b < w.heap.size := by
  obtain ⟨c, h1, h2⟩ := h
  exact World.block_lt_of_cell? _ _ h1

theorem rests_any (ab : Bool) (w : World) : Calls Tryz.prog 41 #[.bool ab] w fun e w' => ∃ r, e = .returned (.func (.func 64) #[] #[.pointer (some ⟨r, 0, none⟩)]) ∧ w.heap.size ≤ r ∧ RB w' r ab ∧ Later w w' := by
  have F := Lib.hid (fun W => kinds_any ab W)
  go_enter Tryz.func41, Tryz.ntmps41
  go_wp2_with fail
  refine (F.out _).mono ?_
  rintro e w1 ⟨b, rfl, hb, hF, hg1⟩
  have HF := Lib.hid hF
  have HG := Lib.hid hg1
  clear hF hg1
  go_wp2_with fail
  go_ret
  refine ⟨w1.heap.size, rfl, HG.out.size, ⟨b, ?_, HF.out.later ((Later.refl w1).put _)⟩, HG.out.put _⟩
  exact cell4 (Later.refl _) 0 rfl

theorem of_none (n : Int) (w : World) (h : n < ny 3762 ∨ ny 10000 ≤ n) : Calls Tryz.prog 65 #[.int .i64 n] w fun e w' => e = .returned (.tuple #[.agg #[.int .i64 0, .int .i64 0, .int .i64 0], .int .i64 41]) ∧ Later w w' := by
  by_cases h1 : n < ny 3762
  · exact of_early n w h1
  · exact of_late n w (by omega) (by omega)

theorem retbool {a b : Bool} (h : a = b) : Ending.returned (.bool a) = .returned (.bool b) := by rw [h]

set_option maxHeartbeats 1000000 in
theorem rests1_any (n : Int) (r : Nat) (ab : Bool) (w : World) (h0 : -9223372036854775808 ≤ n) (h1 : n ≤ 9223372036854775807) (hr : RB w r ab) :
    Calls Tryz.prog 64 #[.int .i64 n, .pointer (some ⟨r, 0, none⟩)] w fun e w' => e = .returned (.bool (rst ab n)) ∧ Later w w' := by
  have W7 := Lib.hid (fun W => weekday_any n W h0 h1)
  by_cases ho : n < ny 3762 ∨ ny 10000 ≤ n
  · have O := Lib.hid (fun W => of_none n W ho)
    have E := Lib.hid (show rst ab n = false from by rcases ho with x | x; exact rst_low ab n x; exact rst_high ab n x)
    clear ho
    go_enter Tryz.func64, Tryz.ntmps64
    go_wp2_with fail
    refine (O.out _).mono ?_
    rintro e w1 ⟨rfl, hg1⟩
    have HG := Lib.hid hg1
    clear hg1
    go_wp2_with fail
    go_ret
    exact ⟨retbool E.out.symm, HG.out.put _⟩
  · obtain ⟨h, m, y1, y2, a1, a2, m1, m2, g1, g2⟩ := dt_ex n (by omega) (by omega)
    have O := Lib.hid (fun W => of_yes n h m W y1 y2 a1 a2 m1 m2 g1 g2)
    have D := kd_dt ab n _ _ _ (dt_of n h m y1 y2 m1 m2 g1 g2)
    have E := Lib.hid (show rst ab n = (decide (n % 7 = 6) || decide (fk ab m (n - ny h - ha (yl h) (lh h) m + 1) ≠ 0)) from by unfold rst; rw [D, decide_eq_true (by omega)]; simp)
    obtain ⟨d, hd'⟩ : ∃ d, n - ny h - ha (yl h) (lh h) m + 1 = d := ⟨_, rfl⟩
    rw [hd'] at O E
    clear ho D hd' a1 a2 g1 g2 m1 m2 y1 y2
    by_cases hs : n % 7 = 6
    · rw [decide_eq_true hs, Bool.true_or] at E
      have t : (n % 7 == 6) = true := by simp [hs]
      clear hs
      go_enter Tryz.func64, Tryz.ntmps64
      go_wp2_with fail
      refine (O.out _).mono ?_
      rintro e w1 ⟨rfl, hg1⟩
      have HG := Lib.hid hg1
      clear hg1
      go_wp2_with fail
      refine (W7.out _).mono ?_
      rintro e w2 ⟨rfl, k, rfl⟩
      go_wp2_with fail
      go_ret
      exact ⟨retbool E.out.symm, HG.out.put _⟩
    · rw [decide_eq_false hs, Bool.false_or] at E
      have t : (n % 7 == 6) = false := by simp [hs]
      clear hs
      obtain ⟨b, hb, hk⟩ := hr
      have HB := Lib.hid hb
      have HK := Lib.hid hk
      clear hb hk
      go_enter Tryz.func64, Tryz.ntmps64
      go_wp2_with fail
      refine (O.out _).mono ?_
      rintro e w1 ⟨rfl, hg1⟩
      have HG := Lib.hid hg1
      have L1 := Lib.hid ((Later.refl w1).put (.cells #[.int .i64 h, .int .i64 m, .int .i64 d] 119))
      have cb := gsome (gtrans HG.out L1.out) HB.out
      clear hg1
      go_wp2_with fail
      refine (W7.out _).mono ?_
      rintro e w2 ⟨rfl, k, rfl⟩
      go_wp2_with fail
      refine (kinds1_any h m d b ab _ (HK.out.later (gtrans (gtrans HG.out L1.out) (later_drewN _ k)))).mono ?_
      rintro e w3 ⟨rfl, hg3⟩
      go_wp2_with fail
      go_ret
      refine ⟨retbool ?_, gtrans (gtrans (gtrans HG.out L1.out) (later_drewN _ k)) hg3⟩
      rw [E.out]
      by_cases z : fk ab m d = 0 <;> simp [z]

theorem rest_any (n : Int) (ab : Bool) (w : World) (h0 : -9223372036854775808 ≤ n) (h1 : n ≤ 9223372036854775807) :
    Calls Tryz.prog 170 #[.int .i64 n, .bool ab] w fun e w' => e = .returned (.bool (rst ab n)) ∧ Later w w' := by
  have F := Lib.hid (fun W => rests_any ab W)
  go_enter Tryz.func170, Tryz.ntmps170
  go_wp2_with fail
  refine (F.out _).mono ?_
  rintro e w1 ⟨r, rfl, _, hR, hg1⟩
  have HR := Lib.hid hR
  have HG := Lib.hid hg1
  clear hR hg1
  go_wp2_with fail
  refine (rests1_any n r ab _ h0 h1 HR.out).mono ?_
  rintro e w2 ⟨rfl, hg2⟩
  go_wp2_with fail
  go_ret
  exact ⟨rfl, gtrans HG.out hg2⟩

theorem kind_any (n : Int) (ab : Bool) (w : World) :
    Calls Tryz.prog 167 #[.int .i64 n, .bool ab] w fun e w' => e = .returned (.int .i64 (kd ab n)) ∧ Later w w' := by
  by_cases ho : n < ny 3762 ∨ ny 10000 ≤ n
  · have O := Lib.hid (fun W => of_none n W ho)
    have E := Lib.hid (kd_out ab n ho)
    clear ho
    go_enter Tryz.func167, Tryz.ntmps167
    go_wp2_with fail
    refine (O.out _).mono ?_
    rintro e w1 ⟨rfl, hg1⟩
    have HG := Lib.hid hg1
    clear hg1
    go_wp2_with fail
    go_ret
    exact ⟨ret1 E.out.symm, HG.out.put _⟩
  · obtain ⟨h, m, y1, y2, a1, a2, m1, m2, g1, g2⟩ := dt_ex n (by omega) (by omega)
    have O := Lib.hid (fun W => of_yes n h m W y1 y2 a1 a2 m1 m2 g1 g2)
    have E := Lib.hid (kd_dt ab n _ _ _ (dt_of n h m y1 y2 m1 m2 g1 g2))
    have F := Lib.hid (fun W => kinds_any ab W)
    obtain ⟨d, hd'⟩ : ∃ d, n - ny h - ha (yl h) (lh h) m + 1 = d := ⟨_, rfl⟩
    rw [hd'] at O E
    clear ho hd' a1 a2 g1 g2 m1 m2 y1 y2
    go_enter Tryz.func167, Tryz.ntmps167
    go_wp2_with fail
    refine (O.out _).mono ?_
    rintro e w1 ⟨rfl, hg1⟩
    have HG := Lib.hid hg1
    have L1 := Lib.hid ((Later.refl w1).put (.cells #[.int .i64 h, .int .i64 m, .int .i64 d] 119))
    clear hg1
    go_wp2_with fail
    refine (F.out _).mono ?_
    rintro e w2 ⟨b, rfl, _, hK, hg2⟩
    have c0 := cell4 hg2 0 rfl
    have c1 := cell4 hg2 1 rfl
    have c2 := cell4 hg2 2 rfl
    have HK := Lib.hid hK
    have HG2 := Lib.hid hg2
    clear hK hg2
    go_wp2_with fail
    refine (kinds1_any h m d b ab _ HK.out).mono ?_
    rintro e w3 ⟨rfl, hg3⟩
    go_wp2_with fail
    go_ret
    exact ⟨ret1 E.out.symm, gtrans (gtrans (gtrans HG.out L1.out) HG2.out) hg3⟩

end Go.Proofs.YtmlnlkfdbbnkbaaGreatDoor.Feast

/- The last day of rest in a row, by the program: its walk over days without an end, that the loop's body must leave. Conditions: the day lies among those that have Hebrew dates; the row's length is named ahead. -/
namespace Go.Proofs.YtmlnlkfdbbnkbaaGreatDoor.Feast
set_option maxRecDepth 100000
open Go.ChangeShapes Go.WideShapes Go.ChangeAt Go.RowKit Go.Shelf
open Go.Proofs.YtmlnlkfdbbnkbaaGreatDoor.Divs Go.Proofs.YtmlnlkfdbbnkbaaGreatDoor.Grow Go.Proofs.YtmlnlkfdbbnkbaaGreatDoor.Mol Go.Proofs.YtmlnlkfdbbnkbaaGreatDoor.Hebrew
open Go.Proofs.YtmlnlkfdbbnkbaaGreatDoor.Year (lh mh pt md mp p1 p2 po dl ny yl)
open Go.Proofs.YtmlnlkfdbbnkbaaGreatDoor.Fe

attribute [local go_sem] Oper.semAt_some

theorem beyond_any (n t : Int) (w : World) :
    Calls Tryz.prog 67 #[.int .i64 n, .int .i64 t] w fun e w' => e = .returned (.func (.func 96) #[] #[.pointer (some ⟨w.heap.size, 0, none⟩), .pointer (some ⟨w.heap.size + 1, 0, none⟩)]) ∧ w' = (w.alloc (.cells #[.int .i64 n] 3)).alloc (.cells #[.int .i64 t] 3) := by
  go_enter Tryz.func67, Tryz.ntmps67
  go_wp2
  go_ret
  exact ⟨rfl, rfl⟩

set_option maxRecDepth 100000 in
set_option maxHeartbeats 2000000 in
/-- The walk without an end: it ends where the body must leave ahead of the round N. -/
theorem beyond1_in (n : Nat) (hn : 1 ≤ n) (s t : Int) (ht : t = 1 ∨ t = -1) (s0 : -20000000 ≤ s) (s1 : s ≤ 20000000) (lo B C N : Nat) (N0 : N ≤ 40000000) (J : Nat → World → Prop) (Jx : World → Prop) (W : World)
    (hN : ∀ k W, J k W → k < N)
    (hc : ∀ k W, J k W → W.cell? ⟨B, 0, none⟩ = some (.int .i64 s) ∧ W.cell? ⟨C, 0, none⟩ = some (.int .i64 t))
    (hY : ∀ (k : Nat) W, J k W → YieldAt Fence.wide (n - 1) Tryz.prog lo #[.int .i64 (s + t * (k + 1))] W fun e W' => (e = .returned (.bool true) ∧ J (k + 1) W') ∨ (e = .returned (.bool false) ∧ Jx W'))
    (h0 : J 0 W) :
    CallsIn Fence.wide n Tryz.prog 96 #[.func (.yield lo) #[] #[], .pointer (some ⟨B, 0, none⟩), .pointer (some ⟨C, 0, none⟩)] W fun e W' => (∃ v, e = .returned v) ∧ Jx W' := by
  obtain ⟨c1, c2⟩ := hc 0 W h0
  have HC := Lib.hid hc
  have HN := Lib.hid hN
  have HY := Lib.hid hY
  have H0 := Lib.hid h0
  clear hc hN hY h0
  have e1 : wrap64 (s + t) = s + t * ((0 : Nat) + 1) := by
    rw [IntWalk.wrap64_in _ (by omega)]
    simp
  refine callsIn_of_wp Tryz.func96 rfl trivial ?_ rfl
  simp only [Tryz.ntmps96, List.size_toArray, List.length_cons, List.length_nil, Nat.reduceAdd, Nat.reduceSub, Array.replicate_succ, Array.replicate_zero, List.push_toArray, List.append_toArray, List.nil_append, List.cons_append]
  gi_wp2
  gi_loopw [4] (fun i wr => ∃ k : Nat, i = .int .i64 (s + t * (k + 1)) ∧ J k wr) (fun i _ => (N + 1 - (intOf i - s) * t).toNat)
  case atStart => exact ⟨0, by first | rfl | (rw [e1]) | (congr 1; simp), H0.out⟩
  case round =>
    obtain ⟨k, rfl, hJ⟩ := hrel
    have kN := HN.out k _ hJ
    obtain ⟨fn, tmps, assign, body, hy, hR⟩ := HY.out k _ hJ
    have HJ := Lib.hid hJ
    clear hJ c1 c2
    gi_wp2
    refine hR.mono ?_
    rintro e W3 (⟨rfl, hJ3⟩ | ⟨rfl, hJx3⟩)
    · obtain ⟨c1, c2⟩ := HC.out _ _ hJ3
      have b0 : -9223372036854775808 ≤ s + t * (k + 1) + t ∧ s + t * (k + 1) + t ≤ 9223372036854775807 := by rcases ht with rfl | rfl <;> omega
      gi_wp2
      go_roundw
      case rel => exact ⟨k + 1, by congr 1; rcases ht with rfl | rfl <;> (push_cast; omega), hJ3⟩
      case measure => simp [intOf]; rcases ht with rfl | rfl <;> omega
    · gi_wp2
      go_end0
      exact ⟨⟨_, rfl⟩, hJx3⟩

/-- A loop over an iterator, met at its start: the iterator is called with yield, the loop's record lies at the end. -/
theorem range_start {P : Program} {n : Nat} {g : Operand} {ps : Array Tmp} {assign body : Code} {Q : Exit → Act → World → Prop} {a : Act} {w : World} {gf : Nat} {lb : Array Value}
    (hg : a.eval g = .func (.func gf) #[] lb) (eg : ∀ args w, (callFunc gf args).run P w = .ok (.enter gf args) w)
    (h : ∀ L : Loop, L.state = .ready → L.pending = none → L.params = ps → L.tmps = a.tmps → L.assign = assign → L.body = body →
      CallsIn Fence.wide (n - 1) P gf (#[.func (.yield (w.heap.size + 1)) #[] #[]] ++ lb) ((w.alloc (.deferred (some []))).alloc (.loop L))
        (rangePost Fence.wide n P (w.heap.size + 1) Q { a with defers := { target := .collected w.heap.size, args := #[] } :: a.defers })) :
    (Code.rangeFunc g ps assign body).wpIn Fence.wide n P Q a w := by
  refine wpIn_rangeFunc fun fn _ => ?_
  obtain ⟨L, hL⟩ : ∃ L : Loop, L = { state := .ready, pending := none, fn, tmps := a.tmps, params := ps, assign, body, defers := w.heap.size } := ⟨_, rfl⟩
  have k := h L (by rw [hL]) (by rw [hL]) (by rw [hL]) (by rw [hL]) (by rw [hL]) (by rw [hL])
  have e := run_enterLoop_outer (P := P) (w := w) fn a.tmps ps assign body
  rw [← hL] at e
  refine ⟨w.heap.size + 1, [{ target := .collected w.heap.size, args := #[] }], (w.alloc (.deferred (some []))).alloc (.loop L), { target := .fn (.func gf) lb, args := #[.func (.yield (w.heap.size + 1)) #[] #[]] }, (w.alloc (.deferred (some []))).alloc (.loop L), gf, #[.func (.yield (w.heap.size + 1)) #[] #[]] ++ lb, (w.alloc (.deferred (some []))).alloc (.loop L), e, ?_, ?_, ?_, ?_, ?_⟩
  · simp only [resolve, hg]
    simp [go_sem]
  · exact fun _ _ => trivial
  · simp [invoke, go_sem, eg]
  · intro hx
    cases hx
  · simp only [List.cons_append, List.nil_append]
    exact k

/-- One round, out of the walks of what it assigns and of its body. -/
theorem yield_of {P : Program} {m l : Nat} {args : Array Value} {W : World} {R : Ending → World → Prop} {L : Loop} (hl : W.heap[l]? = some (.loop L)) (hn : args.size = L.params.size)
    (h : L.assign.wpIn (Fence.wide.inRound l) m P (Exit.then (fun a1 w1 => ∃ w2, (Instr.beginRound l).run P w1 = .ok () w2 ∧ L.body.wpIn (Fence.wide.inRound l) m P (roundPost P l R) a1 w2) (fun _ _ _ => False))
      { tmps := (L.params.zip args).foldl (fun tmps (t, a) => tmps.setIfInBounds t a) L.tmps, defers := [] } W) : YieldAt Fence.wide m P l args W R :=
  ⟨L.fn, _, L.assign, L.body, run_yield hl hn, roundIn_of_wpIn trivial h⟩

/-- What the loop over the days keeps between two rounds, k days of rest having come. -/
def LW (w : World) (n t : Int) (r k0 : Nat) (L : Loop) (k : Nat) (W : World) : Prop :=
  k ≤ k0 ∧ W.cell? ⟨w.heap.size, 0, none⟩ = some (.func (.func 64) #[] #[.pointer (some ⟨r, 0, none⟩)]) ∧
  W.heap[w.heap.size + 1]? = some (.cells #[.int .i64 (n + t * k)] 3 (0, 0)) ∧
  W.cell? ⟨w.heap.size + 1 + 1, 0, none⟩ = some (.int .i64 n) ∧ W.cell? ⟨w.heap.size + 1 + 1 + 1, 0, none⟩ = some (.int .i64 t) ∧
  W.heap[w.heap.size + 1 + 1 + 1 + 1]? = some (.deferred (some [])) ∧ W.heap[w.heap.size + 1 + 1 + 1 + 1 + 1]? = some (.loop L) ∧ Below w.heap.size w W

theorem LW.put {w : World} {n t : Int} {r k0 : Nat} {L L' : Loop} {k : Nat} {W : World} (h : LW w n t r k0 L k W) : LW w n t r k0 L' k (W.putObj (w.heap.size + 1 + 1 + 1 + 1 + 1) (.loop L')) := by
  obtain ⟨x0, x1, x2, x3, x4, x5, x6, x7⟩ := h
  have o : ∀ b, b ≠ w.heap.size + 1 + 1 + 1 + 1 + 1 → (W.putObj (w.heap.size + 1 + 1 + 1 + 1 + 1) (.loop L')).heap[b]? = W.heap[b]? := fun b hb => World.putObj_heap_other (by omega)
  refine ⟨x0, (World.cell?_of_block (o _ (by dsimp only; omega))).trans x1, (o _ (by omega)).trans x2, (World.cell?_of_block (o _ (by dsimp only; omega))).trans x3, (World.cell?_of_block (o _ (by dsimp only; omega))).trans x4, (o _ (by omega)).trans x5, World.putObj_heap_same (Array.getElem?_eq_some_iff.1 x6).1, ?_⟩
  exact belowK_b (w := w) (Nat.le_refl _) W _ _ _ (by omega) x6 rfl rfl |> x7.trans

theorem LW.later {w : World} {n t : Int} {r k0 : Nat} {L : Loop} {k : Nat} {W W' : World} (h : LW w n t r k0 L k W) (g : Later W W') : LW w n t r k0 L k W' := by
  obtain ⟨x0, x1, x2, x3, x4, x5, x6, x7⟩ := h
  have o : ∀ b v, W.heap[b]? = some v → W'.heap[b]? = some v := fun b v e => (g.2.2.2 b (Array.getElem?_eq_some_iff.1 e).1).trans e
  exact ⟨x0, gsome g x1, o _ _ x2, gsome g x3, gsome g x4, o _ _ x5, o _ _ x6, x7.trans (g.below.mono x7.size)⟩

theorem LW.step {w : World} {n t : Int} {r k0 : Nat} {L : Loop} {k : Nat} {W : World} (h : LW w n t r k0 L k W) (hk : k < k0) : LW w n t r k0 L (k + 1) (W.setCell ⟨w.heap.size + 1, 0, none⟩ (.int .i64 (n + t * (k + 1)))) := by
  obtain ⟨x0, x1, x2, x3, x4, x5, x6, x7⟩ := h
  have o : ∀ b, b ≠ w.heap.size + 1 → (W.setCell ⟨w.heap.size + 1, 0, none⟩ (.int .i64 (n + t * (k + 1)))).heap[b]? = W.heap[b]? := fun b hb => Below.heap_setCell _ _ _ _ hb
  refine ⟨hk, (World.cell?_of_block (o _ (by dsimp only; omega))).trans x1, ?_, (World.cell?_of_block (o _ (by dsimp only; omega))).trans x3, (World.cell?_of_block (o _ (by dsimp only; omega))).trans x4, (o _ (by omega)).trans x5, (o _ (by omega)).trans x6, x7.setCell (by simp) _⟩
  have z := Boxed.set (.int .i64 (n + t * (k + 1))) (show Boxed W (w.heap.size + 1) 3 _ from x2)
  push_cast
  exact z

set_option maxRecDepth 100000 in
set_option maxHeartbeats 4000000 in
theorem lastwhile_any (n t : Int) (k0 r : Nat) (ab : Bool) (w : World) (ht : t = 1 ∨ t = -1) (n0 : ny 3762 ≤ n) (n1 : n < ny 10000)
    (hk : ∀ i : Nat, 1 ≤ i → i ≤ k0 → rst ab (n + t * i) = true) (hz : rst ab (n + t * (k0 + 1)) = false) (hr : RB w r ab) :
    Calls Tryz.prog 42 #[.func (.func 64) #[] #[.pointer (some ⟨r, 0, none⟩)], .int .i64 n, .int .i64 t] w fun e w' => e = .returned (.int .i64 (n + t * k0)) ∧ Later w w' := by
  have b1 := Year.ny_bd 3762 (by omega) (by omega)
  have b2 := Year.ny_bd 10000 (by omega) (by omega)
  have kb : k0 ≤ 30000000 := by
    by_cases c : k0 = 0
    · omega
    · have := (rst_iff ab _).1 (hk k0 (by omega) (Nat.le_refl _))
      rcases ht with rfl | rfl <;> omega
  have HK := Lib.hid hk
  have HZ := Lib.hid hz
  have HR := Lib.hid hr
  have NB := Lib.hid (show -10000000 ≤ n ∧ n ≤ 10000000 by omega)
  have M := Lib.hid (fun W => beyond_any n t W)
  clear hk hz hr n0 n1 b1 b2
  refine (callsIn_wide (n := 5)).1 ?_
  refine callsIn_of_wp_marks Tryz.func42 rfl trivial ?_ rfl
  simp only [Tryz.ntmps42, List.size_toArray, List.length_cons, List.length_nil, Nat.reduceAdd, Nat.reduceSub, Array.replicate_succ, Array.replicate_zero, List.push_toArray, List.append_toArray, List.nil_append, List.cons_append]
  gi_wp2_with (refine ⟨trivial, ?_⟩; gi_at_call 67; refine (callsIn_wide.2 (M.out _)).mono ?_; rintro e w1 ⟨rfl, rfl⟩)
  obtain ⟨W0, hW0⟩ : ∃ W0, ((((w.alloc (.cells #[.func (.func 64) #[] #[.pointer (some ⟨r, 0, none⟩)]] 52)).alloc (.cells #[.int .i64 n] 3)).alloc (.cells #[.int .i64 n] 3)).alloc (.cells #[.int .i64 t] 3)) = W0 := ⟨_, rfl⟩
  have hs0 : W0.heap.size = w.heap.size + 1 + 1 + 1 + 1 := by rw [← hW0]; simp
  have hB0 : Below w.heap.size w W0 := by
    rw [← hW0]
    exact ((((Below.refl _ w).alloc (Nat.le_refl _) _).alloc (by simp) _).alloc (by simp; omega) _).alloc (by simp; omega) _
  have l3 : Later ((((w.alloc (.cells #[.func (.func 64) #[] #[.pointer (some ⟨r, 0, none⟩)]] 52)).alloc (.cells #[.int .i64 n] 3)).alloc (.cells #[.int .i64 n] 3)).alloc (.cells #[.int .i64 t] 3)) W0 := by rw [hW0]; exact Later.refl _
  have l2 := gtrans ((Later.refl (((w.alloc (.cells #[.func (.func 64) #[] #[.pointer (some ⟨r, 0, none⟩)]] 52)).alloc (.cells #[.int .i64 n] 3)).alloc (.cells #[.int .i64 n] 3))).put (.cells #[.int .i64 t] 3)) l3
  have l1 := gtrans ((Later.refl ((w.alloc (.cells #[.func (.func 64) #[] #[.pointer (some ⟨r, 0, none⟩)]] 52)).alloc (.cells #[.int .i64 n] 3))).put (.cells #[.int .i64 n] 3)) l2
  have l0 := gtrans ((Later.refl (w.alloc (.cells #[.func (.func 64) #[] #[.pointer (some ⟨r, 0, none⟩)]] 52))).put (.cells #[.int .i64 n] 3)) l1
  have hq : ∀ L : Loop, LW w n t r k0 L 0 ((W0.alloc (.deferred (some []))).alloc (.loop L)) := by
    intro L
    have g1 : Later W0 ((W0.alloc (.deferred (some []))).alloc (.loop L)) := ((Later.refl W0).put _).put _
    refine ⟨Nat.zero_le _, cell4 (gtrans l0 g1) 0 rfl, ?_, cellN (gtrans l2 g1) (by simp) 0 rfl, cellN (gtrans l3 g1) (by simp) 0 rfl, ?_, ?_, ?_⟩
    · have := heap_late (gtrans l1 g1)
      simp only [World.size_alloc] at this
      simpa using this
    · rw [← hs0]
      exact (Below.heap_alloc _ _ _ (by simp)).trans (World.alloc_heap_new W0 _)
    · rw [← hs0]
      have := World.alloc_heap_new (W0.alloc (.deferred (some []))) (.loop L)
      rwa [World.size_alloc] at this
    · exact hB0.trans (g1.below.mono hB0.size)
  rw [hW0]
  clear hW0 l0 l1 l2 l3 hB0
  refine range_start (gf := 96) rfl (enters_of Tryz.func96 (by kernel_rfl) rfl) ?_
  intro L h1 h2 h3 h4 h5 h6
  have HQ := Lib.hid (hq L)
  clear hq
  rw [hs0]
  have step : ∀ (k : Nat) W, LW w n t r k0 L k W → YieldAt Fence.wide (5 - 1 - 1) Tryz.prog (w.heap.size + 1 + 1 + 1 + 1 + 1) #[.int .i64 (n + t * (k + 1))] W fun e W' =>
      (e = .returned (.bool true) ∧ LW w n t r k0 L (k + 1) W') ∨ (e = .returned (.bool false) ∧ ∃ L' : Loop, L'.state ≠ .busy ∧ L'.pending = some (.exit 0) ∧ LW w n t r k0 L' k0 W') := by
    intro k W hW
    refine yield_of hW.2.2.2.2.2.2.1 (by rw [h3]; rfl) ?_
    rw [h3, h4, h5, h6]
    have H1 := Lib.hid h1
    have H2 := Lib.hid h2
    have HW := Lib.hid hW
    clear h1 h2 h3 h4 h5 h6 hW HQ M
    gi_wp2
    refine ⟨_, run_beginRound HW.out.2.2.2.2.2.2.1 H1.out, ?_⟩
    obtain ⟨Wb, hWb⟩ : ∃ Wb, W.putObj (w.heap.size + 1 + 1 + 1 + 1 + 1) (.loop { L with state := .busy }) = Wb := ⟨_, rfl⟩
    rw [hWb]
    have HV := Lib.hid (show LW w n t r k0 { L with state := .busy } k Wb from hWb ▸ HW.out.put)
    clear hWb
    have hb := NB.out
    have kk := HV.out.1
    have db : -9223372036854775808 ≤ n + t * (k + 1) ∧ n + t * (k + 1) ≤ 9223372036854775807 := by rcases ht with rfl | rfl <;> omega
    have R := Lib.hid (rests1_any (n + t * (k + 1)) r ab Wb db.1 db.2 (HR.out.later (Later.of_below HV.out.2.2.2.2.2.2.2)))
    have c0 := HV.out.2.1
    by_cases hk : k < k0
    · have E := HK.out (k + 1) (by omega) (by omega)
      push_cast at E
      rw [E] at R
      clear E db hb kk
      gi_wp2_with (refine ⟨trivial, ?_⟩; gi_at_call 64; refine (CallsIn.inRound _ (callsIn_wide.2 R.out)).mono ?_; rintro e w3 ⟨rfl, hg3⟩; have HX := Lib.hid (HV.out.later hg3); have c1 := (show Boxed w3 (w.heap.size + 1) 3 _ from HX.out.2.2.1).cell; have f1 := (show Boxed w3 (w.heap.size + 1) 3 _ from HX.out.2.2.1).frozen; clear hg3 c0)
      refine ⟨_, _, run_endRound none ((HX.out.step hk).2.2.2.2.2.2.1), .inl ⟨rfl, ?_⟩⟩
      have := (HX.out.step hk).put (L' := L)
      have e : ({ { L with state := .busy } with state := if (none : Option Code).isNone then .ready else .done, pending := none } : Loop) = L := by
        have a1 := H1.out
        have a2 := H2.out
        cases L
        simp_all
      rw [e]
      exact this
    · obtain rfl : k = k0 := by omega
      rw [HZ.out] at R
      clear db hb kk
      gi_wp2_with (refine ⟨trivial, ?_⟩; gi_at_call 64; refine (CallsIn.inRound _ (callsIn_wide.2 R.out)).mono ?_; rintro e w3 ⟨rfl, hg3⟩; have HX := Lib.hid (HV.out.later hg3); clear hg3 c0)
      refine ⟨_, _, run_endRound (some (.exit 0)) HX.out.2.2.2.2.2.2.1, .inr ⟨rfl, _, ?_, ?_, HX.out.put⟩⟩
      · simp
      · rfl
  have STEP := Lib.hid step
  clear step
  have hb := NB.out
  refine (beyond1_in (5 - 1) (by omega) n t ht (by omega) (by omega) (w.heap.size + 1 + 1 + 1 + 1 + 1) (w.heap.size + 1 + 1) (w.heap.size + 1 + 1 + 1) (k0 + 1) (by omega) (LW w n t r k0 L) (fun W' => ∃ L' : Loop, L'.state ≠ .busy ∧ L'.pending = some (.exit 0) ∧ LW w n t r k0 L' k0 W') _
    (fun k W h => by have := h.1; omega) (fun k W h => ⟨h.2.2.2.1, h.2.2.2.2.1⟩) STEP.out HQ.out).mono ?_
  clear STEP HQ h1 h2 h3 h4 h5 h6
  rintro e W2 ⟨⟨v, rfl⟩, L', p1, p2, hX⟩
  refine ⟨_, _, run_endLoop hX.2.2.2.2.2.2.1 p1, ?_⟩
  obtain ⟨W3, hW3⟩ : ∃ W3, W2.putObj (w.heap.size + 1 + 1 + 1 + 1 + 1) (.loop { L' with state := .exhausted }) = W3 := ⟨_, rfl⟩
  rw [hW3, p2]
  have HV := Lib.hid (show LW w n t r k0 { L' with state := .exhausted } k0 W3 from hW3 ▸ hX.put)
  clear hW3 hX p1 p2
  have c1 := (show Boxed W3 (w.heap.size + 1) 3 _ from HV.out.2.2.1).cell
  show (Code.exit 0).wpIn Fence.wide 5 Tryz.prog _ _ W3
  gi_wp2
  refine ⟨by simp, .inl ⟨_, _, rfl, run_takeDeferred HV.out.2.2.2.2.2.1, ?_⟩⟩
  exact ⟨_, results_tmp rfl _ _ _, rfl, Later.of_below (HV.out.2.2.2.2.2.2.2.trans (belowK_b (w := w) (Nat.le_refl _) W3 _ _ _ (by omega) HV.out.2.2.2.2.2.1 rfl rfl))⟩

/-- The days of rest that touch day n. -/
def Row (ab : Bool) (n a b : Int) : Prop := a ≤ n ∧ n ≤ b ∧ (∀ d, a ≤ d → d ≤ b → rst ab d = true) ∧ rst ab (a - 1) = false ∧ rst ab (b + 1) = false

theorem row_len (ab : Bool) (n a b : Int) (h : Row ab n a b) : b - a ≤ 2 := by
  obtain ⟨h1, h2, h3, h4, h5⟩ := h
  by_cases c : b - a ≤ 2
  · exact c
  · exfalso
    exact no_four ab a (h3 _ (by omega) (by omega)) (h3 _ (by omega) (by omega)) (h3 _ (by omega) (by omega)) (h3 _ (by omega) (by omega))

theorem row_one (ab : Bool) (n n' a b a' b' : Int) (h : Row ab n a b) (h' : Row ab n' a' b') (x1 : a ≤ n') (x2 : n' ≤ b) : a' = a ∧ b' = b := by
  obtain ⟨h1, h2, h3, h4, h5⟩ := h
  obtain ⟨k1, k2, k3, k4, k5⟩ := h'
  refine ⟨?_, ?_⟩
  · by_cases c : a' < a
    · have := k3 (a - 1) (by omega) (by omega)
      rw [h4] at this
      cases this
    · by_cases c' : a < a'
      · have := h3 (a' - 1) (by omega) (by omega)
        rw [k4] at this
        cases this
      · omega
  · by_cases c : b < b'
    · have := k3 (b + 1) (by omega) (by omega)
      rw [h5] at this
      cases this
    · by_cases c' : b' < b
      · have := h3 (b' + 1) (by omega) (by omega)
        rw [k5] at this
        cases this
      · omega

theorem row_ex (ab : Bool) (n : Int) (h : rst ab n = true) : ∃ a b, Row ab n a b := by
  have up : ∃ b, n ≤ b ∧ (∀ d, n ≤ d → d ≤ b → rst ab d = true) ∧ rst ab (b + 1) = false := by
    cases e1 : rst ab (n + 1)
    · exact ⟨n, by omega, fun d _ _ => by rw [show d = n by omega]; exact h, e1⟩
    · cases e2 : rst ab (n + 2)
      · refine ⟨n + 1, by omega, fun d _ _ => ?_, by rw [show n + 1 + 1 = n + 2 by omega]; exact e2⟩
        rcases (show d = n ∨ d = n + 1 by omega) with rfl | rfl <;> assumption
      · cases e3 : rst ab (n + 3)
        · refine ⟨n + 2, by omega, fun d _ _ => ?_, by rw [show n + 2 + 1 = n + 3 by omega]; exact e3⟩
          rcases (show d = n ∨ d = n + 1 ∨ d = n + 2 by omega) with rfl | rfl | rfl <;> assumption
        · exact (no_four ab n h e1 e2 e3).elim
  have down : ∃ a, a ≤ n ∧ (∀ d, a ≤ d → d ≤ n → rst ab d = true) ∧ rst ab (a - 1) = false := by
    cases e1 : rst ab (n - 1)
    · exact ⟨n, by omega, fun d _ _ => by rw [show d = n by omega]; exact h, e1⟩
    · cases e2 : rst ab (n - 2)
      · refine ⟨n - 1, by omega, fun d _ _ => ?_, by rw [show n - 1 - 1 = n - 2 by omega]; exact e2⟩
        rcases (show d = n ∨ d = n - 1 by omega) with rfl | rfl <;> assumption
      · cases e3 : rst ab (n - 3)
        · refine ⟨n - 2, by omega, fun d _ _ => ?_, by rw [show n - 2 - 1 = n - 3 by omega]; exact e3⟩
          rcases (show d = n ∨ d = n - 1 ∨ d = n - 2 by omega) with rfl | rfl | rfl <;> assumption
        · exact (no_four ab (n - 3) e3 (by rw [show n - 3 + 1 = n - 2 by omega]; exact e2) (by rw [show n - 3 + 2 = n - 1 by omega]; exact e1) (by rw [show n - 3 + 3 = n by omega]; exact h)).elim
  obtain ⟨b, b1, b2, b3⟩ := up
  obtain ⟨a, a1, a2, a3⟩ := down
  refine ⟨a, b, a1, b1, fun d d1 d2 => ?_, a3, b3⟩
  by_cases c : d ≤ n
  · exact a2 d d1 c
  · exact b2 d (by omega) d2

theorem run_no (n : Int) (ab : Bool) (w : World) (h0 : -9223372036854775808 ≤ n) (h1 : n ≤ 9223372036854775807) (h : rst ab n = false) :
    Calls Tryz.prog 21 #[.int .i64 n, .bool ab] w fun e w' => e = .returned (.tuple #[.int .i64 0, .int .i64 0, .int .i64 51]) ∧ Later w w' := by
  have F := Lib.hid (fun W => rests_any ab W)
  have H := Lib.hid h
  clear h
  go_enter Tryz.func21, Tryz.ntmps21
  go_wp2_with fail
  refine (F.out _).mono ?_
  rintro e w1 ⟨r, rfl, _, hR, hg1⟩
  have HR := Lib.hid hR
  have HG := Lib.hid hg1
  clear hR hg1
  go_wp2_with fail
  have R := rests1_any n r ab w1 h0 h1 HR.out
  rw [H.out] at R
  refine R.mono ?_
  rintro e w2 ⟨rfl, hg2⟩
  go_wp2_with fail
  go_ret3
  exact ⟨rfl, gtrans HG.out hg2⟩

set_option maxHeartbeats 1000000 in
theorem run_yes (n a b : Int) (ab : Bool) (w : World) (h : Row ab n a b) :
    Calls Tryz.prog 21 #[.int .i64 n, .bool ab] w fun e w' => e = .returned (.tuple #[.int .i64 a, .int .i64 b, .int .i64 0]) ∧ Later w w' := by
  have F := Lib.hid (fun W => rests_any ab W)
  have rl := row_len ab n a b h
  obtain ⟨x1, x2, x3, x4, x5⟩ := h
  have hn := x3 n x1 x2
  obtain ⟨n0, n1, _⟩ := (rst_iff ab n).1 hn
  have b1 := Year.ny_bd 3762 (by omega) (by omega)
  have b2 := Year.ny_bd 10000 (by omega) (by omega)
  obtain ⟨i, hi⟩ : ∃ i : Nat, (i : Int) = n - a := ⟨(n - a).toNat, by omega⟩
  obtain ⟨j, hj⟩ : ∃ j : Nat, (j : Int) = b - n := ⟨(b - n).toNat, by omega⟩
  have D := Lib.hid (fun r W (hW : RB W r ab) => lastwhile_any n (-1) i r ab W (.inr rfl) n0 n1 (fun q q1 q2 => x3 _ (by omega) (by omega)) (by rw [show n + -1 * ((i : Int) + 1) = a - 1 by omega]; exact x4) hW)
  have U := Lib.hid (fun r W (hW : RB W r ab) => lastwhile_any n 1 j r ab W (.inl rfl) n0 n1 (fun q q1 q2 => x3 _ (by omega) (by omega)) (by rw [show n + 1 * ((j : Int) + 1) = b + 1 by omega]; exact x5) hW)
  rw [show n + -1 * (i : Int) = a by omega] at D
  rw [show n + 1 * (j : Int) = b by omega] at U
  have R := Lib.hid (fun r W (hW : RB W r ab) => rests1_any n r ab W (by omega) (by omega) hW)
  rw [hn] at R
  clear x1 x2 x3 x4 x5 hn n0 n1 b1 b2 hi hj rl
  go_enter Tryz.func21, Tryz.ntmps21
  go_wp2_with fail
  refine (F.out _).mono ?_
  rintro e w1 ⟨r, rfl, _, hR, hg1⟩
  have HR := Lib.hid hR
  have HG := Lib.hid hg1
  clear hR hg1
  go_wp2_with fail
  refine (R.out r _ HR.out).mono ?_
  rintro e w2 ⟨rfl, hg2⟩
  have HG2 := Lib.hid hg2
  clear hg2
  go_wp2_with fail
  refine (D.out r _ (HR.out.later HG2.out)).mono ?_
  rintro e w3 ⟨rfl, hg3⟩
  have HG3 := Lib.hid hg3
  clear hg3
  go_wp2_with fail
  refine (U.out r _ (HR.out.later (gtrans HG2.out HG3.out))).mono ?_
  rintro e w4 ⟨rfl, hg4⟩
  go_wp2_with fail
  go_ret3
  exact ⟨rfl, gtrans (gtrans (gtrans HG.out HG2.out) HG3.out) hg4⟩

end Go.Proofs.YtmlnlkfdbbnkbaaGreatDoor.Feast

/- Plain facts on windows' spans, in whole numbers: on which days they begin, from when up to when they are; the sunset's bounds; the last one of days of rest that touch. No condition but those that each theorem states. -/
namespace Go.Proofs.YtmlnlkfdbbnkbaaGreatDoor.Win
set_option maxRecDepth 100000
open Go.Proofs.YtmlnlkfdbbnkbaaGreatDoor.Cal (dm yr om od)
open Go.Proofs.YtmlnlkfdbbnkbaaGreatDoor.Zo
open Go.Proofs.YtmlnlkfdbbnkbaaGreatDoor.Su (okM sk sk_ok sa ta tb date_bd)
open Go.Proofs.YtmlnlkfdbbnkbaaGreatDoor.Fe (kd rst no_four)
open Go.Proofs.YtmlnlkfdbbnkbaaGreatDoor.Feast (Row row_len)
open Go.Proofs.YtmlnlkfdbbnkbaaGreatDoor.Cf (Cg Wn ce wo)

/-- A sunset lies within the table's bounds. -/
theorem sa_in (s : Nat → Int) (n : Int) (h : sk s = 0) (h1 : 1 ≤ n) (h2 : n ≤ 3652059) : 900 ≤ sa s n ∧ sa s n ≤ 1320 := by
  obtain ⟨hm, _⟩ := (sk_ok s).1 h
  obtain ⟨a, b, c, d, e, f⟩ := date_bd n h1 h2
  have g := Cal.dm_bd (yr n) (om n) a b c d
  have i0 := hm ((om n).toNat - 1) (by omega)
  have i1 := hm ((om n).toNat % 12) (by omega)
  unfold sa ta tb
  generalize s ((om n).toNat % 12) = y at *
  generalize s ((om n).toNat - 1) = x at *
  generalize ho : od n - 1 = o at *
  generalize dm (yr n) (om n) = q at *
  have o0 : 0 ≤ o := by omega
  have o1 : o ≤ q := by omega
  clear h hm a b c d e f ho
  by_cases hxy : x ≤ y
  · have p0 : 0 ≤ (y - x) * o := Int.mul_nonneg (by omega) o0
    have p1 : (y - x) * o ≤ (y - x) * q := Int.mul_le_mul_of_nonneg_left o1 (by omega)
    have q0 : 0 ≤ (y - x) * o / q := Int.ediv_nonneg p0 (by omega)
    have q1 : (y - x) * o / q ≤ y - x := by
      have : (y - x) * o / q ≤ (y - x) * q / q := Int.ediv_le_ediv (by omega) p1
      rwa [Int.mul_ediv_cancel _ (by omega)] at this
    omega
  · have p0 : (y - x) * o ≤ 0 := Int.mul_nonpos_of_nonpos_of_nonneg (by omega) o0
    have p1 : (y - x) * q ≤ (y - x) * o := Int.mul_le_mul_of_nonpos_left (by omega) o1
    have q0 : (y - x) * o / q ≤ 0 := by
      have : (y - x) * o / q ≤ 0 / q := Int.ediv_le_ediv (by omega) p0
      simpa using this
    have q1 : y - x ≤ (y - x) * o / q := by
      have : (y - x) * q / q ≤ (y - x) * o / q := Int.ediv_le_ediv (by omega) p1
      rwa [Int.mul_ediv_cancel _ (by omega)] at this
    omega

/-- The last one of days of rest that touch, from the first one. -/
noncomputable def rl (ab : Bool) (n : Int) : Int := if rst ab (n + 1) = true then (if rst ab (n + 2) = true then n + 2 else n + 1) else n

theorem rl_row (ab : Bool) (n : Int) (h : rst ab n = true) (h' : rst ab (n - 1) = false) : Row ab n n (rl ab n) := by
  unfold rl
  cases h1 : rst ab (n + 1)
  · exact ⟨by omega, by simp, fun d d0 d1 => by rw [show d = n by simp at d1; omega]; exact h, h', by simpa using h1⟩
  · cases h2 : rst ab (n + 2)
    · refine ⟨by omega, by simp; omega, fun d d0 d1 => ?_, h', by simp; rw [show n + 1 + 1 = n + 2 by omega]; exact h2⟩
      simp at d1
      rcases (show d = n ∨ d = n + 1 by omega) with rfl | rfl <;> assumption
    · refine ⟨by omega, by simp; omega, fun d d0 d1 => ?_, h', ?_⟩
      · simp at d1
        rcases (show d = n ∨ d = n + 1 ∨ d = n + 2 by omega) with rfl | rfl | rfl <;> assumption
      · cases h3 : rst ab (n + 3)
        · simp; rw [show n + 2 + 1 = n + 3 by omega]; exact h3
        · exact (no_four ab n h h1 h2 h3).elim

theorem rl_bd (ab : Bool) (n : Int) : n ≤ rl ab n ∧ rl ab n ≤ n + 2 := by
  unfold rl
  split
  · split <;> omega
  · omega

/-- Is a weekday's bit set? -/
def bit (a d : Int) : Bool := a / 2 ^ (d % 7).toNat % 2 == 1

/-- Does a window begin on a day? -/
noncomputable def beg (c : Cg) (x : Wn) (d : Int) : Bool := if x.k = 1 then bit x.a d else if x.k = 2 then d == x.a else if x.k = 3 then kd c.ab (d - x.h) == x.a else (!rst c.ab d && rst c.ab (d + 1))

/-- From when it is, and up to when. -/
def fr (c : Cg) (x : Wn) (d : Int) : Int := if x.k = 4 then d * 1440 + sa c.s d - c.z.b - x.u else mv c.z (d * 1440 + x.u)
noncomputable def tt (c : Cg) (x : Wn) (d : Int) : Int := if x.k = 4 then rl c.ab (d + 1) * 1440 + sa c.s (rl c.ab (d + 1)) - c.z.b + x.l else mv c.z (d * 1440 + x.u) + x.l

/-- The error of a window's day, or 0. -/
def pE (c : Cg) (x : Wn) (d : Int) : Int := if ce c = 0 then (if wo x = true then (if 402 ≤ d ∧ d ≤ 3651990 then 0 else 140) else 104) else ce c

/-- Does it begin there, if it may be asked? -/
noncomputable def pB (c : Cg) (x : Wn) (d : Int) : Bool := pE c x d == 0 && beg c x d

theorem pE_ok (c : Cg) (x : Wn) (d : Int) : pE c x d = 0 ↔ ce c = 0 ∧ wo x = true ∧ 402 ≤ d ∧ d ≤ 3651990 := by
  unfold pE
  by_cases h : ce c = 0
  · rw [if_pos h]
    by_cases g : wo x = true
    · rw [if_pos g]; split <;> simp_all
    · rw [if_neg g]; simp_all
  · rw [if_neg h]; simp_all

theorem pB_iff (c : Cg) (x : Wn) (d : Int) : pB c x d = true ↔ pE c x d = 0 ∧ beg c x d = true := by simp [pB]

/-- The span, or a zero one. -/
noncomputable def pF (c : Cg) (x : Wn) (d : Int) : Int := if pB c x d = true then fr c x d else 0
noncomputable def pT (c : Cg) (x : Wn) (d : Int) : Int := if pB c x d = true then tt c x d else 0
noncomputable def pM (c : Cg) (x : Wn) (d : Int) : Int := if pB c x d = true then x.m else 0
noncomputable def pP (c : Cg) (x : Wn) (d : Int) : Int := if pB c x d = true then x.p else 0

theorem ce_parts (c : Cg) (h : ce c = 0) : May c.z ∧ sk c.s = 0 := by
  rw [← ck_may]
  unfold ce at h
  by_cases h1 : Cf.so c = true
  · rw [if_pos h1] at h
    by_cases h2 : Cf.to c = true
    · rw [if_pos h2] at h
      by_cases h3 : Cf.ti c = true
      · rw [if_pos h3] at h
        by_cases h4 : ck c.z = 0
        · rw [if_pos h4] at h
          by_cases h5 : sk c.s = 0
          · exact ⟨h4, h5⟩
          · rw [if_neg h5] at h; exact absurd h h5
        · rw [if_neg h4] at h; exact absurd h h4
      · rw [if_neg h3] at h; omega
    · rw [if_neg h2] at h; omega
  · rw [if_neg h1] at h; omega

theorem beg_rest (c : Cg) (x : Wn) (d : Int) (h : x.k = 4) : beg c x d = (!rst c.ab d && rst c.ab (d + 1)) := by unfold beg; rw [h]; simp

/-- A window about days of rest that begins on a day: its row of days of rest, and its bounds. -/
theorem rest_span (c : Cg) (x : Wn) (d : Int) (h : pB c x d = true) (hk : x.k = 4) :
    ∃ b, Row c.ab (d + 1) (d + 1) b ∧ rst c.ab d = false ∧ d + 1 ≤ b ∧ b ≤ d + 3 ∧ 402 ≤ d ∧ d ≤ 3651990 ∧
      ∃ s e : Int, 900 ≤ s ∧ s ≤ 1320 ∧ 900 ≤ e ∧ e ≤ 1320 ∧ 0 ≤ x.u ∧ x.u ≤ 180 ∧ 0 ≤ x.l ∧ x.l ≤ 180 ∧ fr c x d = d * 1440 + s - c.z.b - x.u ∧ tt c x d = b * 1440 + e - c.z.b + x.l := by
  obtain ⟨h0, h1⟩ := (pB_iff c x d).1 h
  obtain ⟨a, b, d0, d1⟩ := (pE_ok c x d).1 h0
  obtain ⟨hz, hs⟩ := ce_parts c a
  rw [beg_rest c x d hk] at h1
  simp only [Bool.and_eq_true, Bool.not_eq_true'] at h1
  have hb := rl_bd c.ab (d + 1)
  have hw := (Conf.wo_iff x).1 b
  refine ⟨rl c.ab (d + 1), rl_row _ _ h1.2 (by rw [show d + 1 - 1 = d by omega]; exact h1.1), h1.1, by omega, by omega, d0, d1, sa c.s d, sa c.s (rl c.ab (d + 1)), ?_⟩
  have s0 := sa_in c.s d hs (by omega) (by omega)
  have s1 := sa_in c.s (rl c.ab (d + 1)) hs (by omega) (by omega)
  refine ⟨s0.1, s0.2, s1.1, s1.2, by omega, by omega, by omega, by omega, ?_, ?_⟩
  · unfold fr; rw [if_pos hk]
  · unfold tt; rw [if_pos hk]

end Go.Proofs.YtmlnlkfdbbnkbaaGreatDoor.Win
