/-
  What the program's order of spans answers for two of them; that this program holds the texts of the library's sorting.  Conditions: as each theorem states.
-/
import Derived.Test.YtmjedpaiccaddaaXi
import Derived.Test.YtmjedpaiccaddaaXb
import Derived.Test.YtmjedpaiccaddaaLy
import Derived.Test.YtmjedpaiccaddaaSz
import Derived.Shelf.SlicesG.Cmp
import Derived.StillTailTactics
namespace Go.Proofs.Ytmjedpaiccaddaa.Span
set_option maxRecDepth 100000
open Go.ChangeShapes Go.WideShapes Go.ChangeAt Go.RowKit Go.Sort
open Go.Proofs.Ytmjedpaiccaddaa.Divs Go.Proofs.Ytmjedpaiccaddaa.Grow
open Go.Proofs.Ytmjedpaiccaddaa.Sp

theorem has : Ss.Has Try.prog 4 where
  mixed := by kernel_rfl
  swapR := Try.func64
  rot := Try.func58
  sym := Try.func46
  sta := Try.func41
  srt := Try.func31
  ins := enters_of Try.func45 (by kernel_rfl) rfl
  eswapR := enters_of Try.func64 (by kernel_rfl) rfl
  erot := enters_of Try.func58 (by kernel_rfl) rfl
  esym := enters_of Try.func46 (by kernel_rfl) rfl
  esta := enters_of Try.func41 (by kernel_rfl) rfl
  t0 := Try.underlying0
  a0 := Try.isAgg0
  z0 := Try.sizeOf0
  t3 := Try.underlying3
  a3 := Try.isAgg3
  z3 := Try.sizeOf3
  v3 := Try.zeroValue3
  t4 := Try.underlying4
  a4 := Try.isAgg4
  z4 := Try.sizeOf4
  v4 := Try.zeroValue4
  t22 := Try.underlying22
  a22 := Try.isAgg22
  z22 := Try.sizeOf22
  v22 := Try.zeroValue22
  t68 := Try.underlying68
  a68 := Try.isAgg68
  z68 := Try.sizeOf68
  v68 := Try.zeroValue68
  a57 := Try.isAgg57
  z57 := Try.sizeOf57
  v57 := Try.zeroValue57
  aE := Try.isAgg31
  zE := Try.sizeOf31

/-- The first of two that is not 0. -/
def or2 (a b : Int) : Int := if a = 0 then b else a

theorem or_any (g : Nat) (a b : Int) (W : World) (ca : W.cell? ⟨g, 0, none⟩ = some (.int .i64 a)) (cb : W.cell? ⟨g, 1, none⟩ = some (.int .i64 b)) :
    Calls Try.prog 33 #[.slice (some ⟨g, 0, none⟩) 2 2] W fun e w' => e = .returned (.int .i64 (or2 a b)) ∧ w' = W := by
  obtain ⟨O, hO⟩ : ∃ O, O = or2 a b := ⟨_, rfl⟩
  rw [← hO]
  by_cases t1 : a = 0
  · have t1d : (a != 0) = false := by simp [t1]
    have HV : Hid (O = b) := Lib.hid (by rw [hO]; unfold or2; rw [if_pos t1])
    clear hO t1
    by_cases t2 : b = 0
    · have t2d : (b != 0) = false := by simp [t2]
      have HZ : Hid (b = 0) := Lib.hid t2
      clear t2
      go_enter Try.func33, Try.ntmps33
      go_wp2
      refine wp_loop_rounds 3 ?_
      rw [rounds_succ]
      go_wp2
      rw [rounds_succ]
      go_wp2
      rw [rounds_succ]
      go_wp2
      go_ret
      refine ⟨?_, rfl⟩
      rw [HV.out, HZ.out]
      rfl
    · have t2d : (b != 0) = true := by simpa using t2
      clear t2
      go_enter Try.func33, Try.ntmps33
      go_wp2
      refine wp_loop_rounds 3 ?_
      rw [rounds_succ]
      go_wp2
      rw [rounds_succ]
      go_wp2
      go_ret
      refine ⟨?_, rfl⟩
      rw [HV.out]
      rfl
  · have t1d : (a != 0) = true := by simpa using t1
    have HV : Hid (O = a) := Lib.hid (by rw [hO]; unfold or2; rw [if_neg t1])
    clear hO t1
    go_enter Try.func33, Try.ntmps33
    go_wp2
    refine wp_loop_rounds 3 ?_
    rw [rounds_succ]
    go_wp2
    go_ret
    refine ⟨?_, rfl⟩
    rw [HV.out]
    rfl

/-- The program's order. -/
def co (u v : Tg) : Int := or2 (Lib.compareInt v.1.p u.1.p) (Lib.compareInt v.1.f u.1.f)

theorem lt_co : ltOf co = hv := by
  funext u v
  unfold ltOf
  rw [Bool.eq_iff_iff, hv_iff, decide_eq_true_iff]
  unfold co or2 Lib.compareInt
  repeat' split
  all_goals omega

theorem closure_any (x y : Sp) (W : World) : Calls Try.prog 32 #[.agg (sc x).toArray, .agg (sc y).toArray] W fun e w' =>
    e = .returned (.int .i64 (or2 (Lib.compareInt y.p x.p) (Lib.compareInt y.f x.f))) ∧ ∃ q os', w' = grow (W.drewN q) os' := by
  have hcon := fun a b W' => AnyG.cmp_Compare_int Ly.LM a b W'
  change ∀ a b W', Calls Try.prog 34 _ _ _ at hcon
  have HC := Lib.hid hcon
  clear hcon
  unfold sc
  go_enter Try.func32, Try.ntmps32
  go_wp2_with fail
  obtain ⟨W2, hW2⟩ : ∃ W2, (W.alloc (.cells #[.int .i64 x.f, .int .i64 x.t, .int .i64 x.m, .int .i64 x.p] 31)).alloc (.cells #[.int .i64 y.f, .int .i64 y.t, .int .i64 y.m, .int .i64 y.p] 31) = W2 := ⟨_, rfl⟩
  have HW2 : Hid (W2 = grow W #[.cells #[.int .i64 x.f, .int .i64 x.t, .int .i64 x.m, .int .i64 x.p] 31, .cells #[.int .i64 y.f, .int .i64 y.t, .int .i64 y.m, .int .i64 y.p] 31]) := Lib.hid (by rw [← hW2, alloc_eq_grow, alloc_eq_grow, grow_grow]; rfl)
  have RX : RA W2 W.heap.size #[.int .i64 x.f, .int .i64 x.t, .int .i64 x.m, .int .i64 x.p] 31 := by rw [← hW2]; exact (RA.new W _ _).later ((Later.refl _).put _)
  have RY : RA W2 (W.heap.size + 1) #[.int .i64 y.f, .int .i64 y.t, .int .i64 y.m, .int .i64 y.p] 31 := by rw [← hW2]; have := RA.new (W.alloc (.cells #[.int .i64 x.f, .int .i64 x.t, .int .i64 x.m, .int .i64 x.p] 31)) #[.int .i64 y.f, .int .i64 y.t, .int .i64 y.m, .int .i64 y.p] 31; simpa using this
  rw [hW2]
  clear hW2
  obtain ⟨W3, hW3⟩ : ∃ W3 : World, { W2 with drawn := W2.drawn + 1 } = W3 := ⟨_, rfl⟩
  have HW3 : Hid (W3 = (W2.drewN 1)) := Lib.hid hW3.symm
  have c0 : W3.cell? ⟨W.heap.size, 0, none⟩ = some (.int .i64 x.f) := by rw [← hW3]; exact RX.cell 0 _ rfl
  have c3 : W3.cell? ⟨W.heap.size, 3, none⟩ = some (.int .i64 x.p) := by rw [← hW3]; exact RX.cell 3 _ rfl
  have e0 : W3.cell? ⟨W.heap.size + 1, 0, none⟩ = some (.int .i64 y.f) := by rw [← hW3]; exact RY.cell 0 _ rfl
  have e3 : W3.cell? ⟨W.heap.size + 1, 3, none⟩ = some (.int .i64 y.p) := by rw [← hW3]; exact RY.cell 3 _ rfl
  clear RX RY
  have hm : Try.prog.follows .mixedOrders = true := by kernel_rfl
  refine wp_region_still_tail 10 hm (by kernel_rfl) ?_
  rw [hW3]
  simp only [List.take_succ_cons, List.take_zero, List.drop_succ_cons, List.drop_zero]
  iterate 4 still_step
  still_call (HC.out _ _ _)
  iterate 4 still_step
  still_call (HC.out _ _ _)
  refine wpStill_nil ?_
  generalize hA : Lib.compareInt y.p x.p = A
  generalize hB : Lib.compareInt y.f x.f = B
  have HA := Lib.hid hA
  have HB := Lib.hid hB
  clear hA hB
  have K := Lib.hid (or_any W3.heap.size A B (W3.alloc (.cells #[.int .i64 A, .int .i64 B] 3)) (by rw [World.cell?_alloc_new]; rfl) (by rw [World.cell?_alloc_new]; rfl))
  have HE : Hid (∃ q os', W3.alloc (.cells #[.int .i64 A, .int .i64 B] 3) = grow (W.drewN q) os') := Lib.hid ⟨1, #[.cells #[.int .i64 x.f, .int .i64 x.t, .int .i64 x.m, .int .i64 x.p] 31, .cells #[.int .i64 y.f, .int .i64 y.t, .int .i64 y.m, .int .i64 y.p] 31] ++ #[.cells #[.int .i64 A, .int .i64 B] 3], by
    rw [HW3.out, HW2.out, alloc_eq_grow]
    exact grow_grow (W.drewN 1) _ _⟩
  go_wp2_with (go_at_call 33; refine K.out.mono ?_; rintro e w' ⟨rfl, rfl⟩)
  go_ret
  refine ⟨?_, HE.out⟩
  rw [HA.out, HB.out]
  rfl

theorem co_lays (blk off size : Nat) (w : World) : CmpLays Try.prog 32 #[] (fun u : Tg => sc u.1) 4 co blk off size w :=
  fun _ _ _ _ x y => closure_any x.1 y.1 _

end Go.Proofs.Ytmjedpaiccaddaa.Span
