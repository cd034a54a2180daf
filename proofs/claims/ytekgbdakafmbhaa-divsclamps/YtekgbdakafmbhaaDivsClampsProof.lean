/-
  The statement DivsClamps: for any four ints n, lo, hi, o: Clamp(n, lo, hi) clamped again is itself, it is not below lo, not above hi (unless hi is below lo), a greater number is clamped to no less, and what lies between stays as it is. Conditions: none.
-/
import Derived.Test.YtekgbdakafmbhaaRows
import Derived.WalkKit
import Derived.ProofKit
import Derived.OpenShut
import Derived.Laws.IdiomArrays
import Derived.Test.YtekgbdakafmbhaaAwake
namespace Go.Proofs.Ytekgbdakafmbhaa.divsClamps
open Go.ChangeShapes Go.WideShapes Go.ChangeAt Go.RowKit
open Go.Proofs.Ytekgbdakafmbhaa.Divs

theorem own : ownKnob Try.prog.godebug = none := by kernel_rfl
theorem cells3 : Try.prog.cellsOf 3 = 1 := by kernel_rfl
theorem cells31 : Try.prog.cellsOf 31 = 4 := by kernel_rfl

theorem list4 {α : Type} (l : List α) (h : (⟨l⟩ : Array α).size = 4) : ∃ a b c d, l = [a, b, c, d] := by
  match l, h with
  | [a, b, c, d], _ => exact ⟨a, b, c, d, rfl⟩

theorem clamp_facts (n lo hi o : Int) : clampI (clampI n lo hi) lo hi = clampI n lo hi ∧ lo ≤ clampI n lo hi
    ∧ (clampI n lo hi ≤ hi ∨ (hi < clampI n lo hi ∧ hi < lo)) ∧ (o < n ∨ (n ≤ o ∧ clampI n lo hi ≤ clampI o lo hi))
    ∧ (n < lo ∨ (lo ≤ n ∧ hi < n) ∨ (lo ≤ n ∧ n ≤ hi ∧ (clampI n lo hi == n) = true)) := by
  have bq : ∀ a b : Int, ((a == b) = true) ↔ a = b := fun a b => by simp
  simp only [bq]
  unfold clampI
  refine ⟨?_, ?_, ?_, ?_, ?_⟩ <;> (repeat' split) <;> omega

set_option maxHeartbeats 2000000 in
theorem core (n lo hi o c d : Int) (w : World)
    (HC : Hid (∀ W, Calls Try.prog 19 #[.int .i64 n, .int .i64 lo, .int .i64 hi] W fun e w' => e = .returned (.int .i64 c) ∧ ∃ n, w' = W.drewN n))
    (HD : Hid (∀ W, Calls Try.prog 19 #[.int .i64 o, .int .i64 lo, .int .i64 hi] W fun e w' => e = .returned (.int .i64 d) ∧ ∃ n, w' = W.drewN n))
    (HE : Hid (∀ W, Calls Try.prog 19 #[.int .i64 c, .int .i64 lo, .int .i64 hi] W fun e w' => e = .returned (.int .i64 c) ∧ ∃ n, w' = W.drewN n))
    (t1 : lo ≤ c) (p : c ≤ hi ∨ (hi < c ∧ hi < lo)) (q : o < n ∨ (n ≤ o ∧ c ≤ d)) (r : n < lo ∨ (lo ≤ n ∧ hi < n) ∨ (lo ≤ n ∧ n ≤ hi ∧ (c == n) = true)) :
    Calls Try.prog 9 #[.agg #[.int .i64 n, .int .i64 lo, .int .i64 hi, .int .i64 o]] w fun e w' => e = .returned (.bool true) ∧ Grown w w' := by
  have t2 : (c == c) = true := by simp
  rcases p with p | ⟨p1, p2⟩ <;> rcases q with q | ⟨q1, q2⟩ <;> rcases r with r | ⟨r1, r2⟩ | ⟨r1, r2, r3⟩ <;>
  · go_enter Try.func9, Try.ntmps9
    go_wp2_with fail
    refine (HC.out _).mono ?_
    rintro e w' ⟨rfl, n1, rfl⟩
    go_wp2_with fail
    refine (HD.out _).mono ?_
    rintro e w' ⟨rfl, n2, rfl⟩
    go_wp2_with fail
    refine (awake_any _).mono ?_
    rintro e w' ⟨rfl, n3, rfl⟩
    go_wp2_with fail
    refine (HE.out _).mono ?_
    rintro e w' ⟨rfl, n4, rfl⟩
    go_wp2_with fail
    go_ret
    exact ⟨rfl, (Grown.refl w).alloc _ _⟩

theorem walk (a0 a1 a2 a3 : Int) (w : World) :
    Calls Try.prog 9 #[.agg #[.int .i64 a0, .int .i64 a1, .int .i64 a2, .int .i64 a3]] w fun e w' => e = .returned (.bool true) ∧ Grown w w' := by
  obtain ⟨f1, f2, f3, f4, f5⟩ := clamp_facts a0 a1 a2 a3
  have hc := fun W => clamp_any a0 a1 a2 W
  have hd := fun W => clamp_any a3 a1 a2 W
  have he := fun W => clamp_any (clampI a0 a1 a2) a1 a2 W
  rw [f1] at he
  exact core a0 a1 a2 a3 _ _ w (Lib.hid hc) (Lib.hid hd) (Lib.hid he) f2 f3 f4 f5

set_option maxHeartbeats 400000 in
set_option maxRecDepth 100000 in
theorem lifted (os : Os) (started : os.Started) (H : Type) (enc : TypeId × Value → H) :
    ReturnsInHanded {} Try.checked os 9 .any (Rows.divsClampsSpec.pre6 enc Try.prog Try.f9 Rows.divsClampsRow.domain false) (Rows.divsClampsSpec.post enc Try.prog Try.f9 false true false false) := by
  refine returnsInHanded_of_change (C := Try.checked) own started (by kernel_rfl) Try.func9
    (ChangeSpec.witness6 (enc := enc) (C := Try.checked) false ⟨#[], #[.agg #[.int .i64 0, .int .i64 0, .int .i64 0, .int .i64 0]], []⟩ 8 (by kernel_rfl) (by kernel_rfl) (by kernel_rfl) (by kernel_rfl)) ?_
  intro W base args ds gs before hval0 hW hcnd _
  have hval : ∀ (j : Nat) t v, Try.f9.params[j]? = some t → args[j]? = some v → Value.okWide Try.prog W .any base t v := hval0
  have hW' := hW
  obtain ⟨p, q, hA0, hV, rfl, hfz, hnd⟩ := hW
  have hA : DataW.TrodAll enc Try.prog W 0 (fun _ => true) true Try.f9.params.toList args.toList ds p := hA0
  rw [Try.params9] at hA hval
  obtain ⟨v0, d0, rfl, rfl, h0⟩ := trodAll_one hA
  obtain ⟨rfl, rfl⟩ := trodVars_none hV
  obtain ⟨cs, rfl, hsz, _⟩ : ∃ cs, v0 = .agg cs ∧ cs.size = Try.prog.cellsOf 31 ∧ Row.okWide Try.prog W .any base 31 cs := by
    have := hval 0 31 v0 rfl rfl
    simpa [Value.okWide, Try.underlying31] using this
  rw [cells31] at hsz
  obtain ⟨l⟩ := cs
  obtain ⟨c0, c1, c2, c3, rfl⟩ := list4 l hsz
  obtain ⟨fuel, hf⟩ := h0
  obtain ⟨y0, y1, y2, y3, m, hx, hy0, hy1, hy2, hy3⟩ := trod_array4 Try.underlying31 cells3 hf
  obtain ⟨x0, e0, rfl, w0⟩ := DataW.trod_int Try.underlying3 hy0
  obtain ⟨x1, e1, rfl, w1⟩ := DataW.trod_int Try.underlying3 hy1
  obtain ⟨x2, e2, rfl, w2⟩ := DataW.trod_int Try.underlying3 hy2
  obtain ⟨x3, e3, rfl, w3⟩ := DataW.trod_int Try.underlying3 hy3
  simp at e0 e1 e2 e3
  subst e0 e1 e2 e3
  simp only [Prod.mk.injEq] at hx
  obtain ⟨rfl, rfl⟩ := hx
  clear hA0 hval0
  simp only [List.append_nil] at hW'
  refine (walk x0 x1 x2 x3 W).mono fun e W' ⟨he, hg⟩ => ?_
  subst he
  have rdA : ∀ sp : Nat → Bool, DataW.Trod enc Try.prog W' 0 sp true 31 (.agg #[.int .i64 x0, .int .i64 x1, .int .i64 x2, .int .i64 x3]) (DataW.agg [.lit (.int .i64 x0), .lit (.int .i64 x1), .lit (.int .i64 x2), .lit (.int .i64 x3)]) [] := fun sp =>
    ⟨2, by simp [DataW.trod, Value.cells, Try.underlying31, Try.underlying3, cells3, cells31, w0, w1, w2, w3, List.range, List.range.loop]⟩
  exact ⟨_, rfl, post_of_same (pa := []) (pv := []) hW' (fun _ _ _ => (trodAll_cons_mk (shut_bool Try.underlying4 _) trodAll_mk0)) (fun sp _ => trodAll_mk1 (rdA sp)) (fun _ _ => rfl) rfl
    (hg.frame _) hg.2.1 (ok_one (by kernel_rfl) rfl (okWide_bool_mk Try.underlying4 _))⟩

theorem over : Rows.divsClampsRow.holds Try.pinned (OpenSpec.ofChange Rows.divsClampsSpec) :=
  OpenClaim.holds_of_wide 9 Try.f9 rfl rfl rfl rfl rfl rfl rfl ⟨rfl, rfl, rfl, rfl, rfl⟩ rfl rfl rfl rfl rfl (by kernel_rfl) Try.func9 (by kernel_rfl)
    (of_decide_eq_true (by kernel_rfl)) (by unfold Func.isWrapper; first | (rw [if_pos (by decide +kernel)]; kernel_rfl) | (rw [if_neg (by decide +kernel)]; exact ⟨rfl, rfl⟩))
    (fun os started H enc _ => lifted os started H enc)

/-- The statement. -/
theorem proved : Rows.DivsClampsSaid :=
  over
#print axioms proved
end Go.Proofs.Ytekgbdakafmbhaa.divsClamps
