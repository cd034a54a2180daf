/-
  Layer 8: what is got is put in just those bytes (newellaw08.WireOnly answers true for every input, and leaves its arguments as they were). No condition.
-/
import Derived.Test.YtmpmkjoabplfoaaRows
import Derived.WalkKit
import Derived.ProofKit
import Derived.OpenShut
import Derived.ShutString
import Derived.ChangeOld
import Derived.Below
import Derived.Test.YtmpmkjoabplfoaaWw
import Derived.Deep.RegionHeld3
namespace Go.Proofs.Ytmpmkjoabplfoaa.wireOnly
open Go.ChangeShapes Go.WideShapes Go.ChangeAt Go.RowKit
open Go.ChangeMaps (open_string shut_string)
open Go.Proofs.Ytmpmkjoabplfoaa.Divs Go.Proofs.Ytmpmkjoabplfoaa.Grow Go.Proofs.Ytmpmkjoabplfoaa.Wi Go.Proofs.Ytmpmkjoabplfoaa.Wire
set_option linter.unusedVariables false

theorem own : ownKnob Try.prog.godebug = none := by kernel_rfl
theorem laidOut : laidOutB Try.prog = true := by kernel_rfl

/-- WHAT THE WALK IS TOLD OF A SLICE OF INTEGERS THAT CAME IN: it is nil; or it leads to a row of 'cap' cells, the numbers 'zs' (the first 'len' are its elements, the rest its spare room), each fitting its kind. -/
def IsRow (k : IntKind) (w : World) (a : Option Addr) (len cap : Nat) (zs : List Int) : Prop :=
  (a = none ∧ len = 0 ∧ cap = 0 ∧ zs = []) ∨
  ∃ x, a = some x ∧ len ≤ cap ∧ cap ≤ maxLen ∧ zs.length = cap ∧ (∀ i, i < zs.length → w.cell? (x.add i) = some (.int k (zs.getD i 0))) ∧ ∀ n ∈ zs, (Lit.int k n).wf = true

theorem IsRow.sk {k : IntKind} {w : World} {a : Option Addr} {len cap : Nat} {zs : List Int} (h : IsRow k w a len cap zs) : Sk k w (.slice a len cap) (zs.take len) ∧ ∀ n ∈ zs.take len, (Lit.int k n).wf = true := by
  rcases h with ⟨rfl, rfl, rfl, rfl⟩ | ⟨x, rfl, h1, h2, h3, h4, h5⟩
  · exact ⟨⟨none, 0, rfl, by simp, by omega, by simp, by simp⟩, by simp⟩
  · have hl : (zs.take len).length = len := by rw [List.length_take]; omega
    refine ⟨⟨some x, cap, by rw [hl], by rw [hl]; exact h1, by simpa [maxLen] using h2, by simp, fun i y hy => ?_⟩, fun n hn => h5 n (List.mem_of_mem_take hn)⟩
    have hi : i < len := by
      have := (List.getElem?_eq_some_iff.1 hy).1
      omega
    obtain ⟨b, off, rfl, hc⟩ := ints_at h4 (by omega)
    refine ⟨b, off, rfl, ?_⟩
    rw [List.getElem?_take_of_lt hi] at hy
    have := hc i (by omega)
    rwa [List.getD_eq_getElem?_getD, hy] at this

set_option maxHeartbeats 2000000 in
theorem core (w : World) (l0 : List Int) (v0 : Value) (hs0 : Sk .u8 w v0 l0) (hl0 : ∀ n ∈ l0, 0 ≤ n ∧ n ≤ 255) (a1 : Int) (h1 : In a1) :
    Calls Try.prog 5 #[v0, .int .i64 a1] w fun e w' => e = .returned (.bool true) ∧ Later w w' := by
  have A := Lib.hid (fun W => awake_any W)
  by_cases hlen : 300 < l0.length
  · obtain ⟨ad, cap, rfl, hm⟩ := hs0.len
    clear hs0
    go_enter Try.func5, Try.ntmps5
    go_wp2_with fail
    refine (A.out _).mono ?_
    rintro e w1 ⟨rfl, hg1⟩
    go_wp2_with fail
    go_ret
    exact ⟨rfl, hg1⟩
  · have G := Lib.hid (fun W (h : Sk .u8 W v0 l0) => get_any l0 a1 v0 W h hl0)
    have HS := Lib.hid hs0
    by_cases he : gE l0 a1 = 0
    · have t : (gE l0 a1 != 0) = false := by simpa using he
      obtain ⟨p0, p1, p2, p3, p4⟩ := g_ok l0 a1 hl0 he
      obtain ⟨p, rfl⟩ := Int.eq_ofNat_of_zero_le p0
      obtain ⟨q, hq⟩ : ∃ q : Nat, gP l0 p = q := ⟨(gP l0 p).toNat, by omega⟩
      rw [hq] at G p1 p2 p3
      rw [show ((q : Int) - (p : Int)).toNat = q - p by omega, Int.toNat_natCast] at p3
      obtain ⟨ad, cap, u, rfl, sl, hu⟩ := cut_lh hs0 p q (by omega) (by omega)
      rw [p3] at hu
      obtain ⟨E, hE⟩ : ∃ E, E = gE l0 p := ⟨_, rfl⟩
      obtain ⟨M, hM⟩ : ∃ M, M = gN l0 p := ⟨_, rfl⟩
      rw [← hE] at G t
      rw [← hM] at G hu p4
      have P := Lib.hid (fun W => put_any M W p4)
      have S := Lib.hid (fun x W (h : Sk .u8 W x (pu M)) (hv : Sk .u8 W u (pu M)) => bsame_yes (pu M) x u W h hv)
      have HU := Lib.hid hu
      have t1 : decide ((p : Int) < (q : Int)) = true := by simp; omega
      have t2 : decide ((q : Int) ≤ (l0.length : Int)) = true := by simp; omega
      clear hs0 he hu p3 hq p0 hE hM h1 p4
      go_enter Try.func5, Try.ntmps5
      go_wp2_with fail
      refine (G.out _ HS.out).mono ?_
      rintro e w1 ⟨rfl, rfl⟩
      go_wp2_with fail
      go_region_held3 (fun W => Later w W) (first | exact gtrans ‹Later w w3› hg4 | exact gtrans ‹Later w w2› hg3 | exact hg2 | exact Later.refl w) (first | (go_at_call 8; refine (A.out _).mono ?_; rintro e w2 ⟨rfl, hg2⟩) | (go_at_call 10; refine (P.out _).mono ?_; rintro e w3 ⟨x, rfl, hx, hg3⟩) | (go_at_call 9; refine (S.out _ _ (by assumption) (HU.out.later (by assumption))).mono ?_; rintro e w4 ⟨rfl, hg4⟩))
      go_wp2_with fail
      go_ret
      exact ⟨rfl, ‹Later w w4›⟩
    · have t : (gE l0 a1 != 0) = true := by simpa using he
      obtain ⟨e1, e2⟩ := g_err l0 a1 he
      rw [e1, e2] at G
      obtain ⟨E, hE⟩ : ∃ E, E = gE l0 a1 := ⟨_, rfl⟩
      rw [← hE] at G t
      obtain ⟨ad, cap, rfl, hm⟩ := hs0.len
      clear hs0 he e1 e2 hE
      go_enter Try.func5, Try.ntmps5
      go_wp2_with fail
      refine (G.out _ HS.out).mono ?_
      rintro e w1 ⟨rfl, rfl⟩
      go_wp2_with fail
      refine (A.out _).mono ?_
      rintro e w3 ⟨rfl, hg3⟩
      go_wp2_with fail
      go_ret
      exact ⟨rfl, hg3⟩

theorem walk (a0 : Option Addr) (len0 cap0 : Nat) (z0 : List Int) (a1 : Int) (w : World) (w0 : IsRow .u8 w a0 len0 cap0 z0) (w1 : (Lit.int .i64 a1).wf = true) :
    Calls Try.prog 5 #[.slice a0 len0 cap0, .int .i64 a1] w fun e w' => e = .returned (.bool true) ∧ Below w.heap.size w w' := by
  obtain ⟨sk0, wf0⟩ := w0.sk
  exact (core w _ _ sk0 (fun n hn => bounds_u8 (wf0 n hn)) a1 (bounds_i64 w1)).mono fun _ _ ⟨he, hg⟩ => ⟨he, hg.below⟩

set_option maxRecDepth 100000 in
theorem lifted (os : Os) (started : os.Started) (H : Type) (enc : TypeId × Value → H) :
    ReturnsInHanded {} Try.checked os 5 .any (Rows.wireOnlySpec.pre6 enc Try.prog Try.f5 Rows.wireOnlyRow.domain false) (Rows.wireOnlySpec.post enc Try.prog Try.f5 false true false false) := by
  refine returnsInHanded_of_change (C := Try.checked) own started (by kernel_rfl) Try.func5
    (ChangeSpec.witness6 (enc := enc) (C := Try.checked) false ⟨#[], #[.slice none 0 0, .int .i64 0], []⟩ 8 (by kernel_rfl) (by kernel_rfl) (by kernel_rfl) (by kernel_rfl)) ?_
  intro W base args ds gs before hval0 hW hcnd _
  have hval : ∀ (j : Nat) t v, Try.f5.params[j]? = some t → args[j]? = some v → Value.okWide Try.prog W .any base t v := hval0
  have hW' := hW
  obtain ⟨p, q, hA0, hV, rfl, hfz, hnd⟩ := hW
  have hA : DataW.TrodAll enc Try.prog W 0 (fun _ => true) true Try.f5.params.toList args.toList ds p := hA0
  rw [Try.params5] at hA hval
  obtain ⟨v0, vs0, d0, ds0, p0, q0, hargs, rfl, rfl, h0, r0⟩ := trodAll_cons hA
  obtain ⟨v1, vs1, d1, ds1, p1, q1, rfl, rfl, rfl, h1, r1⟩ := trodAll_cons r0
  obtain ⟨rfl, rfl, rfl⟩ := trodAll_nil r1
  obtain rfl : args = #[v0, v1] := by cases args; simp_all
  obtain ⟨rfl, rfl⟩ := trodVars_none hV
  obtain ⟨a0, len0, cap0, rfl⟩ := okWide_slice Try.underlying25 (hval 0 25 v0 rfl rfl)
  have k0 := h0
  have lt0 : ∀ x ∈ p0, x.block < W.heap.size := by obtain ⟨m, hm⟩ := k0; exact DataW.trod_lt m _ _ _ hm
  obtain ⟨z0, w0⟩ : ∃ zs, IsRow .u8 W a0 len0 cap0 zs := by
    obtain ⟨fuel, hf⟩ := h0
    rcases open_ints Try.underlying25 Try.underlying5 (by kernel_rfl) hf with ⟨hcs, _⟩ | ⟨x, l, c, zs, hcs, _, hl, hm, hz, _, hcell, hwz⟩
    · simp [Value.cells] at hcs
      obtain ⟨rfl, rfl, rfl⟩ := hcs
      exact ⟨[], .inl ⟨rfl, rfl, rfl, rfl⟩⟩
    · simp [Value.cells] at hcs
      obtain ⟨rfl, rfl, rfl⟩ := hcs
      exact ⟨zs, .inr ⟨_, rfl, hl, hm, by simpa using hz, hcell, hwz⟩⟩
  obtain ⟨a1, rfl, rfl, rfl, w1⟩ := open_int Try.underlying3 (hval 1 3 v1 rfl rfl) h1
  clear hA0 hval0
  refine (walk a0 len0 cap0 z0 a1 W w0 w1).mono fun e W' ⟨he, bel⟩ => ?_
  subst he
  exact ⟨_, rfl, _, _, _, [], _, [], hW', trodAll_mk1 (shut_bool Try.underlying4 _), (trodAll_cons_mk (Below.trod laidOut (by kernel_rfl) (of_decide_eq_true (by kernel_rfl)) k0 bel lt0) (trodAll_cons_mk (shut_int Try.underlying3 w1) trodAll_mk0)), rfl, bel.frame _, fun h => by cases h⟩

theorem over : Rows.wireOnlyRow.holds Try.pinned (OpenSpec.ofChange Rows.wireOnlySpec) :=
  OpenClaim.holds_of_wide 5 Try.f5 rfl rfl rfl rfl rfl rfl rfl ⟨rfl, rfl, rfl, rfl, rfl⟩ rfl rfl rfl rfl rfl (by kernel_rfl) Try.func5 (by kernel_rfl)
    (of_decide_eq_true (by kernel_rfl)) (by unfold Func.isWrapper; first | (rw [if_pos (by decide +kernel)]; kernel_rfl) | (rw [if_neg (by decide +kernel)]; exact ⟨rfl, rfl⟩))
    (fun os started H enc _ => lifted os started H enc)

/-- The statement. -/
theorem proved : Rows.WireOnlySaid := over
#print axioms proved
end Go.Proofs.Ytmpmkjoabplfoaa.wireOnly
