/-
  Whether a configuration may be, by the reckoning. No condition but those that each theorem states.
-/
import Derived.Test.YthbgllbbliijlaaDc
import Derived.Test.YthbgllbbliijlaaSr
import Derived.Test.YthbgllbbliijlaaZr
namespace Go.Proofs.Ythbgllbbliijlaa.Conf
open Go.ChangeShapes Go.WideShapes Go.ChangeAt Go.RowKit
open Go.Proofs.Ythbgllbbliijlaa.Divs Go.Proofs.Ythbgllbbliijlaa.Grow Go.Proofs.Ythbgllbbliijlaa.Zone
open Go.Proofs.Ythbgllbbliijlaa.By (Sk SL bool_no bool_yes)
open Go.Proofs.Ythbgllbbliijlaa.Each
open Go.Proofs.Ythbgllbbliijlaa.Zo Go.Proofs.Ythbgllbbliijlaa.Su Go.Proofs.Ythbgllbbliijlaa.Cf

theorem so_iff (c : Cg) : so c = true ↔ 2 ≤ c.f ∧ c.f ≤ 64 ∧ 1 ≤ c.n ∧ c.n ≤ 8 ∧ 0 ≤ c.p ∧ c.p < c.f := by
  unfold so
  simp only [Bool.and_eq_true, bt_iff]
  omega

theorem ce_size (c : Cg) (h : ¬ so c = true) : ce c = 100 := by
  unfold ce
  rw [if_neg h]

set_option maxHeartbeats 2000000 in
theorem rcheck_size (c : Cg) (u v : Value) (w : World) (h : ¬ so c = true) : Calls Try.prog 14 #[.agg (cc c u v)] w fun e w' => e = .returned (.int .i64 (ce c)) ∧ Later w w' := by
  rw [ce_size c h]
  rw [so_iff] at h
  have HL := Lib.hid ((Later.refl w).alloc (cc c u v) 33)
  obtain ⟨C, hC⟩ : ∃ C, C = cc c u v := ⟨_, rfl⟩
  rw [← hC] at HL ⊢
  have f0 : C[0]? = some (.int .i64 c.f) := by rw [hC]; rfl
  have f1 : C[1]? = some (.int .i64 c.n) := by rw [hC]; rfl
  have f2 : C[2]? = some (.int .i64 c.p) := by rw [hC]; rfl
  clear hC
  generalize c.f = f at *
  generalize c.n = n at *
  generalize c.p = p at *
  by_cases h1 : f < 2
  · clear h
    go_enter Try.func14, Try.ntmps14
    go_wp2_with fail
    go_ret
    exact ⟨rfl, HL.out⟩
  by_cases h2 : f > 64
  · clear h
    go_enter Try.func14, Try.ntmps14
    go_wp2_with fail
    go_ret
    exact ⟨rfl, HL.out⟩
  by_cases h3 : n < 1
  · clear h
    go_enter Try.func14, Try.ntmps14
    go_wp2_with fail
    go_ret
    exact ⟨rfl, HL.out⟩
  by_cases h4 : n > 8
  · clear h
    go_enter Try.func14, Try.ntmps14
    go_wp2_with fail
    go_ret
    exact ⟨rfl, HL.out⟩
  by_cases h5 : p < 0
  · clear h
    go_enter Try.func14, Try.ntmps14
    go_wp2_with fail
    go_ret
    exact ⟨rfl, HL.out⟩
  by_cases h6 : p ≥ f
  · clear h
    go_enter Try.func14, Try.ntmps14
    go_wp2_with fail
    go_ret
    exact ⟨rfl, HL.out⟩
  · omega

/-- A zone, and a table of sunsets, are loaded out of a configuration. -/
theorem load_zn {ops : Array Oper} {rest : List Oper} {o : Oper} {a : Act} {W : World} {Q : Exit → Act → World → Prop} (z : Zn) (hgd : o.guard = none) (x : Operand) (ho : o.op = .load 28 x) (B off : Nat) (hx : a.eval x = .pointer (some ⟨B, off, none⟩)) (h : W.rangeAt B off (zc z).toList) (hK : wpList Try.prog ops Q rest (a.put o.dst (.agg (zc z))) W) : wpList Try.prog ops Q (o :: rest) a W := by
  have hi : (Try.prog.info? 28).map (·.size) = some (zc z).toList.length := by kernel_rfl
  refine wpList_load_mid (P := Try.prog) hgd 28 x ho B off hx (zc z).toList _ h Try.underlying28 rfl hi ?_
  simpa using hK

theorem load_sn {ops : Array Oper} {rest : List Oper} {o : Oper} {a : Act} {W : World} {Q : Exit → Act → World → Prop} (s : Nat → Int) (hgd : o.guard = none) (x : Operand) (ho : o.op = .load 30 x) (B off : Nat) (hx : a.eval x = .pointer (some ⟨B, off, none⟩)) (h : W.rangeAt B off (Sun.sc s).toList) (hK : wpList Try.prog ops Q rest (a.put o.dst (.agg (Sun.sc s))) W) : wpList Try.prog ops Q (o :: rest) a W := by
  have hi : (Try.prog.info? 30).map (·.size) = some (Sun.sc s).toList.length := by kernel_rfl
  refine wpList_load_mid (P := Try.prog) hgd 30 x ho B off hx (Sun.sc s).toList _ h Try.underlying30 rfl hi ?_
  simpa using hK

theorem cc_zone (c : Cg) (u v : Value) {W : World} {b : Nat} (h : At W b (cc c u v)) : W.rangeAt b 13 (zc c.z).toList := by
  intro j y hy
  have hj : j < 10 := by
    have := (List.getElem?_eq_some_iff.1 hy).1
    simpa [zc] using this
  refine h (13 + j) y ?_
  rw [← hy]
  match j, hj with
  | 0, _ | 1, _ | 2, _ | 3, _ | 4, _ | 5, _ | 6, _ | 7, _ | 8, _ | 9, _ => rfl
  | j + 10, hj => omega

theorem cc_sun (c : Cg) (u v : Value) {W : World} {b : Nat} (h : At W b (cc c u v)) : W.rangeAt b 23 (Sun.sc c.s).toList := by
  intro j y hy
  have hj : j < 12 := by
    have := (List.getElem?_eq_some_iff.1 hy).1
    simpa [Sun.sc] using this
  refine h (23 + j) y ?_
  rw [← hy]
  match j, hj with
  | 0, _ | 1, _ | 2, _ | 3, _ | 4, _ | 5, _ | 6, _ | 7, _ | 8, _ | 9, _ | 10, _ | 11, _ => rfl
  | j + 12, hj => omega

end Go.Proofs.Ythbgllbbliijlaa.Conf
