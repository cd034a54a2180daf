/-
  Whether two configurations are the same, and whether cars go on, by the program. No condition but those that each theorem states.
-/
import Derived.Test.YthbgllbbliijlaaCz
namespace Go.Proofs.Ythbgllbbliijlaa.Conf
open Go.ChangeShapes Go.WideShapes Go.ChangeAt Go.RowKit
open Go.Proofs.Ythbgllbbliijlaa.Divs Go.Proofs.Ythbgllbbliijlaa.Grow Go.Proofs.Ythbgllbbliijlaa.Zone
open Go.Proofs.Ythbgllbbliijlaa.By (Sk SL)
open Go.Proofs.Ythbgllbbliijlaa.Each
open Go.Proofs.Ythbgllbbliijlaa.Zo Go.Proofs.Ythbgllbbliijlaa.Su Go.Proofs.Ythbgllbbliijlaa.Cf

/-- A configuration is loaded whole, by an operation that is wanted. -/
theorem load_in {ops : Array Oper} {rest : List Oper} {o : Oper} {a : Act} {W : World} {Q : Exit → Act → World → Prop} (C : Array Value) (hC : C.size = 37) (hw : Region.wanted o (yielded ops a.tmps) = true) (x : Operand) (ho : o.op = .load 33 x) (g : Nat) (hx : a.eval x = .pointer (some ⟨g, 0, none⟩)) (h : At W g C) (hK : wpList Try.prog ops Q rest (a.put o.dst (.agg C)) W) : wpList Try.prog ops Q (o :: rest) a W := by
  unfold wpList
  rw [if_pos hw]
  exact .inl (wp_load_cfg C hC W g h x ho hx hK)

set_option maxHeartbeats 1000000 in
theorem same_any (a b : Cg) (u v u' v' : Value) (w : World) (hu : Sk .i64 w u a.st) (hu' : Sk .i64 w u' b.st) (hv : Wk w v a.ws) (hv' : Wk w v' b.ws) : Calls Try.prog 16 #[.agg (cc a u v), .agg (cc b u' v')] w fun e w' => e = .returned (.bool (sb a b && tt a b)) ∧ Later w w' := by
  have KB := Lib.hid (fun W (g : Later w W) => building_any a b u v u' v' W (hu.later g) (hu'.later g))
  have KT := Lib.hid (fun W (g : Later w W) => timetable_any a b u v u' v' W (hv.later g) (hv'.later g))
  clear hu hu' hv hv'
  generalize sb a b = b1 at *
  generalize tt a b = b2 at *
  obtain ⟨C, hC⟩ : ∃ C, C = cc a u v := ⟨_, rfl⟩
  obtain ⟨D, hD⟩ : ∃ D, D = cc b u' v' := ⟨_, rfl⟩
  rw [← hC, ← hD] at KB KT ⊢
  have HC : Hid (C.size = 37) := Lib.hid (by rw [hC]; rfl)
  have HD : Hid (D.size = 37) := Lib.hid (by rw [hD]; rfl)
  clear hC hD
  have HG := Lib.hid (((Later.refl w).alloc C 33).alloc D 33)
  have HA := Lib.hid ((At.new w C 33).put (.cells D 33))
  have HB := Lib.hid (At.new (w.alloc (.cells C 33)) D 33)
  simp only [World.size_alloc] at HB
  go_enter Try.func16, Try.ntmps16
  go_wp2_with (first | refine load_at C HC.out rfl (.tmp 2) rfl w.heap.size rfl HA.out ?_ | refine load_at D HD.out rfl (.tmp 3) rfl (w.heap.size + 1) rfl HB.out ?_)
  refine (KB.out _ HG.out).mono ?_
  rintro e w1 ⟨rfl, hg1⟩
  have HG1 := Lib.hid (gtrans HG.out hg1)
  have HA1 := Lib.hid (HA.out.later hg1)
  have HB1 := Lib.hid (HB.out.later hg1)
  clear hg1
  cases b1 with
  | false =>
    go_wp2_with fail
    go_ret
    exact ⟨rfl, HG1.out⟩
  | true =>
    go_wp2_with (first | refine load_in C HC.out (by rfl) (.tmp 2) rfl w.heap.size rfl HA1.out ?_ | refine load_in D HD.out (by rfl) (.tmp 3) rfl (w.heap.size + 1) rfl HB1.out ?_)
    refine (KT.out _ HG1.out).mono ?_
    rintro e w2 ⟨rfl, hg2⟩
    have HG2 := Lib.hid (gtrans HG1.out hg2)
    clear hg2
    cases b2 with
    | false =>
      go_wp2_with fail
      go_ret
      exact ⟨rfl, HG2.out⟩
    | true =>
      go_wp2_with fail
      go_ret
      exact ⟨rfl, HG2.out⟩

/-- Do cars go on? -/
def ft (a b : Cg) : Bool := (ce a == 0) && ((ce b == 0) && ((a.f == b.f) && (a.n == b.n)))

set_option maxHeartbeats 1000000 in
theorem fits_any (a b : Cg) (u v u' v' : Value) (w : World) (hu : Sk .i64 w u a.st) (hu' : Sk .i64 w u' b.st) (hv : Wk w v a.ws) (hv' : Wk w v' b.ws) : Calls Try.prog 18 #[.agg (cc a u v), .agg (cc b u' v')] w fun e w' => e = .returned (.bool (ft a b)) ∧ Later w w' := by
  unfold ft
  have KA := Lib.hid (fun W (g : Later w W) => check_any a u v W (hu.later g) (hv.later g))
  have KB := Lib.hid (fun W (g : Later w W) => check_any b u' v' W (hu'.later g) (hv'.later g))
  clear hu hu' hv hv'
  generalize ce a = x at *
  generalize ce b = y at *
  obtain ⟨C, hC⟩ : ∃ C, C = cc a u v := ⟨_, rfl⟩
  obtain ⟨D, hD⟩ : ∃ D, D = cc b u' v' := ⟨_, rfl⟩
  rw [← hC] at KA ⊢
  rw [← hD] at KB ⊢
  have HC : Hid (C.size = 37) := Lib.hid (by rw [hC]; rfl)
  have HD : Hid (D.size = 37) := Lib.hid (by rw [hD]; rfl)
  have C0 : Hid (C[0]? = some (.int .i64 a.f)) := Lib.hid (by rw [hC]; rfl)
  have C1 : Hid (C[1]? = some (.int .i64 a.n)) := Lib.hid (by rw [hC]; rfl)
  have D0 : Hid (D[0]? = some (.int .i64 b.f)) := Lib.hid (by rw [hD]; rfl)
  have D1 : Hid (D[1]? = some (.int .i64 b.n)) := Lib.hid (by rw [hD]; rfl)
  clear hC hD
  generalize a.f = af at *
  generalize a.n = an at *
  generalize b.f = bf at *
  generalize b.n = bn at *
  have HG := Lib.hid (((Later.refl w).alloc C 33).alloc D 33)
  have HA := Lib.hid ((At.new w C 33).put (.cells D 33))
  have HB := Lib.hid (At.new (w.alloc (.cells C 33)) D 33)
  simp only [World.size_alloc] at HB
  go_enter Try.func18, Try.ntmps18
  go_wp2_with (refine load_at C HC.out rfl (.tmp 2) rfl w.heap.size rfl HA.out ?_)
  refine (KA.out _ HG.out).mono ?_
  rintro e w1 ⟨rfl, hg1⟩
  have HG1 := Lib.hid (gtrans HG.out hg1)
  have HA1 := Lib.hid (HA.out.later hg1)
  have HB1 := Lib.hid (HB.out.later hg1)
  clear hg1
  cases e1 : (x == 0) with
  | false =>
    go_wp2_with fail
    go_ret
    exact ⟨retb (by simp only [e1]; rfl), HG1.out⟩
  | true =>
    go_wp2_with (refine load_in D HD.out (by rfl) (.tmp 3) rfl (w.heap.size + 1) rfl HB1.out ?_)
    refine (KB.out _ HG1.out).mono ?_
    rintro e w2 ⟨rfl, hg2⟩
    have HG2 := Lib.hid (gtrans HG1.out hg2)
    have c0 := HA1.out.later hg2 0 _ C0.out
    have c1 := HA1.out.later hg2 1 _ C1.out
    have d0 := HB1.out.later hg2 0 _ D0.out
    have d1 := HB1.out.later hg2 1 _ D1.out
    clear hg2
    cases e2 : (y == 0) with
    | false =>
      go_wp2_with fail
      go_ret
      exact ⟨retb (by simp only [e1, e2]; rfl), HG2.out⟩
    | true =>
      cases e3 : (af == bf) with
      | false =>
        go_wp2_with fail
        go_ret
        exact ⟨retb (by simp only [e1, e2, e3]; rfl), HG2.out⟩
      | true =>
        cases e4 : (an == bn) with
        | false =>
          go_wp2_with fail
          go_ret
          exact ⟨retb (by simp only [e1, e2, e3, e4]; rfl), HG2.out⟩
        | true =>
          go_wp2_with fail
          go_ret
          exact ⟨retb (by simp only [e1, e2, e3, e4]; rfl), HG2.out⟩

end Go.Proofs.Ythbgllbbliijlaa.Conf
