/-
  Whether two configurations are the same, and whether cars go on, by the program. No condition but those that each theorem states.
-/
import Derived.Test.YthbgllbbliijlaaCx
namespace Go.Proofs.Ythbgllbbliijlaa.Conf
open Go.ChangeShapes Go.WideShapes Go.ChangeAt Go.RowKit
open Go.Proofs.Ythbgllbbliijlaa.Divs Go.Proofs.Ythbgllbbliijlaa.Grow Go.Proofs.Ythbgllbbliijlaa.Zone
open Go.Proofs.Ythbgllbbliijlaa.By (Sk SL take_on take_all bool_no bool_yes)
open Go.Proofs.Ythbgllbbliijlaa.Each
open Go.Proofs.Ythbgllbbliijlaa.Zo Go.Proofs.Ythbgllbbliijlaa.Su Go.Proofs.Ythbgllbbliijlaa.Cf

/-- Are the zones the same? -/
def zq (z y : Zn) : Bool := z.b == y.b && (z.s == y.s && ((z.p.m == y.p.m && (z.p.k == y.p.k && (z.p.v == y.p.v && z.p.u == y.p.u))) && (z.q.m == y.q.m && (z.q.k == y.q.k && (z.q.v == y.q.v && z.q.u == y.q.u)))))

theorem equal_zn (z y : Zn) (w : World) : (Op.equalIn 10000 28 (.agg #[.int .i64 z.b, .int .i64 z.s, .int .i64 z.p.m, .int .i64 z.p.k, .int .i64 z.p.v, .int .i64 z.p.u, .int .i64 z.q.m, .int .i64 z.q.k, .int .i64 z.q.v, .int .i64 z.q.u])
      (.agg #[.int .i64 y.b, .int .i64 y.s, .int .i64 y.p.m, .int .i64 y.p.k, .int .i64 y.p.v, .int .i64 y.p.u, .int .i64 y.q.m, .int .i64 y.q.k, .int .i64 y.q.v, .int .i64 y.q.u])).run Try.prog w = .ok (zq z y) w :=
  equal_zone _ _ _ _ _ _ _ _ _ _ _ _ _ _ _ _ _ _ _ _ w

attribute [local go_sem high] equal_win equal_times equal_sun equal_zn

/-- Are the buildings the same? -/
def sb (a b : Cg) : Bool := a.f == b.f && (a.n == b.n && (a.p == b.p && (decide (a.st = b.st) && (tq a b && (a.r == b.r && a.q == b.q)))))

set_option maxHeartbeats 2000000 in
theorem building_any (a b : Cg) (u v u' v' : Value) (w : World) (hu : Sk .i64 w u a.st) (hu' : Sk .i64 w u' b.st) : Calls Try.prog 29 #[.agg (cc a u v), .agg (cc b u' v')] w fun e w' => e = .returned (.bool (sb a b)) ∧ Later w w' := by
  unfold sb
  have HG := Lib.hid (((Later.refl w).alloc (cc a u v) 33).alloc (cc b u' v') 33)
  have HA := Lib.hid ((At.new w (cc a u v) 33).put (.cells (cc b u' v') 33))
  have HB := Lib.hid (At.new (w.alloc (.cells (cc a u v) 33)) (cc b u' v') 33)
  simp only [World.size_alloc] at HB
  have K := Lib.hid (equal_ints u u' a.st b.st _ (hu.later HG.out) (hu'.later HG.out))
  generalize decide (a.st = b.st) = b4 at *
  clear hu hu'
  unfold cc at *
  cases e0 : (a.f == b.f) with
  | false =>
    go_enter Try.func29, Try.ntmps29
    go_wp2_with fail
    go_ret
    exact ⟨rfl, HG.out⟩
  | true =>
    cases e1 : (a.n == b.n) with
    | false =>
      go_enter Try.func29, Try.ntmps29
      go_wp2_with fail
      go_ret
      exact ⟨rfl, HG.out⟩
    | true =>
      cases e2 : (a.p == b.p) with
      | false =>
        go_enter Try.func29, Try.ntmps29
        go_wp2_with fail
        go_ret
        exact ⟨rfl, HG.out⟩
      | true =>
        go_enter Try.func29, Try.ntmps29
        go_wp2_with fail
        refine K.out.mono ?_
        rintro e w1 ⟨rfl, hg1⟩
        have HG1 := Lib.hid (gtrans HG.out hg1)
        cases b4 with
        | false =>
          clear hg1
          go_wp2_with fail
          go_ret
          exact ⟨rfl, HG1.out⟩
        | true =>
          have ha := HA.out.later hg1
          have hb := HB.out.later hg1
          have x4 := ha 4 _ rfl
          have y4 := hb 4 _ rfl
          have x5 := ha 5 _ rfl
          have y5 := hb 5 _ rfl
          have x6 := ha 6 _ rfl
          have y6 := hb 6 _ rfl
          have x7 := ha 7 _ rfl
          have y7 := hb 7 _ rfl
          have x8 := ha 8 _ rfl
          have y8 := hb 8 _ rfl
          have x9 := ha 9 _ rfl
          have y9 := hb 9 _ rfl
          have x10 := ha 10 _ rfl
          have y10 := hb 10 _ rfl
          have x11 := ha 11 _ rfl
          have y11 := hb 11 _ rfl
          have x12 := ha 12 _ rfl
          have y12 := hb 12 _ rfl
          clear ha hb hg1
          cases e5 : tq a b with
          | false =>
            go_wp2_with fail
            go_ret
            exact ⟨retb (by simp [e5]), HG1.out⟩
          | true =>
            cases e6 : (a.r == b.r) with
            | false =>
              go_wp2_with fail
              go_ret
              exact ⟨retb (by simp only [e5, e6]; rfl), HG1.out⟩
            | true =>
              cases e7 : (a.q == b.q) with
              | false =>
                go_wp2_with fail
                go_ret
                exact ⟨retb (by simp only [e5, e6, e7]; rfl), HG1.out⟩
              | true =>
                go_wp2_with fail
                go_ret
                exact ⟨retb (by simp only [e5, e6, e7]; rfl), HG1.out⟩

/-- Are the timetables the same? -/
def tt (a b : Cg) : Bool := zq a.z b.z && (sq a.s b.s && ((a.ab == b.ab) && decide (a.ws = b.ws)))

set_option maxHeartbeats 2000000 in
theorem timetable_any (a b : Cg) (u v u' v' : Value) (w : World) (hv : Wk w v a.ws) (hv' : Wk w v' b.ws) : Calls Try.prog 30 #[.agg (cc a u v), .agg (cc b u' v')] w fun e w' => e = .returned (.bool (tt a b)) ∧ Later w w' := by
  unfold tt
  have HG := Lib.hid (((Later.refl w).alloc (cc a u v) 33).alloc (cc b u' v') 33)
  have K := Lib.hid (equal_wins v v' a.ws b.ws _ (hv.later HG.out) (hv'.later HG.out))
  generalize decide (a.ws = b.ws) = b4 at *
  clear hv hv'
  unfold cc at *
  cases e0 : zq a.z b.z with
  | false =>
    go_enter Try.func30, Try.ntmps30
    go_wp2_with fail
    go_ret
    exact ⟨rfl, HG.out⟩
  | true =>
    cases e1 : sq a.s b.s with
    | false =>
      go_enter Try.func30, Try.ntmps30
      go_wp2_with fail
      go_ret
      exact ⟨rfl, HG.out⟩
    | true =>
      cases e2 : (a.ab == b.ab) with
      | false =>
        go_enter Try.func30, Try.ntmps30
        go_wp2_with fail
        go_ret
        exact ⟨rfl, HG.out⟩
      | true =>
        go_enter Try.func30, Try.ntmps30
        go_wp2_with fail
        refine K.out.mono ?_
        rintro e w1 ⟨rfl, hg1⟩
        have HG1 := Lib.hid (gtrans HG.out hg1)
        clear hg1
        cases b4 with
        | false =>
          go_wp2_with fail
          go_ret
          exact ⟨rfl, HG1.out⟩
        | true =>
          go_wp2_with fail
          go_ret
          exact ⟨rfl, HG1.out⟩

end Go.Proofs.Ythbgllbbliijlaa.Conf
