/-
  Texts of mine, merged: each part says what it holds. Conditions: as each theorem states.
-/
import Derived.RowKit
import Derived.Test.YtihdijkplmfhfaaGreatDoorM13

/- The span of a window that begins on a day, by the program. Conditions: the table of months lies where the program lays it; the day is an int. -/
namespace Go.Proofs.YtihdijkplmfhfaaGreatDoor.Window
set_option maxRecDepth 100000
open Go.ChangeShapes Go.WideShapes Go.ChangeAt Go.RowKit
open Go.Proofs.YtihdijkplmfhfaaGreatDoor.Divs Go.Proofs.YtihdijkplmfhfaaGreatDoor.Grow
open Go.Proofs.YtihdijkplmfhfaaGreatDoor.Greg (Laid)
open Go.Proofs.YtihdijkplmfhfaaGreatDoor.Zo Go.Proofs.YtihdijkplmfhfaaGreatDoor.Zone Go.Proofs.YtihdijkplmfhfaaGreatDoor.Win
open Go.Proofs.YtihdijkplmfhfaaGreatDoor.Cf (Cg Wn ce wo)
open Go.Proofs.YtihdijkplmfhfaaGreatDoor.Conf (wc cc Is)
open Go.Proofs.YtihdijkplmfhfaaGreatDoor.Fe (kd rst)
open Go.Proofs.YtihdijkplmfhfaaGreatDoor.Su (mV mE sk sa)

open Go.Proofs.YtihdijkplmfhfaaGreatDoor.Conf (At load_at)

/-- The block g has these cells. -/
def RA (W : World) (g : Nat) (cs : Array Value) (t : TypeId) : Prop := W.heap[g]? = some (.cells cs t (0, 0))

theorem RA.lt {W : World} {g : Nat} {cs : Array Value} {t : TypeId} (h : RA W g cs t) : g < W.heap.size := by
  rcases Nat.lt_or_ge g W.heap.size with k | k
  · exact k
  · unfold RA at h
    rw [Array.getElem?_eq_none k] at h
    simp at h

theorem RA.later {W W' : World} {g : Nat} {cs : Array Value} {t : TypeId} (h : RA W g cs t) (k : Later W W') : RA W' g cs t := (k.2.2.2 g h.lt).trans h

theorem RA.new (W : World) (cs : Array Value) (t : TypeId) : RA (W.alloc (.cells cs t)) W.heap.size cs t := heap_alloc_new _ _

theorem RA.cell {W : World} {g : Nat} {cs : Array Value} {t : TypeId} (h : RA W g cs t) (i : Nat) (v : Value) (hv : cs[i]? = some v) : W.cell? ⟨g, i, none⟩ = some v := by
  unfold RA at h
  simp [World.cell?, h, hv]

theorem RA.froz {W : World} {g : Nat} {cs : Array Value} {t : TypeId} (h : RA W g cs t) (i : Nat) : W.frozen? ⟨g, i, none⟩ = false := by
  unfold RA at h
  simp [World.frozen?, h]

theorem RA.set {W : World} {g : Nat} {cs : Array Value} {t : TypeId} (h : RA W g cs t) (k : Nat) (v : Value) : RA (W.setCell ⟨g, k, none⟩ v) g (cs.setIfInBounds k v) t := by
  unfold RA at *
  simp [World.setCell, Array.getElem?_modify, h]

theorem RA.set4 {W : World} {g : Nat} {t : TypeId} {u0 u1 u2 u3 : Value} (h : RA W g #[u0, u1, u2, u3] t) (v0 v1 v2 v3 : Value) :
    RA ((((W.setCell ⟨g, 0, none⟩ v0).setCell ⟨g, 1, none⟩ v1).setCell ⟨g, 2, none⟩ v2).setCell ⟨g, 3, none⟩ v3) g #[v0, v1, v2, v3] t := by
  have := (((h.set 0 v0).set 1 v1).set 2 v2).set 3 v3
  simpa using this

theorem RA.set2 {W : World} {g : Nat} {t : TypeId} {u0 u1 : Value} (h : RA W g #[u0, u1] t) (v0 v1 : Value) :
    RA ((W.setCell ⟨g, 0, none⟩ v0).setCell ⟨g, 1, none⟩ v1) g #[v0, v1] t := by
  have := (h.set 0 v0).set 1 v1
  simpa using this

/-- A new block's cells may be set. -/
theorem later_set {w W : World} (h : Later w W) {g : Nat} (hg : w.heap.size ≤ g) (k : Nat) (v : Value) : Later w (W.setCell ⟨g, k, none⟩ v) := h.setCell (by exact hg) v

theorem later_set4 {w W : World} (h : Later w W) {g : Nat} (hg : w.heap.size ≤ g) (v0 v1 v2 v3 : Value) : Later w ((((W.setCell ⟨g, 0, none⟩ v0).setCell ⟨g, 1, none⟩ v1).setCell ⟨g, 2, none⟩ v2).setCell ⟨g, 3, none⟩ v3) :=
  later_set (later_set (later_set (later_set h hg _ _) hg _ _) hg _ _) hg _ _

theorem later_set2 {w W : World} (h : Later w W) {g : Nat} (hg : w.heap.size ≤ g) (v0 v1 : Value) : Later w ((W.setCell ⟨g, 0, none⟩ v0).setCell ⟨g, 1, none⟩ v1) :=
  later_set (later_set h hg _ _) hg _ _

/-- Results: a struct in a block; with a slot behind it; with two. -/
theorem results_r {P : Program} {fn : Func} {p : Tmp} {ty : TypeId} (h : fn.results = #[.cell p ty]) (tmps : Array Value) (w : World) (g : Nat) (t : TypeId) (cs : Array Value) (d : TypeDesc)
    (hp : tmps.getD p undef = .pointer (some ⟨g, 0, none⟩)) (hg : RA w g cs t)
    (hu : P.underlying ty = some d) (hd : (match d with | .struct _ | .array _ _ => true | _ => false) = true) (hi : (P.info? ty).map (·.size) = some cs.size) :
    (results fn tmps).run P w = .ok (.agg cs) w := by
  have hp' : tmps[p]?.getD undef = .pointer (some ⟨g, 0, none⟩) := by simpa using hp
  simp [results, h, hp', asAddr, run_loadVar_row w g t ty cs (0, 0) d hg hu hd hi]

theorem results_rt {P : Program} {fn : Func} {p q : Tmp} {ty : TypeId} (h : fn.results = #[.cell p ty, .tmp q]) (tmps : Array Value) (w : World) (g : Nat) (t : TypeId) (cs : Array Value) (d : TypeDesc) (v : Value)
    (hp : tmps.getD p undef = .pointer (some ⟨g, 0, none⟩)) (hq : tmps.getD q undef = v) (hg : RA w g cs t)
    (hu : P.underlying ty = some d) (hd : (match d with | .struct _ | .array _ _ => true | _ => false) = true) (hi : (P.info? ty).map (·.size) = some cs.size) :
    (results fn tmps).run P w = .ok (.tuple #[.agg cs, v]) w := by
  have hp' : tmps[p]?.getD undef = .pointer (some ⟨g, 0, none⟩) := by simpa using hp
  have hq' : tmps[q]?.getD undef = v := by simpa using hq
  simp [results, h, hp', hq', asAddr, run_loadVar_row w g t ty cs (0, 0) d hg hu hd hi]

theorem results_rtt {P : Program} {fn : Func} {p q s : Tmp} {ty : TypeId} (h : fn.results = #[.cell p ty, .tmp q, .tmp s]) (tmps : Array Value) (w : World) (g : Nat) (t : TypeId) (cs : Array Value) (d : TypeDesc) (v u : Value)
    (hp : tmps.getD p undef = .pointer (some ⟨g, 0, none⟩)) (hq : tmps.getD q undef = v) (hs : tmps.getD s undef = u) (hg : RA w g cs t)
    (hu : P.underlying ty = some d) (hd : (match d with | .struct _ | .array _ _ => true | _ => false) = true) (hi : (P.info? ty).map (·.size) = some cs.size) :
    (results fn tmps).run P w = .ok (.tuple #[.agg cs, v, u]) w := by
  have hp' : tmps[p]?.getD undef = .pointer (some ⟨g, 0, none⟩) := by simpa using hp
  have hq' : tmps[q]?.getD undef = v := by simpa using hq
  have hs' : tmps[s]?.getD undef = u := by simpa using hs
  simp [results, h, hp', hq', hs', asAddr, run_loadVar_row w g t ty cs (0, 0) d hg hu hd hi]

/-- A span's cells. -/
def sc4 (f t m p : Int) : Array Value := #[.int .i64 f, .int .i64 t, .int .i64 m, .int .i64 p]

theorem span_cfg (D : Array Value) (c : Cg) (x : Wn) (d : Int) (w : World) (hL : Laid w) (hc : Is w D c) (h : ¬ ce c = 0) : Calls Tryz.prog 96 #[.agg D, .agg (wc x).toArray, .int .i64 d] w fun e w' => e = .returned (.tuple #[.agg (sc4 0 0 0 0), .bool false, .int .i64 (ce c)]) ∧ Later w w' := by
  have e0 : (ce c != 0) = true := by simpa using h
  have KC := Lib.hid (fun W (g : Later w W) => Conf.check_of (hc.later g))
  have HZ := Lib.hid hc.size
  have HG0 := Lib.hid ((((Later.refl w).alloc D 33).alloc (wc x).toArray 65).alloc (sc4 0 0 0 0) 56)
  have HL0 := Lib.hid (hL.grown HG0.out)
  have HA0 := Lib.hid (((At.new w D 33).put (.cells (wc x).toArray 65)).put (.cells (sc4 0 0 0 0) 56))
  have HB0 := Lib.hid ((At.new (w.alloc (.cells D 33)) (wc x).toArray 65).put (.cells (sc4 0 0 0 0) 56))
  have HR0 := Lib.hid (RA.new ((w.alloc (.cells D 33)).alloc (.cells (wc x).toArray 65)) (sc4 0 0 0 0) 56)
  simp only [World.size_alloc] at HB0 HR0
  clear hL hc h
  generalize ce c = k at *
  unfold wc sc4 at *
  go_enter Tryz.func96, Tryz.ntmps96
  go_wp2_with (refine load_at D HZ.out rfl (.tmp 3) rfl w.heap.size rfl HA0.out ?_)
  refine (KC.out _ HG0.out).mono ?_
  rintro e w1 ⟨rfl, hg1⟩
  have HG1 := Lib.hid (gtrans HG0.out hg1)
  have HR1 := Lib.hid (HR0.out.later hg1)
  clear hg1
  have r0 := (HR1.out).cell 0 _ rfl
  have f0 := (HR1.out).froz 0
  have r1 := (HR1.out).cell 1 _ rfl
  have f1 := (HR1.out).froz 1
  have r2 := (HR1.out).cell 2 _ rfl
  have f2 := (HR1.out).froz 2
  have r3 := (HR1.out).cell 3 _ rfl
  have f3 := (HR1.out).froz 3
  go_wp2_with fail
  refine bodyPost_ret (results_rtt (P := Tryz.prog) (fn := Tryz.f96) Tryz.results96 _ _ (w.heap.size + 1 + 1) 56 _ _ _ _ rfl rfl rfl (RA.set4 (HR1.out) _ _ _ _) Tryz.underlying56 rfl (by kernel_rfl)) rfl ⟨rfl, ?_⟩
  exact later_set4 (HG1.out) (by omega) _ _ _ _

theorem span_win (D : Array Value) (c : Cg) (x : Wn) (d : Int) (w : World) (hL : Laid w) (hc : Is w D c) (h : ce c = 0) (h2 : wo x = false) : Calls Tryz.prog 96 #[.agg D, .agg (wc x).toArray, .int .i64 d] w fun e w' => e = .returned (.tuple #[.agg (sc4 0 0 0 0), .bool false, .int .i64 104]) ∧ Later w w' := by
  have e0 : (ce c != 0) = false := by simpa using h
  have KW := Lib.hid (fun W => Conf.window_any x W)
  rw [show Cf.we x = 104 by unfold Cf.we; rw [h2]; rfl] at KW
  have KC := Lib.hid (fun W (g : Later w W) => Conf.check_of (hc.later g))
  have HZ := Lib.hid hc.size
  have HG0 := Lib.hid ((((Later.refl w).alloc D 33).alloc (wc x).toArray 65).alloc (sc4 0 0 0 0) 56)
  have HL0 := Lib.hid (hL.grown HG0.out)
  have HA0 := Lib.hid (((At.new w D 33).put (.cells (wc x).toArray 65)).put (.cells (sc4 0 0 0 0) 56))
  have HB0 := Lib.hid ((At.new (w.alloc (.cells D 33)) (wc x).toArray 65).put (.cells (sc4 0 0 0 0) 56))
  have HR0 := Lib.hid (RA.new ((w.alloc (.cells D 33)).alloc (.cells (wc x).toArray 65)) (sc4 0 0 0 0) 56)
  simp only [World.size_alloc] at HB0 HR0
  clear hL hc h
  generalize ce c = k at *
  unfold wc sc4 at *
  go_enter Tryz.func96, Tryz.ntmps96
  go_wp2_with (refine load_at D HZ.out rfl (.tmp 3) rfl w.heap.size rfl HA0.out ?_)
  refine (KC.out _ HG0.out).mono ?_
  rintro e w1 ⟨rfl, hg1⟩
  have HG1 := Lib.hid (gtrans HG0.out hg1)
  have HB1' : Hid (w1.rangeAt (w.heap.size + 1) 0 (wc x)) := Lib.hid (fun j y hy => by rw [Nat.zero_add]; exact HB0.out.later hg1 j y (by simpa [wc] using hy))
  have HL1 := Lib.hid (HL0.out.grown hg1)
  have HA1 := Lib.hid (HA0.out.later hg1)
  have HB1 := Lib.hid (HB0.out.later hg1)
  have HR1 := Lib.hid (HR0.out.later hg1)
  clear hg1
  go_wp2_with (refine Conf.load_win x rfl (.tmp 4) rfl (w.heap.size + 1) 0 rfl HB1'.out ?_)
  refine (KW.out _).mono ?_
  rintro e w2 ⟨rfl, hg2⟩
  have HG2 := Lib.hid (gtrans HG1.out hg2)
  have HL2 := Lib.hid (HL1.out.grown hg2)
  have HA2 := Lib.hid (HA1.out.later hg2)
  have HB2 := Lib.hid (HB1.out.later hg2)
  have HR2 := Lib.hid (HR1.out.later hg2)
  clear hg2
  have r0 := (HR2.out).cell 0 _ rfl
  have f0 := (HR2.out).froz 0
  have r1 := (HR2.out).cell 1 _ rfl
  have f1 := (HR2.out).froz 1
  have r2 := (HR2.out).cell 2 _ rfl
  have f2 := (HR2.out).froz 2
  have r3 := (HR2.out).cell 3 _ rfl
  have f3 := (HR2.out).froz 3
  go_wp2_with fail
  refine bodyPost_ret (results_rtt (P := Tryz.prog) (fn := Tryz.f96) Tryz.results96 _ _ (w.heap.size + 1 + 1) 56 _ _ _ _ rfl rfl rfl (RA.set4 (HR2.out) _ _ _ _) Tryz.underlying56 rfl (by kernel_rfl)) rfl ⟨rfl, ?_⟩
  exact later_set4 (HG2.out) (by omega) _ _ _ _

theorem span_day (D : Array Value) (c : Cg) (x : Wn) (d : Int) (w : World) (hL : Laid w) (hc : Is w D c) (h : ce c = 0) (h2 : wo x = true) (hd : ¬ (402 ≤ d ∧ d ≤ 3651990)) : Calls Tryz.prog 96 #[.agg D, .agg (wc x).toArray, .int .i64 d] w fun e w' => e = .returned (.tuple #[.agg (sc4 0 0 0 0), .bool false, .int .i64 140]) ∧ Later w w' := by
  have e0 : (ce c != 0) = false := by simpa using h
  have KW := Lib.hid (fun W => Conf.window_any x W)
  rw [show Cf.we x = 0 from (Cf.we_ok x).2 h2] at KW
  have KA := Lib.hid (fun W => asked_any d W)
  rw [wiB_not d 402 3651990 hd] at KA
  have KC := Lib.hid (fun W (g : Later w W) => Conf.check_of (hc.later g))
  have HZ := Lib.hid hc.size
  have HG0 := Lib.hid ((((Later.refl w).alloc D 33).alloc (wc x).toArray 65).alloc (sc4 0 0 0 0) 56)
  have HL0 := Lib.hid (hL.grown HG0.out)
  have HA0 := Lib.hid (((At.new w D 33).put (.cells (wc x).toArray 65)).put (.cells (sc4 0 0 0 0) 56))
  have HB0 := Lib.hid ((At.new (w.alloc (.cells D 33)) (wc x).toArray 65).put (.cells (sc4 0 0 0 0) 56))
  have HR0 := Lib.hid (RA.new ((w.alloc (.cells D 33)).alloc (.cells (wc x).toArray 65)) (sc4 0 0 0 0) 56)
  simp only [World.size_alloc] at HB0 HR0
  clear hL hc h hd
  generalize ce c = k at *
  unfold wc sc4 at *
  go_enter Tryz.func96, Tryz.ntmps96
  go_wp2_with (refine load_at D HZ.out rfl (.tmp 3) rfl w.heap.size rfl HA0.out ?_)
  refine (KC.out _ HG0.out).mono ?_
  rintro e w1 ⟨rfl, hg1⟩
  have HG1 := Lib.hid (gtrans HG0.out hg1)
  have HB1' : Hid (w1.rangeAt (w.heap.size + 1) 0 (wc x)) := Lib.hid (fun j y hy => by rw [Nat.zero_add]; exact HB0.out.later hg1 j y (by simpa [wc] using hy))
  have HL1 := Lib.hid (HL0.out.grown hg1)
  have HA1 := Lib.hid (HA0.out.later hg1)
  have HB1 := Lib.hid (HB0.out.later hg1)
  have HR1 := Lib.hid (HR0.out.later hg1)
  clear hg1
  go_wp2_with (refine Conf.load_win x rfl (.tmp 4) rfl (w.heap.size + 1) 0 rfl HB1'.out ?_)
  refine (KW.out _).mono ?_
  rintro e w2 ⟨rfl, hg2⟩
  have HG2 := Lib.hid (gtrans HG1.out hg2)
  have HL2 := Lib.hid (HL1.out.grown hg2)
  have HA2 := Lib.hid (HA1.out.later hg2)
  have HB2 := Lib.hid (HB1.out.later hg2)
  have HR2 := Lib.hid (HR1.out.later hg2)
  clear hg2
  go_wp2_with fail
  refine (KA.out _).mono ?_
  rintro e w3 ⟨rfl, rfl⟩
  have r0 := (HR2.out).cell 0 _ rfl
  have f0 := (HR2.out).froz 0
  have r1 := (HR2.out).cell 1 _ rfl
  have f1 := (HR2.out).froz 1
  have r2 := (HR2.out).cell 2 _ rfl
  have f2 := (HR2.out).froz 2
  have r3 := (HR2.out).cell 3 _ rfl
  have f3 := (HR2.out).froz 3
  go_wp2_with fail
  refine bodyPost_ret (results_rtt (P := Tryz.prog) (fn := Tryz.f96) Tryz.results96 _ _ (w.heap.size + 1 + 1) 56 _ _ _ _ rfl rfl rfl (RA.set4 (HR2.out) _ _ _ _) Tryz.underlying56 rfl (by kernel_rfl)) rfl ⟨rfl, ?_⟩
  exact later_set4 (HG2.out) (by omega) _ _ _ _

theorem kind_weekly_of {W : World} {D : Array Value} {c : Cg} (h : Is W D c) (x : Wn) (hk : x.k = 1) : Calls Tryz.prog 125 #[.agg D, .agg (wc x).toArray] W fun e w' => e = .returned (.iface 165 (.agg (wk c.z x.u x.l x.a))) ∧ Later W w' := by
  obtain ⟨u, v, rfl, _, _⟩ := h
  exact kind_weekly c u v x W hk

theorem kind_dated_of {W : World} {D : Array Value} {c : Cg} (h : Is W D c) (x : Wn) (hk : x.k = 2) : Calls Tryz.prog 125 #[.agg D, .agg (wc x).toArray] W fun e w' => e = .returned (.iface 167 (.agg (wk c.z x.u x.l x.a))) ∧ Later W w' := by
  obtain ⟨u, v, rfl, _, _⟩ := h
  exact kind_dated c u v x W hk

theorem kind_festive_of {W : World} {D : Array Value} {c : Cg} (h : Is W D c) (x : Wn) (hk : x.k = 3) : Calls Tryz.prog 125 #[.agg D, .agg (wc x).toArray] W fun e w' => e = .returned (.iface 169 (.agg (fk c.z x.u x.l x.a x.h c.ab))) ∧ Later W w' := by
  obtain ⟨u, v, rfl, _, _⟩ := h
  exact kind_festive c u v x W hk

theorem kind_restful_of {W : World} {D : Array Value} {c : Cg} (h : Is W D c) (x : Wn) (hk : x.k = 4) : Calls Tryz.prog 125 #[.agg D, .agg (wc x).toArray] W fun e w' => e = .returned (.iface 171 (.agg (rk c.z c.s c.ab x.u x.l))) ∧ Later W w' := by
  obtain ⟨u, v, rfl, _, _⟩ := h
  exact kind_restful c u v x W hk

theorem span_weekly_no (D : Array Value) (c : Cg) (x : Wn) (d : Int) (w : World) (hL : Laid w) (hc : Is w D c) (h : ce c = 0) (h2 : wo x = true) (d0 : 402 ≤ d) (d1 : d ≤ 3651990) (hk : x.k = 1) (hb : beg c x d = false) : Calls Tryz.prog 96 #[.agg D, .agg (wc x).toArray, .int .i64 d] w fun e w' => e = .returned (.tuple #[.agg (sc4 0 0 0 0), .bool false, .int .i64 0]) ∧ Later w w' := by
  have e0 : (ce c != 0) = false := by simpa using h
  have KW := Lib.hid (fun W => Conf.window_any x W)
  rw [show Cf.we x = 0 from (Cf.we_ok x).2 h2] at KW
  have KA := Lib.hid (fun W => asked_any d W)
  rw [(wiB_iff d 402 3651990).2 ⟨d0, d1⟩] at KA
  have hw := (Conf.wo_iff x).1 h2
  obtain ⟨hz, hs⟩ := ce_parts c h
  have KK := Lib.hid (fun W (g : Later w W) => kind_weekly_of (hc.later g) x hk)
  have KB := Lib.hid (fun W => weekly_begins c.z x.u x.l x.a d W (by omega) (by omega))
  rw [show bit x.a d = beg c x d by unfold beg; rw [hk]; simp, hb] at KB
  have KC := Lib.hid (fun W (g : Later w W) => Conf.check_of (hc.later g))
  have HZ := Lib.hid hc.size
  have HG0 := Lib.hid ((((Later.refl w).alloc D 33).alloc (wc x).toArray 65).alloc (sc4 0 0 0 0) 56)
  have HL0 := Lib.hid (hL.grown HG0.out)
  have HA0 := Lib.hid (((At.new w D 33).put (.cells (wc x).toArray 65)).put (.cells (sc4 0 0 0 0) 56))
  have HB0 := Lib.hid ((At.new (w.alloc (.cells D 33)) (wc x).toArray 65).put (.cells (sc4 0 0 0 0) 56))
  have HR0 := Lib.hid (RA.new ((w.alloc (.cells D 33)).alloc (.cells (wc x).toArray 65)) (sc4 0 0 0 0) 56)
  simp only [World.size_alloc] at HB0 HR0
  clear hL hc h h2 hz hs hw d0 d1 hb hk
  generalize ce c = k at *
  obtain ⟨KV, hKV⟩ : ∃ KV, KV = wk c.z x.u x.l x.a := ⟨_, rfl⟩
  rw [← hKV] at KK KB
  clear hKV
  unfold wc sc4 at *
  go_enter Tryz.func96, Tryz.ntmps96
  go_wp2_with (refine load_at D HZ.out rfl (.tmp 3) rfl w.heap.size rfl HA0.out ?_)
  refine (KC.out _ HG0.out).mono ?_
  rintro e w1 ⟨rfl, hg1⟩
  have HG1 := Lib.hid (gtrans HG0.out hg1)
  have HB1' : Hid (w1.rangeAt (w.heap.size + 1) 0 (wc x)) := Lib.hid (fun j y hy => by rw [Nat.zero_add]; exact HB0.out.later hg1 j y (by simpa [wc] using hy))
  have HL1 := Lib.hid (HL0.out.grown hg1)
  have HA1 := Lib.hid (HA0.out.later hg1)
  have HB1 := Lib.hid (HB0.out.later hg1)
  have HR1 := Lib.hid (HR0.out.later hg1)
  clear hg1
  go_wp2_with (refine Conf.load_win x rfl (.tmp 4) rfl (w.heap.size + 1) 0 rfl HB1'.out ?_)
  refine (KW.out _).mono ?_
  rintro e w2 ⟨rfl, hg2⟩
  have HG2 := Lib.hid (gtrans HG1.out hg2)
  have HL2 := Lib.hid (HL1.out.grown hg2)
  have HA2 := Lib.hid (HA1.out.later hg2)
  have HB2 := Lib.hid (HB1.out.later hg2)
  have HR2 := Lib.hid (HR1.out.later hg2)
  clear hg2
  go_wp2_with fail
  refine (KA.out _).mono ?_
  rintro e w3 ⟨rfl, rfl⟩
  have HB2' : Hid (w2.rangeAt (w.heap.size + 1) 0 (wc x)) := Lib.hid (fun j y hy => by rw [Nat.zero_add]; exact HB2.out j y (by simpa [wc] using hy))
  go_wp2_with (first | (refine load_at D HZ.out rfl (.tmp 3) rfl w.heap.size rfl HA2.out ?_) | (refine Conf.load_win x rfl (.tmp 4) rfl (w.heap.size + 1) 0 rfl HB2'.out ?_))
  refine (KK.out _ HG2.out).mono ?_
  rintro e w4 ⟨rfl, hg4⟩
  have HG4 := Lib.hid (gtrans HG2.out hg4)
  have HL4 := Lib.hid (HL2.out.grown hg4)
  have HB4 := Lib.hid (HB2.out.later hg4)
  have HR4 := Lib.hid (HR2.out.later hg4)
  clear hg4
  go_wp2_with fail
  refine (KB.out _).mono ?_
  rintro e w5 ⟨rfl, hg5⟩
  have HG5 := Lib.hid (gtrans HG4.out hg5)
  have HL5 := Lib.hid (HL4.out.grown hg5)
  have HB5 := Lib.hid (HB4.out.later hg5)
  have HR5 := Lib.hid (HR4.out.later hg5)
  clear hg5
  have r0 := (HR5.out).cell 0 _ rfl
  have f0 := (HR5.out).froz 0
  have r1 := (HR5.out).cell 1 _ rfl
  have f1 := (HR5.out).froz 1
  have r2 := (HR5.out).cell 2 _ rfl
  have f2 := (HR5.out).froz 2
  have r3 := (HR5.out).cell 3 _ rfl
  have f3 := (HR5.out).froz 3
  go_wp2_with fail
  refine bodyPost_ret (results_rtt (P := Tryz.prog) (fn := Tryz.f96) Tryz.results96 _ _ (w.heap.size + 1 + 1) 56 _ _ _ _ rfl rfl rfl (RA.set4 (HR5.out) _ _ _ _) Tryz.underlying56 rfl (by kernel_rfl)) rfl ⟨rfl, ?_⟩
  exact later_set4 (HG5.out) (by omega) _ _ _ _

theorem span_dated_no (D : Array Value) (c : Cg) (x : Wn) (d : Int) (w : World) (hL : Laid w) (hc : Is w D c) (h : ce c = 0) (h2 : wo x = true) (d0 : 402 ≤ d) (d1 : d ≤ 3651990) (hk : x.k = 2) (hb : beg c x d = false) : Calls Tryz.prog 96 #[.agg D, .agg (wc x).toArray, .int .i64 d] w fun e w' => e = .returned (.tuple #[.agg (sc4 0 0 0 0), .bool false, .int .i64 0]) ∧ Later w w' := by
  have e0 : (ce c != 0) = false := by simpa using h
  have KW := Lib.hid (fun W => Conf.window_any x W)
  rw [show Cf.we x = 0 from (Cf.we_ok x).2 h2] at KW
  have KA := Lib.hid (fun W => asked_any d W)
  rw [(wiB_iff d 402 3651990).2 ⟨d0, d1⟩] at KA
  have hw := (Conf.wo_iff x).1 h2
  obtain ⟨hz, hs⟩ := ce_parts c h
  have KK := Lib.hid (fun W (g : Later w W) => kind_dated_of (hc.later g) x hk)
  have KB := Lib.hid (fun W => dated_begins c.z x.u x.l x.a d W)
  rw [show (d == x.a) = beg c x d by unfold beg; rw [hk]; simp, hb] at KB
  have KC := Lib.hid (fun W (g : Later w W) => Conf.check_of (hc.later g))
  have HZ := Lib.hid hc.size
  have HG0 := Lib.hid ((((Later.refl w).alloc D 33).alloc (wc x).toArray 65).alloc (sc4 0 0 0 0) 56)
  have HL0 := Lib.hid (hL.grown HG0.out)
  have HA0 := Lib.hid (((At.new w D 33).put (.cells (wc x).toArray 65)).put (.cells (sc4 0 0 0 0) 56))
  have HB0 := Lib.hid ((At.new (w.alloc (.cells D 33)) (wc x).toArray 65).put (.cells (sc4 0 0 0 0) 56))
  have HR0 := Lib.hid (RA.new ((w.alloc (.cells D 33)).alloc (.cells (wc x).toArray 65)) (sc4 0 0 0 0) 56)
  simp only [World.size_alloc] at HB0 HR0
  clear hL hc h h2 hz hs hw d0 d1 hb hk
  generalize ce c = k at *
  obtain ⟨KV, hKV⟩ : ∃ KV, KV = wk c.z x.u x.l x.a := ⟨_, rfl⟩
  rw [← hKV] at KK KB
  clear hKV
  unfold wc sc4 at *
  go_enter Tryz.func96, Tryz.ntmps96
  go_wp2_with (refine load_at D HZ.out rfl (.tmp 3) rfl w.heap.size rfl HA0.out ?_)
  refine (KC.out _ HG0.out).mono ?_
  rintro e w1 ⟨rfl, hg1⟩
  have HG1 := Lib.hid (gtrans HG0.out hg1)
  have HB1' : Hid (w1.rangeAt (w.heap.size + 1) 0 (wc x)) := Lib.hid (fun j y hy => by rw [Nat.zero_add]; exact HB0.out.later hg1 j y (by simpa [wc] using hy))
  have HL1 := Lib.hid (HL0.out.grown hg1)
  have HA1 := Lib.hid (HA0.out.later hg1)
  have HB1 := Lib.hid (HB0.out.later hg1)
  have HR1 := Lib.hid (HR0.out.later hg1)
  clear hg1
  go_wp2_with (refine Conf.load_win x rfl (.tmp 4) rfl (w.heap.size + 1) 0 rfl HB1'.out ?_)
  refine (KW.out _).mono ?_
  rintro e w2 ⟨rfl, hg2⟩
  have HG2 := Lib.hid (gtrans HG1.out hg2)
  have HL2 := Lib.hid (HL1.out.grown hg2)
  have HA2 := Lib.hid (HA1.out.later hg2)
  have HB2 := Lib.hid (HB1.out.later hg2)
  have HR2 := Lib.hid (HR1.out.later hg2)
  clear hg2
  go_wp2_with fail
  refine (KA.out _).mono ?_
  rintro e w3 ⟨rfl, rfl⟩
  have HB2' : Hid (w2.rangeAt (w.heap.size + 1) 0 (wc x)) := Lib.hid (fun j y hy => by rw [Nat.zero_add]; exact HB2.out j y (by simpa [wc] using hy))
  go_wp2_with (first | (refine load_at D HZ.out rfl (.tmp 3) rfl w.heap.size rfl HA2.out ?_) | (refine Conf.load_win x rfl (.tmp 4) rfl (w.heap.size + 1) 0 rfl HB2'.out ?_))
  refine (KK.out _ HG2.out).mono ?_
  rintro e w4 ⟨rfl, hg4⟩
  have HG4 := Lib.hid (gtrans HG2.out hg4)
  have HL4 := Lib.hid (HL2.out.grown hg4)
  have HB4 := Lib.hid (HB2.out.later hg4)
  have HR4 := Lib.hid (HR2.out.later hg4)
  clear hg4
  go_wp2_with fail
  refine (KB.out _).mono ?_
  rintro e w5 ⟨rfl, hg5⟩
  have HG5 := Lib.hid (gtrans HG4.out hg5)
  have HL5 := Lib.hid (HL4.out.grown hg5)
  have HB5 := Lib.hid (HB4.out.later hg5)
  have HR5 := Lib.hid (HR4.out.later hg5)
  clear hg5
  have r0 := (HR5.out).cell 0 _ rfl
  have f0 := (HR5.out).froz 0
  have r1 := (HR5.out).cell 1 _ rfl
  have f1 := (HR5.out).froz 1
  have r2 := (HR5.out).cell 2 _ rfl
  have f2 := (HR5.out).froz 2
  have r3 := (HR5.out).cell 3 _ rfl
  have f3 := (HR5.out).froz 3
  go_wp2_with fail
  refine bodyPost_ret (results_rtt (P := Tryz.prog) (fn := Tryz.f96) Tryz.results96 _ _ (w.heap.size + 1 + 1) 56 _ _ _ _ rfl rfl rfl (RA.set4 (HR5.out) _ _ _ _) Tryz.underlying56 rfl (by kernel_rfl)) rfl ⟨rfl, ?_⟩
  exact later_set4 (HG5.out) (by omega) _ _ _ _

theorem span_festive_no (D : Array Value) (c : Cg) (x : Wn) (d : Int) (w : World) (hL : Laid w) (hc : Is w D c) (h : ce c = 0) (h2 : wo x = true) (d0 : 402 ≤ d) (d1 : d ≤ 3651990) (hk : x.k = 3) (hb : beg c x d = false) : Calls Tryz.prog 96 #[.agg D, .agg (wc x).toArray, .int .i64 d] w fun e w' => e = .returned (.tuple #[.agg (sc4 0 0 0 0), .bool false, .int .i64 0]) ∧ Later w w' := by
  have e0 : (ce c != 0) = false := by simpa using h
  have KW := Lib.hid (fun W => Conf.window_any x W)
  rw [show Cf.we x = 0 from (Cf.we_ok x).2 h2] at KW
  have KA := Lib.hid (fun W => asked_any d W)
  rw [(wiB_iff d 402 3651990).2 ⟨d0, d1⟩] at KA
  have hw := (Conf.wo_iff x).1 h2
  obtain ⟨hz, hs⟩ := ce_parts c h
  have KK := Lib.hid (fun W (g : Later w W) => kind_festive_of (hc.later g) x hk)
  have KB := Lib.hid (fun W => festive_begins c.z x.u x.l x.a x.h d c.ab W (by omega) (by omega) (by omega) (by omega))
  rw [show (kd c.ab (d - x.h) == x.a) = beg c x d by unfold beg; rw [hk]; simp, hb] at KB
  have KC := Lib.hid (fun W (g : Later w W) => Conf.check_of (hc.later g))
  have HZ := Lib.hid hc.size
  have HG0 := Lib.hid ((((Later.refl w).alloc D 33).alloc (wc x).toArray 65).alloc (sc4 0 0 0 0) 56)
  have HL0 := Lib.hid (hL.grown HG0.out)
  have HA0 := Lib.hid (((At.new w D 33).put (.cells (wc x).toArray 65)).put (.cells (sc4 0 0 0 0) 56))
  have HB0 := Lib.hid ((At.new (w.alloc (.cells D 33)) (wc x).toArray 65).put (.cells (sc4 0 0 0 0) 56))
  have HR0 := Lib.hid (RA.new ((w.alloc (.cells D 33)).alloc (.cells (wc x).toArray 65)) (sc4 0 0 0 0) 56)
  simp only [World.size_alloc] at HB0 HR0
  clear hL hc h h2 hz hs hw d0 d1 hb hk
  generalize ce c = k at *
  obtain ⟨KV, hKV⟩ : ∃ KV, KV = fk c.z x.u x.l x.a x.h c.ab := ⟨_, rfl⟩
  rw [← hKV] at KK KB
  clear hKV
  unfold wc sc4 at *
  go_enter Tryz.func96, Tryz.ntmps96
  go_wp2_with (refine load_at D HZ.out rfl (.tmp 3) rfl w.heap.size rfl HA0.out ?_)
  refine (KC.out _ HG0.out).mono ?_
  rintro e w1 ⟨rfl, hg1⟩
  have HG1 := Lib.hid (gtrans HG0.out hg1)
  have HB1' : Hid (w1.rangeAt (w.heap.size + 1) 0 (wc x)) := Lib.hid (fun j y hy => by rw [Nat.zero_add]; exact HB0.out.later hg1 j y (by simpa [wc] using hy))
  have HL1 := Lib.hid (HL0.out.grown hg1)
  have HA1 := Lib.hid (HA0.out.later hg1)
  have HB1 := Lib.hid (HB0.out.later hg1)
  have HR1 := Lib.hid (HR0.out.later hg1)
  clear hg1
  go_wp2_with (refine Conf.load_win x rfl (.tmp 4) rfl (w.heap.size + 1) 0 rfl HB1'.out ?_)
  refine (KW.out _).mono ?_
  rintro e w2 ⟨rfl, hg2⟩
  have HG2 := Lib.hid (gtrans HG1.out hg2)
  have HL2 := Lib.hid (HL1.out.grown hg2)
  have HA2 := Lib.hid (HA1.out.later hg2)
  have HB2 := Lib.hid (HB1.out.later hg2)
  have HR2 := Lib.hid (HR1.out.later hg2)
  clear hg2
  go_wp2_with fail
  refine (KA.out _).mono ?_
  rintro e w3 ⟨rfl, rfl⟩
  have HB2' : Hid (w2.rangeAt (w.heap.size + 1) 0 (wc x)) := Lib.hid (fun j y hy => by rw [Nat.zero_add]; exact HB2.out j y (by simpa [wc] using hy))
  go_wp2_with (first | (refine load_at D HZ.out rfl (.tmp 3) rfl w.heap.size rfl HA2.out ?_) | (refine Conf.load_win x rfl (.tmp 4) rfl (w.heap.size + 1) 0 rfl HB2'.out ?_))
  refine (KK.out _ HG2.out).mono ?_
  rintro e w4 ⟨rfl, hg4⟩
  have HG4 := Lib.hid (gtrans HG2.out hg4)
  have HL4 := Lib.hid (HL2.out.grown hg4)
  have HB4 := Lib.hid (HB2.out.later hg4)
  have HR4 := Lib.hid (HR2.out.later hg4)
  clear hg4
  go_wp2_with fail
  refine (KB.out _).mono ?_
  rintro e w5 ⟨rfl, hg5⟩
  have HG5 := Lib.hid (gtrans HG4.out hg5)
  have HL5 := Lib.hid (HL4.out.grown hg5)
  have HB5 := Lib.hid (HB4.out.later hg5)
  have HR5 := Lib.hid (HR4.out.later hg5)
  clear hg5
  have r0 := (HR5.out).cell 0 _ rfl
  have f0 := (HR5.out).froz 0
  have r1 := (HR5.out).cell 1 _ rfl
  have f1 := (HR5.out).froz 1
  have r2 := (HR5.out).cell 2 _ rfl
  have f2 := (HR5.out).froz 2
  have r3 := (HR5.out).cell 3 _ rfl
  have f3 := (HR5.out).froz 3
  go_wp2_with fail
  refine bodyPost_ret (results_rtt (P := Tryz.prog) (fn := Tryz.f96) Tryz.results96 _ _ (w.heap.size + 1 + 1) 56 _ _ _ _ rfl rfl rfl (RA.set4 (HR5.out) _ _ _ _) Tryz.underlying56 rfl (by kernel_rfl)) rfl ⟨rfl, ?_⟩
  exact later_set4 (HG5.out) (by omega) _ _ _ _

theorem span_restful_no (D : Array Value) (c : Cg) (x : Wn) (d : Int) (w : World) (hL : Laid w) (hc : Is w D c) (h : ce c = 0) (h2 : wo x = true) (d0 : 402 ≤ d) (d1 : d ≤ 3651990) (hk : x.k = 4) (hb : beg c x d = false) : Calls Tryz.prog 96 #[.agg D, .agg (wc x).toArray, .int .i64 d] w fun e w' => e = .returned (.tuple #[.agg (sc4 0 0 0 0), .bool false, .int .i64 0]) ∧ Later w w' := by
  have e0 : (ce c != 0) = false := by simpa using h
  have KW := Lib.hid (fun W => Conf.window_any x W)
  rw [show Cf.we x = 0 from (Cf.we_ok x).2 h2] at KW
  have KA := Lib.hid (fun W => asked_any d W)
  rw [(wiB_iff d 402 3651990).2 ⟨d0, d1⟩] at KA
  have hw := (Conf.wo_iff x).1 h2
  obtain ⟨hz, hs⟩ := ce_parts c h
  have KK := Lib.hid (fun W (g : Later w W) => kind_restful_of (hc.later g) x hk)
  have KB := Lib.hid (fun W => restful_begins c.z c.s c.ab x.u x.l d W (by omega) (by omega))
  rw [show (!rst c.ab d && rst c.ab (d + 1)) = beg c x d by unfold beg; rw [hk]; simp, hb] at KB
  have KC := Lib.hid (fun W (g : Later w W) => Conf.check_of (hc.later g))
  have HZ := Lib.hid hc.size
  have HG0 := Lib.hid ((((Later.refl w).alloc D 33).alloc (wc x).toArray 65).alloc (sc4 0 0 0 0) 56)
  have HL0 := Lib.hid (hL.grown HG0.out)
  have HA0 := Lib.hid (((At.new w D 33).put (.cells (wc x).toArray 65)).put (.cells (sc4 0 0 0 0) 56))
  have HB0 := Lib.hid ((At.new (w.alloc (.cells D 33)) (wc x).toArray 65).put (.cells (sc4 0 0 0 0) 56))
  have HR0 := Lib.hid (RA.new ((w.alloc (.cells D 33)).alloc (.cells (wc x).toArray 65)) (sc4 0 0 0 0) 56)
  simp only [World.size_alloc] at HB0 HR0
  clear hL hc h h2 hz hs hw d0 d1 hb hk
  generalize ce c = k at *
  obtain ⟨KV, hKV⟩ : ∃ KV, KV = rk c.z c.s c.ab x.u x.l := ⟨_, rfl⟩
  rw [← hKV] at KK KB
  clear hKV
  unfold wc sc4 at *
  go_enter Tryz.func96, Tryz.ntmps96
  go_wp2_with (refine load_at D HZ.out rfl (.tmp 3) rfl w.heap.size rfl HA0.out ?_)
  refine (KC.out _ HG0.out).mono ?_
  rintro e w1 ⟨rfl, hg1⟩
  have HG1 := Lib.hid (gtrans HG0.out hg1)
  have HB1' : Hid (w1.rangeAt (w.heap.size + 1) 0 (wc x)) := Lib.hid (fun j y hy => by rw [Nat.zero_add]; exact HB0.out.later hg1 j y (by simpa [wc] using hy))
  have HL1 := Lib.hid (HL0.out.grown hg1)
  have HA1 := Lib.hid (HA0.out.later hg1)
  have HB1 := Lib.hid (HB0.out.later hg1)
  have HR1 := Lib.hid (HR0.out.later hg1)
  clear hg1
  go_wp2_with (refine Conf.load_win x rfl (.tmp 4) rfl (w.heap.size + 1) 0 rfl HB1'.out ?_)
  refine (KW.out _).mono ?_
  rintro e w2 ⟨rfl, hg2⟩
  have HG2 := Lib.hid (gtrans HG1.out hg2)
  have HL2 := Lib.hid (HL1.out.grown hg2)
  have HA2 := Lib.hid (HA1.out.later hg2)
  have HB2 := Lib.hid (HB1.out.later hg2)
  have HR2 := Lib.hid (HR1.out.later hg2)
  clear hg2
  go_wp2_with fail
  refine (KA.out _).mono ?_
  rintro e w3 ⟨rfl, rfl⟩
  have HB2' : Hid (w2.rangeAt (w.heap.size + 1) 0 (wc x)) := Lib.hid (fun j y hy => by rw [Nat.zero_add]; exact HB2.out j y (by simpa [wc] using hy))
  go_wp2_with (first | (refine load_at D HZ.out rfl (.tmp 3) rfl w.heap.size rfl HA2.out ?_) | (refine Conf.load_win x rfl (.tmp 4) rfl (w.heap.size + 1) 0 rfl HB2'.out ?_))
  refine (KK.out _ HG2.out).mono ?_
  rintro e w4 ⟨rfl, hg4⟩
  have HG4 := Lib.hid (gtrans HG2.out hg4)
  have HL4 := Lib.hid (HL2.out.grown hg4)
  have HB4 := Lib.hid (HB2.out.later hg4)
  have HR4 := Lib.hid (HR2.out.later hg4)
  clear hg4
  go_wp2_with fail
  refine (KB.out _).mono ?_
  rintro e w5 ⟨rfl, hg5⟩
  have HG5 := Lib.hid (gtrans HG4.out hg5)
  have HL5 := Lib.hid (HL4.out.grown hg5)
  have HB5 := Lib.hid (HB4.out.later hg5)
  have HR5 := Lib.hid (HR4.out.later hg5)
  clear hg5
  have r0 := (HR5.out).cell 0 _ rfl
  have f0 := (HR5.out).froz 0
  have r1 := (HR5.out).cell 1 _ rfl
  have f1 := (HR5.out).froz 1
  have r2 := (HR5.out).cell 2 _ rfl
  have f2 := (HR5.out).froz 2
  have r3 := (HR5.out).cell 3 _ rfl
  have f3 := (HR5.out).froz 3
  go_wp2_with fail
  refine bodyPost_ret (results_rtt (P := Tryz.prog) (fn := Tryz.f96) Tryz.results96 _ _ (w.heap.size + 1 + 1) 56 _ _ _ _ rfl rfl rfl (RA.set4 (HR5.out) _ _ _ _) Tryz.underlying56 rfl (by kernel_rfl)) rfl ⟨rfl, ?_⟩
  exact later_set4 (HG5.out) (by omega) _ _ _ _

end Go.Proofs.YtihdijkplmfhfaaGreatDoor.Window

/- The span of a window that begins on a day, by the program: where it does. Conditions: the table of months lies where the program lays it; the day is an int. -/
namespace Go.Proofs.YtihdijkplmfhfaaGreatDoor.Window
set_option maxRecDepth 100000
open Go.ChangeShapes Go.WideShapes Go.ChangeAt Go.RowKit
open Go.Proofs.YtihdijkplmfhfaaGreatDoor.Divs Go.Proofs.YtihdijkplmfhfaaGreatDoor.Grow
open Go.Proofs.YtihdijkplmfhfaaGreatDoor.Greg (Laid)
open Go.Proofs.YtihdijkplmfhfaaGreatDoor.Zo Go.Proofs.YtihdijkplmfhfaaGreatDoor.Zone Go.Proofs.YtihdijkplmfhfaaGreatDoor.Win
open Go.Proofs.YtihdijkplmfhfaaGreatDoor.Cf (Cg Wn ce wo)
open Go.Proofs.YtihdijkplmfhfaaGreatDoor.Conf (wc cc Is)
open Go.Proofs.YtihdijkplmfhfaaGreatDoor.Fe (kd rst)
open Go.Proofs.YtihdijkplmfhfaaGreatDoor.Su (mV mE sk sa)

open Go.Proofs.YtihdijkplmfhfaaGreatDoor.Conf (At load_at)

theorem span_weekly_yes (D : Array Value) (c : Cg) (x : Wn) (d : Int) (w : World) (hL : Laid w) (hc : Is w D c) (h : ce c = 0) (h2 : wo x = true) (d0 : 402 ≤ d) (d1 : d ≤ 3651990) (hk : x.k = 1) (hb : beg c x d = true) : Calls Tryz.prog 96 #[.agg D, .agg (wc x).toArray, .int .i64 d] w fun e w' => e = .returned (.tuple #[.agg (sc4 (fr c x d) (tt c x d) x.m x.p), .bool true, .int .i64 0]) ∧ Later w w' := by
  have e0 : (ce c != 0) = false := by simpa using h
  have KW := Lib.hid (fun W => Conf.window_any x W)
  rw [show Cf.we x = 0 from (Cf.we_ok x).2 h2] at KW
  have KA := Lib.hid (fun W => asked_any d W)
  rw [(wiB_iff d 402 3651990).2 ⟨d0, d1⟩] at KA
  have hw := (Conf.wo_iff x).1 h2
  obtain ⟨hz, hs⟩ := ce_parts c h
  have KK := Lib.hid (fun W (g : Later w W) => kind_weekly_of (hc.later g) x hk)
  have KB := Lib.hid (fun W => weekly_begins c.z x.u x.l x.a d W (by omega) (by omega))
  rw [show bit x.a d = beg c x d by unfold beg; rw [hk]; simp, hb] at KB
  have ht : 0 ≤ x.u ∧ x.u ≤ 1439 ∧ 1 ≤ x.l ∧ x.l ≤ 10080 := (Conf.tmB_iff x).1 (by rcases hw with ⟨_, h | h | h | h⟩ <;> first | exact h.2.1 | (exfalso; omega))
  have KE := Lib.hid (fun W hW => hours_ends c.z x.u x.l d W hW hz d0 d1 (by omega) (by omega) (by omega) (by omega))
  rw [show mv c.z (d * 1440 + x.u) = fr c x d by unfold fr; rw [if_neg (by omega)], show fr c x d + x.l = tt c x d by unfold fr tt; rw [if_neg (by omega), if_neg (by omega)]] at KE
  clear ht
  have KC := Lib.hid (fun W (g : Later w W) => Conf.check_of (hc.later g))
  have HZ := Lib.hid hc.size
  have HG0 := Lib.hid ((((Later.refl w).alloc D 33).alloc (wc x).toArray 65).alloc (sc4 0 0 0 0) 56)
  have HL0 := Lib.hid (hL.grown HG0.out)
  have HA0 := Lib.hid (((At.new w D 33).put (.cells (wc x).toArray 65)).put (.cells (sc4 0 0 0 0) 56))
  have HB0 := Lib.hid ((At.new (w.alloc (.cells D 33)) (wc x).toArray 65).put (.cells (sc4 0 0 0 0) 56))
  have HR0 := Lib.hid (RA.new ((w.alloc (.cells D 33)).alloc (.cells (wc x).toArray 65)) (sc4 0 0 0 0) 56)
  simp only [World.size_alloc] at HB0 HR0
  clear hL hc h h2 hz hs hw d0 d1 hb hk
  generalize ce c = k at *
  generalize fr c x d = F at *
  generalize tt c x d = T at *
  obtain ⟨KV, hKV⟩ : ∃ KV, KV = wk c.z x.u x.l x.a := ⟨_, rfl⟩
  rw [← hKV] at KK KB
  have HX : Hid (∀ n, n = 12 → KV.extract 0 n = hk c.z x.u x.l) := Lib.hid (fun n hn => by rw [hn, hKV]; rfl)
  clear hKV
  unfold wc sc4 at *
  go_enter Tryz.func96, Tryz.ntmps96
  go_wp2_with (refine load_at D HZ.out rfl (.tmp 3) rfl w.heap.size rfl HA0.out ?_)
  refine (KC.out _ HG0.out).mono ?_
  rintro e w1 ⟨rfl, hg1⟩
  have HG1 := Lib.hid (gtrans HG0.out hg1)
  have HB1' : Hid (w1.rangeAt (w.heap.size + 1) 0 (wc x)) := Lib.hid (fun j y hy => by rw [Nat.zero_add]; exact HB0.out.later hg1 j y (by simpa [wc] using hy))
  have HL1 := Lib.hid (HL0.out.grown hg1)
  have HA1 := Lib.hid (HA0.out.later hg1)
  have HB1 := Lib.hid (HB0.out.later hg1)
  have HR1 := Lib.hid (HR0.out.later hg1)
  clear hg1
  go_wp2_with (refine Conf.load_win x rfl (.tmp 4) rfl (w.heap.size + 1) 0 rfl HB1'.out ?_)
  refine (KW.out _).mono ?_
  rintro e w2 ⟨rfl, hg2⟩
  have HG2 := Lib.hid (gtrans HG1.out hg2)
  have HL2 := Lib.hid (HL1.out.grown hg2)
  have HA2 := Lib.hid (HA1.out.later hg2)
  have HB2 := Lib.hid (HB1.out.later hg2)
  have HR2 := Lib.hid (HR1.out.later hg2)
  clear hg2
  go_wp2_with fail
  refine (KA.out _).mono ?_
  rintro e w3 ⟨rfl, rfl⟩
  have HB2' : Hid (w2.rangeAt (w.heap.size + 1) 0 (wc x)) := Lib.hid (fun j y hy => by rw [Nat.zero_add]; exact HB2.out j y (by simpa [wc] using hy))
  go_wp2_with (first | (refine load_at D HZ.out rfl (.tmp 3) rfl w.heap.size rfl HA2.out ?_) | (refine Conf.load_win x rfl (.tmp 4) rfl (w.heap.size + 1) 0 rfl HB2'.out ?_))
  refine (KK.out _ HG2.out).mono ?_
  rintro e w4 ⟨rfl, hg4⟩
  have HG4 := Lib.hid (gtrans HG2.out hg4)
  have HL4 := Lib.hid (HL2.out.grown hg4)
  have HB4 := Lib.hid (HB2.out.later hg4)
  have HR4 := Lib.hid (HR2.out.later hg4)
  clear hg4
  go_wp2_with fail
  refine (KB.out _).mono ?_
  rintro e w5 ⟨rfl, hg5⟩
  have HG5 := Lib.hid (gtrans HG4.out hg5)
  have HL5 := Lib.hid (HL4.out.grown hg5)
  have HB5 := Lib.hid (HB4.out.later hg5)
  have HR5 := Lib.hid (HR4.out.later hg5)
  clear hg5
  go_wp2_with fail
  rw [HX.out]
  rotate_left 1
  · kernel_rfl
  refine (KE.out _ HL5.out).mono ?_
  rintro e w6 ⟨rfl, hg6⟩
  have HG6 := Lib.hid (gtrans HG5.out hg6)
  have HB6 := Lib.hid (HB5.out.later hg6)
  have HR6 := Lib.hid (HR5.out.later hg6)
  have q1 := HB6.out 1 _ rfl
  have q2 := HB6.out 2 _ rfl
  clear hg6
  have r0 := (HR6.out).cell 0 _ rfl
  have f0 := (HR6.out).froz 0
  have r1 := (HR6.out).cell 1 _ rfl
  have f1 := (HR6.out).froz 1
  have r2 := (HR6.out).cell 2 _ rfl
  have f2 := (HR6.out).froz 2
  have r3 := (HR6.out).cell 3 _ rfl
  have f3 := (HR6.out).froz 3
  go_wp2_with fail
  refine bodyPost_ret (results_rtt (P := Tryz.prog) (fn := Tryz.f96) Tryz.results96 _ _ (w.heap.size + 1 + 1) 56 _ _ _ _ rfl rfl rfl (RA.set4 (HR6.out) _ _ _ _) Tryz.underlying56 rfl (by kernel_rfl)) rfl ⟨rfl, ?_⟩
  exact later_set4 (HG6.out) (by omega) _ _ _ _

theorem span_dated_yes (D : Array Value) (c : Cg) (x : Wn) (d : Int) (w : World) (hL : Laid w) (hc : Is w D c) (h : ce c = 0) (h2 : wo x = true) (d0 : 402 ≤ d) (d1 : d ≤ 3651990) (hk : x.k = 2) (hb : beg c x d = true) : Calls Tryz.prog 96 #[.agg D, .agg (wc x).toArray, .int .i64 d] w fun e w' => e = .returned (.tuple #[.agg (sc4 (fr c x d) (tt c x d) x.m x.p), .bool true, .int .i64 0]) ∧ Later w w' := by
  have e0 : (ce c != 0) = false := by simpa using h
  have KW := Lib.hid (fun W => Conf.window_any x W)
  rw [show Cf.we x = 0 from (Cf.we_ok x).2 h2] at KW
  have KA := Lib.hid (fun W => asked_any d W)
  rw [(wiB_iff d 402 3651990).2 ⟨d0, d1⟩] at KA
  have hw := (Conf.wo_iff x).1 h2
  obtain ⟨hz, hs⟩ := ce_parts c h
  have KK := Lib.hid (fun W (g : Later w W) => kind_dated_of (hc.later g) x hk)
  have KB := Lib.hid (fun W => dated_begins c.z x.u x.l x.a d W)
  rw [show (d == x.a) = beg c x d by unfold beg; rw [hk]; simp, hb] at KB
  have ht : 0 ≤ x.u ∧ x.u ≤ 1439 ∧ 1 ≤ x.l ∧ x.l ≤ 10080 := (Conf.tmB_iff x).1 (by rcases hw with ⟨_, h | h | h | h⟩ <;> first | exact h.2.1 | (exfalso; omega))
  have KE := Lib.hid (fun W hW => hours_ends c.z x.u x.l d W hW hz d0 d1 (by omega) (by omega) (by omega) (by omega))
  rw [show mv c.z (d * 1440 + x.u) = fr c x d by unfold fr; rw [if_neg (by omega)], show fr c x d + x.l = tt c x d by unfold fr tt; rw [if_neg (by omega), if_neg (by omega)]] at KE
  clear ht
  have KC := Lib.hid (fun W (g : Later w W) => Conf.check_of (hc.later g))
  have HZ := Lib.hid hc.size
  have HG0 := Lib.hid ((((Later.refl w).alloc D 33).alloc (wc x).toArray 65).alloc (sc4 0 0 0 0) 56)
  have HL0 := Lib.hid (hL.grown HG0.out)
  have HA0 := Lib.hid (((At.new w D 33).put (.cells (wc x).toArray 65)).put (.cells (sc4 0 0 0 0) 56))
  have HB0 := Lib.hid ((At.new (w.alloc (.cells D 33)) (wc x).toArray 65).put (.cells (sc4 0 0 0 0) 56))
  have HR0 := Lib.hid (RA.new ((w.alloc (.cells D 33)).alloc (.cells (wc x).toArray 65)) (sc4 0 0 0 0) 56)
  simp only [World.size_alloc] at HB0 HR0
  clear hL hc h h2 hz hs hw d0 d1 hb hk
  generalize ce c = k at *
  generalize fr c x d = F at *
  generalize tt c x d = T at *
  obtain ⟨KV, hKV⟩ : ∃ KV, KV = wk c.z x.u x.l x.a := ⟨_, rfl⟩
  rw [← hKV] at KK KB
  have HX : Hid (∀ n, n = 12 → KV.extract 0 n = hk c.z x.u x.l) := Lib.hid (fun n hn => by rw [hn, hKV]; rfl)
  clear hKV
  unfold wc sc4 at *
  go_enter Tryz.func96, Tryz.ntmps96
  go_wp2_with (refine load_at D HZ.out rfl (.tmp 3) rfl w.heap.size rfl HA0.out ?_)
  refine (KC.out _ HG0.out).mono ?_
  rintro e w1 ⟨rfl, hg1⟩
  have HG1 := Lib.hid (gtrans HG0.out hg1)
  have HB1' : Hid (w1.rangeAt (w.heap.size + 1) 0 (wc x)) := Lib.hid (fun j y hy => by rw [Nat.zero_add]; exact HB0.out.later hg1 j y (by simpa [wc] using hy))
  have HL1 := Lib.hid (HL0.out.grown hg1)
  have HA1 := Lib.hid (HA0.out.later hg1)
  have HB1 := Lib.hid (HB0.out.later hg1)
  have HR1 := Lib.hid (HR0.out.later hg1)
  clear hg1
  go_wp2_with (refine Conf.load_win x rfl (.tmp 4) rfl (w.heap.size + 1) 0 rfl HB1'.out ?_)
  refine (KW.out _).mono ?_
  rintro e w2 ⟨rfl, hg2⟩
  have HG2 := Lib.hid (gtrans HG1.out hg2)
  have HL2 := Lib.hid (HL1.out.grown hg2)
  have HA2 := Lib.hid (HA1.out.later hg2)
  have HB2 := Lib.hid (HB1.out.later hg2)
  have HR2 := Lib.hid (HR1.out.later hg2)
  clear hg2
  go_wp2_with fail
  refine (KA.out _).mono ?_
  rintro e w3 ⟨rfl, rfl⟩
  have HB2' : Hid (w2.rangeAt (w.heap.size + 1) 0 (wc x)) := Lib.hid (fun j y hy => by rw [Nat.zero_add]; exact HB2.out j y (by simpa [wc] using hy))
  go_wp2_with (first | (refine load_at D HZ.out rfl (.tmp 3) rfl w.heap.size rfl HA2.out ?_) | (refine Conf.load_win x rfl (.tmp 4) rfl (w.heap.size + 1) 0 rfl HB2'.out ?_))
  refine (KK.out _ HG2.out).mono ?_
  rintro e w4 ⟨rfl, hg4⟩
  have HG4 := Lib.hid (gtrans HG2.out hg4)
  have HL4 := Lib.hid (HL2.out.grown hg4)
  have HB4 := Lib.hid (HB2.out.later hg4)
  have HR4 := Lib.hid (HR2.out.later hg4)
  clear hg4
  go_wp2_with fail
  refine (KB.out _).mono ?_
  rintro e w5 ⟨rfl, hg5⟩
  have HG5 := Lib.hid (gtrans HG4.out hg5)
  have HL5 := Lib.hid (HL4.out.grown hg5)
  have HB5 := Lib.hid (HB4.out.later hg5)
  have HR5 := Lib.hid (HR4.out.later hg5)
  clear hg5
  go_wp2_with fail
  rw [HX.out]
  rotate_left 1
  · kernel_rfl
  refine (KE.out _ HL5.out).mono ?_
  rintro e w6 ⟨rfl, hg6⟩
  have HG6 := Lib.hid (gtrans HG5.out hg6)
  have HB6 := Lib.hid (HB5.out.later hg6)
  have HR6 := Lib.hid (HR5.out.later hg6)
  have q1 := HB6.out 1 _ rfl
  have q2 := HB6.out 2 _ rfl
  clear hg6
  have r0 := (HR6.out).cell 0 _ rfl
  have f0 := (HR6.out).froz 0
  have r1 := (HR6.out).cell 1 _ rfl
  have f1 := (HR6.out).froz 1
  have r2 := (HR6.out).cell 2 _ rfl
  have f2 := (HR6.out).froz 2
  have r3 := (HR6.out).cell 3 _ rfl
  have f3 := (HR6.out).froz 3
  go_wp2_with fail
  refine bodyPost_ret (results_rtt (P := Tryz.prog) (fn := Tryz.f96) Tryz.results96 _ _ (w.heap.size + 1 + 1) 56 _ _ _ _ rfl rfl rfl (RA.set4 (HR6.out) _ _ _ _) Tryz.underlying56 rfl (by kernel_rfl)) rfl ⟨rfl, ?_⟩
  exact later_set4 (HG6.out) (by omega) _ _ _ _

theorem span_festive_yes (D : Array Value) (c : Cg) (x : Wn) (d : Int) (w : World) (hL : Laid w) (hc : Is w D c) (h : ce c = 0) (h2 : wo x = true) (d0 : 402 ≤ d) (d1 : d ≤ 3651990) (hk : x.k = 3) (hb : beg c x d = true) : Calls Tryz.prog 96 #[.agg D, .agg (wc x).toArray, .int .i64 d] w fun e w' => e = .returned (.tuple #[.agg (sc4 (fr c x d) (tt c x d) x.m x.p), .bool true, .int .i64 0]) ∧ Later w w' := by
  have e0 : (ce c != 0) = false := by simpa using h
  have KW := Lib.hid (fun W => Conf.window_any x W)
  rw [show Cf.we x = 0 from (Cf.we_ok x).2 h2] at KW
  have KA := Lib.hid (fun W => asked_any d W)
  rw [(wiB_iff d 402 3651990).2 ⟨d0, d1⟩] at KA
  have hw := (Conf.wo_iff x).1 h2
  obtain ⟨hz, hs⟩ := ce_parts c h
  have KK := Lib.hid (fun W (g : Later w W) => kind_festive_of (hc.later g) x hk)
  have KB := Lib.hid (fun W => festive_begins c.z x.u x.l x.a x.h d c.ab W (by omega) (by omega) (by omega) (by omega))
  rw [show (kd c.ab (d - x.h) == x.a) = beg c x d by unfold beg; rw [hk]; simp, hb] at KB
  have ht : 0 ≤ x.u ∧ x.u ≤ 1439 ∧ 1 ≤ x.l ∧ x.l ≤ 10080 := (Conf.tmB_iff x).1 (by rcases hw with ⟨_, h | h | h | h⟩ <;> first | exact h.2.1 | (exfalso; omega))
  have KE := Lib.hid (fun W hW => hours_ends c.z x.u x.l d W hW hz d0 d1 (by omega) (by omega) (by omega) (by omega))
  rw [show mv c.z (d * 1440 + x.u) = fr c x d by unfold fr; rw [if_neg (by omega)], show fr c x d + x.l = tt c x d by unfold fr tt; rw [if_neg (by omega), if_neg (by omega)]] at KE
  clear ht
  have KC := Lib.hid (fun W (g : Later w W) => Conf.check_of (hc.later g))
  have HZ := Lib.hid hc.size
  have HG0 := Lib.hid ((((Later.refl w).alloc D 33).alloc (wc x).toArray 65).alloc (sc4 0 0 0 0) 56)
  have HL0 := Lib.hid (hL.grown HG0.out)
  have HA0 := Lib.hid (((At.new w D 33).put (.cells (wc x).toArray 65)).put (.cells (sc4 0 0 0 0) 56))
  have HB0 := Lib.hid ((At.new (w.alloc (.cells D 33)) (wc x).toArray 65).put (.cells (sc4 0 0 0 0) 56))
  have HR0 := Lib.hid (RA.new ((w.alloc (.cells D 33)).alloc (.cells (wc x).toArray 65)) (sc4 0 0 0 0) 56)
  simp only [World.size_alloc] at HB0 HR0
  clear hL hc h h2 hz hs hw d0 d1 hb hk
  generalize ce c = k at *
  generalize fr c x d = F at *
  generalize tt c x d = T at *
  obtain ⟨KV, hKV⟩ : ∃ KV, KV = fk c.z x.u x.l x.a x.h c.ab := ⟨_, rfl⟩
  rw [← hKV] at KK KB
  have HX : Hid (∀ n, n = 12 → KV.extract 0 n = hk c.z x.u x.l) := Lib.hid (fun n hn => by rw [hn, hKV]; rfl)
  clear hKV
  unfold wc sc4 at *
  go_enter Tryz.func96, Tryz.ntmps96
  go_wp2_with (refine load_at D HZ.out rfl (.tmp 3) rfl w.heap.size rfl HA0.out ?_)
  refine (KC.out _ HG0.out).mono ?_
  rintro e w1 ⟨rfl, hg1⟩
  have HG1 := Lib.hid (gtrans HG0.out hg1)
  have HB1' : Hid (w1.rangeAt (w.heap.size + 1) 0 (wc x)) := Lib.hid (fun j y hy => by rw [Nat.zero_add]; exact HB0.out.later hg1 j y (by simpa [wc] using hy))
  have HL1 := Lib.hid (HL0.out.grown hg1)
  have HA1 := Lib.hid (HA0.out.later hg1)
  have HB1 := Lib.hid (HB0.out.later hg1)
  have HR1 := Lib.hid (HR0.out.later hg1)
  clear hg1
  go_wp2_with (refine Conf.load_win x rfl (.tmp 4) rfl (w.heap.size + 1) 0 rfl HB1'.out ?_)
  refine (KW.out _).mono ?_
  rintro e w2 ⟨rfl, hg2⟩
  have HG2 := Lib.hid (gtrans HG1.out hg2)
  have HL2 := Lib.hid (HL1.out.grown hg2)
  have HA2 := Lib.hid (HA1.out.later hg2)
  have HB2 := Lib.hid (HB1.out.later hg2)
  have HR2 := Lib.hid (HR1.out.later hg2)
  clear hg2
  go_wp2_with fail
  refine (KA.out _).mono ?_
  rintro e w3 ⟨rfl, rfl⟩
  have HB2' : Hid (w2.rangeAt (w.heap.size + 1) 0 (wc x)) := Lib.hid (fun j y hy => by rw [Nat.zero_add]; exact HB2.out j y (by simpa [wc] using hy))
  go_wp2_with (first | (refine load_at D HZ.out rfl (.tmp 3) rfl w.heap.size rfl HA2.out ?_) | (refine Conf.load_win x rfl (.tmp 4) rfl (w.heap.size + 1) 0 rfl HB2'.out ?_))
  refine (KK.out _ HG2.out).mono ?_
  rintro e w4 ⟨rfl, hg4⟩
  have HG4 := Lib.hid (gtrans HG2.out hg4)
  have HL4 := Lib.hid (HL2.out.grown hg4)
  have HB4 := Lib.hid (HB2.out.later hg4)
  have HR4 := Lib.hid (HR2.out.later hg4)
  clear hg4
  go_wp2_with fail
  refine (KB.out _).mono ?_
  rintro e w5 ⟨rfl, hg5⟩
  have HG5 := Lib.hid (gtrans HG4.out hg5)
  have HL5 := Lib.hid (HL4.out.grown hg5)
  have HB5 := Lib.hid (HB4.out.later hg5)
  have HR5 := Lib.hid (HR4.out.later hg5)
  clear hg5
  go_wp2_with fail
  rw [HX.out]
  rotate_left 1
  · kernel_rfl
  refine (KE.out _ HL5.out).mono ?_
  rintro e w6 ⟨rfl, hg6⟩
  have HG6 := Lib.hid (gtrans HG5.out hg6)
  have HB6 := Lib.hid (HB5.out.later hg6)
  have HR6 := Lib.hid (HR5.out.later hg6)
  have q1 := HB6.out 1 _ rfl
  have q2 := HB6.out 2 _ rfl
  clear hg6
  have r0 := (HR6.out).cell 0 _ rfl
  have f0 := (HR6.out).froz 0
  have r1 := (HR6.out).cell 1 _ rfl
  have f1 := (HR6.out).froz 1
  have r2 := (HR6.out).cell 2 _ rfl
  have f2 := (HR6.out).froz 2
  have r3 := (HR6.out).cell 3 _ rfl
  have f3 := (HR6.out).froz 3
  go_wp2_with fail
  refine bodyPost_ret (results_rtt (P := Tryz.prog) (fn := Tryz.f96) Tryz.results96 _ _ (w.heap.size + 1 + 1) 56 _ _ _ _ rfl rfl rfl (RA.set4 (HR6.out) _ _ _ _) Tryz.underlying56 rfl (by kernel_rfl)) rfl ⟨rfl, ?_⟩
  exact later_set4 (HG6.out) (by omega) _ _ _ _

theorem span_restful_yes (D : Array Value) (c : Cg) (x : Wn) (d : Int) (w : World) (hL : Laid w) (hc : Is w D c) (h : ce c = 0) (h2 : wo x = true) (d0 : 402 ≤ d) (d1 : d ≤ 3651990) (hk : x.k = 4) (hb : beg c x d = true) : Calls Tryz.prog 96 #[.agg D, .agg (wc x).toArray, .int .i64 d] w fun e w' => e = .returned (.tuple #[.agg (sc4 (fr c x d) (tt c x d) x.m x.p), .bool true, .int .i64 0]) ∧ Later w w' := by
  have e0 : (ce c != 0) = false := by simpa using h
  have KW := Lib.hid (fun W => Conf.window_any x W)
  rw [show Cf.we x = 0 from (Cf.we_ok x).2 h2] at KW
  have KA := Lib.hid (fun W => asked_any d W)
  rw [(wiB_iff d 402 3651990).2 ⟨d0, d1⟩] at KA
  have hw := (Conf.wo_iff x).1 h2
  obtain ⟨hz, hs⟩ := ce_parts c h
  have KK := Lib.hid (fun W (g : Later w W) => kind_restful_of (hc.later g) x hk)
  have KB := Lib.hid (fun W => restful_begins c.z c.s c.ab x.u x.l d W (by omega) (by omega))
  rw [show (!rst c.ab d && rst c.ab (d + 1)) = beg c x d by unfold beg; rw [hk]; simp, hb] at KB
  have hr : rst c.ab d = false ∧ rst c.ab (d + 1) = true := by
    rw [beg_rest c x d hk] at hb
    simpa using hb
  have hrow := rl_row c.ab (d + 1) hr.2 (by rw [show d + 1 - 1 = d by omega]; exact hr.1)
  have hrb := rl_bd c.ab (d + 1)
  have KE := Lib.hid (fun W hW => restful_ends c.z c.s c.ab x.u x.l d (rl c.ab (d + 1)) W hW hz hs d0 d1 hrow (by omega) (by omega) (by omega) (by omega) (by omega))
  rw [show d * 1440 + Su.sa c.s d - c.z.b - x.u = fr c x d by unfold fr; rw [if_pos hk], show rl c.ab (d + 1) * 1440 + Su.sa c.s (rl c.ab (d + 1)) - c.z.b + x.l = tt c x d by unfold tt; rw [if_pos hk]] at KE
  clear hr hrow hrb
  have KC := Lib.hid (fun W (g : Later w W) => Conf.check_of (hc.later g))
  have HZ := Lib.hid hc.size
  have HG0 := Lib.hid ((((Later.refl w).alloc D 33).alloc (wc x).toArray 65).alloc (sc4 0 0 0 0) 56)
  have HL0 := Lib.hid (hL.grown HG0.out)
  have HA0 := Lib.hid (((At.new w D 33).put (.cells (wc x).toArray 65)).put (.cells (sc4 0 0 0 0) 56))
  have HB0 := Lib.hid ((At.new (w.alloc (.cells D 33)) (wc x).toArray 65).put (.cells (sc4 0 0 0 0) 56))
  have HR0 := Lib.hid (RA.new ((w.alloc (.cells D 33)).alloc (.cells (wc x).toArray 65)) (sc4 0 0 0 0) 56)
  simp only [World.size_alloc] at HB0 HR0
  clear hL hc h h2 hz hs hw d0 d1 hb hk
  generalize ce c = k at *
  generalize fr c x d = F at *
  generalize tt c x d = T at *
  obtain ⟨KV, hKV⟩ : ∃ KV, KV = rk c.z c.s c.ab x.u x.l := ⟨_, rfl⟩
  rw [← hKV] at KK KB KE
  clear hKV
  unfold wc sc4 at *
  go_enter Tryz.func96, Tryz.ntmps96
  go_wp2_with (refine load_at D HZ.out rfl (.tmp 3) rfl w.heap.size rfl HA0.out ?_)
  refine (KC.out _ HG0.out).mono ?_
  rintro e w1 ⟨rfl, hg1⟩
  have HG1 := Lib.hid (gtrans HG0.out hg1)
  have HB1' : Hid (w1.rangeAt (w.heap.size + 1) 0 (wc x)) := Lib.hid (fun j y hy => by rw [Nat.zero_add]; exact HB0.out.later hg1 j y (by simpa [wc] using hy))
  have HL1 := Lib.hid (HL0.out.grown hg1)
  have HA1 := Lib.hid (HA0.out.later hg1)
  have HB1 := Lib.hid (HB0.out.later hg1)
  have HR1 := Lib.hid (HR0.out.later hg1)
  clear hg1
  go_wp2_with (refine Conf.load_win x rfl (.tmp 4) rfl (w.heap.size + 1) 0 rfl HB1'.out ?_)
  refine (KW.out _).mono ?_
  rintro e w2 ⟨rfl, hg2⟩
  have HG2 := Lib.hid (gtrans HG1.out hg2)
  have HL2 := Lib.hid (HL1.out.grown hg2)
  have HA2 := Lib.hid (HA1.out.later hg2)
  have HB2 := Lib.hid (HB1.out.later hg2)
  have HR2 := Lib.hid (HR1.out.later hg2)
  clear hg2
  go_wp2_with fail
  refine (KA.out _).mono ?_
  rintro e w3 ⟨rfl, rfl⟩
  have HB2' : Hid (w2.rangeAt (w.heap.size + 1) 0 (wc x)) := Lib.hid (fun j y hy => by rw [Nat.zero_add]; exact HB2.out j y (by simpa [wc] using hy))
  go_wp2_with (first | (refine load_at D HZ.out rfl (.tmp 3) rfl w.heap.size rfl HA2.out ?_) | (refine Conf.load_win x rfl (.tmp 4) rfl (w.heap.size + 1) 0 rfl HB2'.out ?_))
  refine (KK.out _ HG2.out).mono ?_
  rintro e w4 ⟨rfl, hg4⟩
  have HG4 := Lib.hid (gtrans HG2.out hg4)
  have HL4 := Lib.hid (HL2.out.grown hg4)
  have HB4 := Lib.hid (HB2.out.later hg4)
  have HR4 := Lib.hid (HR2.out.later hg4)
  clear hg4
  go_wp2_with fail
  refine (KB.out _).mono ?_
  rintro e w5 ⟨rfl, hg5⟩
  have HG5 := Lib.hid (gtrans HG4.out hg5)
  have HL5 := Lib.hid (HL4.out.grown hg5)
  have HB5 := Lib.hid (HB4.out.later hg5)
  have HR5 := Lib.hid (HR4.out.later hg5)
  clear hg5
  go_wp2_with fail
  refine (KE.out _ HL5.out).mono ?_
  rintro e w6 ⟨rfl, hg6⟩
  have HG6 := Lib.hid (gtrans HG5.out hg6)
  have HB6 := Lib.hid (HB5.out.later hg6)
  have HR6 := Lib.hid (HR5.out.later hg6)
  have q1 := HB6.out 1 _ rfl
  have q2 := HB6.out 2 _ rfl
  clear hg6
  have r0 := (HR6.out).cell 0 _ rfl
  have f0 := (HR6.out).froz 0
  have r1 := (HR6.out).cell 1 _ rfl
  have f1 := (HR6.out).froz 1
  have r2 := (HR6.out).cell 2 _ rfl
  have f2 := (HR6.out).froz 2
  have r3 := (HR6.out).cell 3 _ rfl
  have f3 := (HR6.out).froz 3
  go_wp2_with fail
  refine bodyPost_ret (results_rtt (P := Tryz.prog) (fn := Tryz.f96) Tryz.results96 _ _ (w.heap.size + 1 + 1) 56 _ _ _ _ rfl rfl rfl (RA.set4 (HR6.out) _ _ _ _) Tryz.underlying56 rfl (by kernel_rfl)) rfl ⟨rfl, ?_⟩
  exact later_set4 (HG6.out) (by omega) _ _ _ _

theorem kinds4 (x : Wn) (h : wo x = true) : x.k = 1 ∨ x.k = 2 ∨ x.k = 3 ∨ x.k = 4 := by
  have := (Conf.wo_iff x).1 h
  omega

/-- The span of a window's day. -/
theorem span_any (D : Array Value) (c : Cg) (x : Wn) (d : Int) (w : World) (hL : Laid w) (hc : Is w D c) : Calls Tryz.prog 96 #[.agg D, .agg (wc x).toArray, .int .i64 d] w fun e w' =>
    e = .returned (.tuple #[.agg (sc4 (pF c x d) (pT c x d) (pM c x d) (pP c x d)), .bool (pB c x d), .int .i64 (pE c x d)]) ∧ Later w w' := by
  by_cases h : ce c = 0
  · cases h2 : wo x
    · have e : pE c x d = 104 := by unfold pE; rw [if_pos h, h2]; simp
      have b : pB c x d = false := by unfold pB; rw [e]; rfl
      unfold pF pT pM pP
      rw [b, e]
      exact span_win D c x d w hL hc h h2
    · by_cases hd : 402 ≤ d ∧ d ≤ 3651990
      · have e : pE c x d = 0 := (pE_ok c x d).2 ⟨h, h2, hd.1, hd.2⟩
        cases hb : beg c x d
        · have b : pB c x d = false := by unfold pB; rw [e, hb]; rfl
          unfold pF pT pM pP
          rw [b, e]
          rcases kinds4 x h2 with k | k | k | k
          · exact span_weekly_no D c x d w hL hc h h2 hd.1 hd.2 k hb
          · exact span_dated_no D c x d w hL hc h h2 hd.1 hd.2 k hb
          · exact span_festive_no D c x d w hL hc h h2 hd.1 hd.2 k hb
          · exact span_restful_no D c x d w hL hc h h2 hd.1 hd.2 k hb
        · have b : pB c x d = true := by unfold pB; rw [e, hb]; rfl
          unfold pF pT pM pP
          rw [b, e]
          simp only [if_true]
          rcases kinds4 x h2 with k | k | k | k
          · exact span_weekly_yes D c x d w hL hc h h2 hd.1 hd.2 k hb
          · exact span_dated_yes D c x d w hL hc h h2 hd.1 hd.2 k hb
          · exact span_festive_yes D c x d w hL hc h h2 hd.1 hd.2 k hb
          · exact span_restful_yes D c x d w hL hc h h2 hd.1 hd.2 k hb
      · have e : pE c x d = 140 := by unfold pE; rw [if_pos h, h2]; simp; omega
        have b : pB c x d = false := by unfold pB; rw [e]; rfl
        unfold pF pT pM pP
        rw [b, e]
        exact span_day D c x d w hL hc h h2 hd
  · have e : pE c x d = ce c := by unfold pE; rw [if_neg h]
    have b : pB c x d = false := by unfold pB; rw [e]; simp [h]
    unfold pF pT pM pP
    rw [b, e]
    exact span_cfg D c x d w hL hc h

end Go.Proofs.YtihdijkplmfhfaaGreatDoor.Window

/- Plain facts on spans: the weightiest one at an instant; a row tells the mode of each instant and is the only one that tells it; a piece is put behind a row; a part that is cut out. Conditions: as each theorem states. -/
namespace Go.Proofs.YtihdijkplmfhfaaGreatDoor.Sp
set_option maxRecDepth 100000

structure Sp where
  f : Int
  t : Int
  m : Int
  p : Int
deriving DecidableEq

def inn (x : Int) (s : Sp) : Bool := decide (s.f ≤ x) && decide (x < s.t)
theorem inn_iff (x : Int) (s : Sp) : inn x s = true ↔ s.f ≤ x ∧ x < s.t := by simp [inn]
theorem inn_no (x : Int) (s : Sp) : inn x s = false ↔ x < s.f ∨ s.t ≤ x := by
  have := inn_iff x s
  cases h : inn x s
  · simp; rw [h] at this; simp at this; omega
  · simp; have := this.1 h; omega

/-- Does one go ahead of another that stands earlier? -/
def ov (a b : Sp) : Bool := if a.p ≠ b.p then decide (a.p > b.p) else decide (a.f ≥ b.f)

/-- The weightiest of some at an instant, with one found before. -/
def be (x : Int) : List Sp → Option Sp → Option Sp
  | [], b => b
  | s :: l, b => be x l (if inn x s then (match b with | none => some s | some c => if ov s c then some s else some c) else b)
def best (l : List Sp) (x : Int) : Option Sp := be x l none
def md (l : List Sp) (x : Int) : Option Int := (best l x).map (·.m)

def fi (R : List Sp) (x : Int) : Option Sp := R.find? (inn x)
def te (R : List Sp) (x : Int) : Option Int := (fi R x).map (·.m)

/-- One behind the other, of different modes where they touch. -/
def beh (s u : Sp) : Prop := s.t ≤ u.f ∧ (s.t = u.f → s.m ≠ u.m)
structure Row (R : List Sp) : Prop where
  len : ∀ s ∈ R, s.f < s.t
  pri : ∀ s ∈ R, s.p = 0
  ord : R.Pairwise beh

structure Full (R : List Sp) (g : Int → Option Int) : Prop where
  row : Row R
  all : ∀ x, te R x = g x

theorem te_nil (x : Int) : te [] x = none := rfl
theorem te_cons (s : Sp) (R : List Sp) (x : Int) : te (s :: R) x = if inn x s then some s.m else te R x := by
  unfold te fi; rw [List.find?_cons]; cases inn x s <;> rfl
theorem te_append (A B : List Sp) (x : Int) : te (A ++ B) x = (te A x).or (te B x) := by
  induction A with
  | nil => rfl
  | cons s A ih => rw [List.cons_append, te_cons, te_cons, ih]; cases inn x s <;> simp

theorem te_none (R : List Sp) (x : Int) (h : ∀ s ∈ R, x < s.f ∨ s.t ≤ x) : te R x = none := by
  unfold te fi; rw [List.find?_eq_none.2]; · rfl
  intro s hs; have := (inn_no x s).2 (h s hs); simp [this]

theorem te_some {R : List Sp} {x m : Int} (h : te R x = some m) : ∃ s ∈ R, s.f ≤ x ∧ x < s.t ∧ s.m = m := by
  unfold te fi at h
  cases h1 : R.find? (inn x) with
  | none => rw [h1] at h; cases h
  | some s =>
    rw [h1] at h
    have := (inn_iff x s).1 (List.find?_some h1)
    exact ⟨s, List.mem_of_find?_eq_some h1, this.1, this.2, by simpa using h⟩

theorem row_tail {s : Sp} {R : List Sp} (h : Row (s :: R)) : Row R :=
  ⟨fun u hu => h.len u (List.mem_cons_of_mem _ hu), fun u hu => h.pri u (List.mem_cons_of_mem _ hu), (List.pairwise_cons.1 h.ord).2⟩

theorem row_head {s : Sp} {R : List Sp} (h : Row (s :: R)) : ∀ u ∈ R, s.t ≤ u.f ∧ s.t < u.t ∧ (s.t = u.f → s.m ≠ u.m) := by
  intro u hu
  have a := (List.pairwise_cons.1 h.ord).1 u hu
  have b := h.len u (List.mem_cons_of_mem _ hu)
  exact ⟨a.1, by have := a.1; omega, a.2⟩

/-- A row's first one begins where it tells anything. -/
theorem first_le {s : Sp} {R : List Sp} (h : Row (s :: R)) (x : Int) (hx : x < s.f) : te (s :: R) x = none := by
  apply te_none
  intro u hu
  rcases List.mem_cons.1 hu with rfl | hu
  · exact .inl hx
  · have := row_head h u hu; have := h.len s (List.mem_cons_self ..); omega

/-- Where a row's first one ends, another mode begins, or none. -/
theorem first_end {s : Sp} {R : List Sp} (h : Row (s :: R)) : te (s :: R) s.t ≠ some s.m := by
  rw [te_cons, if_neg (by rw [inn_iff]; omega)]
  intro h1
  obtain ⟨u, hu, a, b, c⟩ := te_some h1
  have := row_head h u hu
  exact this.2.2 (by omega) c.symm

theorem te_self {s : Sp} {R : List Sp} (x : Int) (a : s.f ≤ x) (b : x < s.t) : te (s :: R) x = some s.m := by
  rw [te_cons, if_pos ((inn_iff x s).2 ⟨a, b⟩)]

theorem uniq_te : ∀ (R S : List Sp), Row R → Row S → (∀ x, te R x = te S x) → R = S
  | [], [], _, _, _ => rfl
  | [], s :: S, _, hs, h => by
    have a := h s.f
    rw [te_self s.f (Int.le_refl _) (hs.len s (List.mem_cons_self ..))] at a; cases a
  | r :: R, [], hr, _, h => by
    have a := h r.f
    rw [te_self r.f (Int.le_refl _) (hr.len r (List.mem_cons_self ..))] at a; cases a
  | r :: R, s :: S, hr, hs, h => by
    have lr := hr.len r (List.mem_cons_self ..)
    have ls := hs.len s (List.mem_cons_self ..)
    have e1 : r.f = s.f := by
      rcases Int.lt_trichotomy r.f s.f with c | c | c
      · have a := h r.f
        rw [te_self r.f (Int.le_refl _) lr, first_le hs r.f c] at a; cases a
      · exact c
      · have a := h s.f
        rw [te_self s.f (Int.le_refl _) ls, first_le hr s.f c] at a; cases a
    have e2 : r.m = s.m := by
      have a := h r.f
      rw [te_self r.f (Int.le_refl _) lr, te_self r.f (by omega) (by omega)] at a
      exact Option.some.inj a
    have e3 : r.t = s.t := by
      rcases Int.lt_trichotomy r.t s.t with c | c | c
      · have a := h r.t
        rw [te_self (s := s) r.t (by omega) c, ← e2] at a
        exact (first_end hr a).elim
      · exact c
      · have a := h s.t
        rw [te_self (s := r) s.t (by omega) c, e2] at a
        exact (first_end hs a.symm).elim
    have e4 : r.p = s.p := by rw [hr.pri r (List.mem_cons_self ..), hs.pri s (List.mem_cons_self ..)]
    have e : r = s := by cases r; cases s; simp_all
    subst e
    rw [uniq_te R S (row_tail hr) (row_tail hs)]
    intro x
    have a := h x
    rw [te_cons, te_cons] at a
    cases hi : inn x r with
    | false => simpa [hi] using a
    | true =>
      have := (inn_iff x r).1 hi
      rw [te_none R x, te_none S x]
      · intro u hu; have := row_head hs u hu; omega
      · intro u hu; have := row_head hr u hu; omega

theorem uniq {R S : List Sp} {g : Int → Option Int} (hR : Full R g) (hS : Full S g) : R = S :=
  uniq_te R S hR.row hS.row (fun x => by rw [hR.all, hS.all])

end Go.Proofs.YtihdijkplmfhfaaGreatDoor.Sp
