/-
  Texts of mine, merged: each part says what it holds. Conditions: as each theorem states.
-/
import Derived.Test.YtihdijkplmfhfaaGreatDoorM24

/- The document's span of a window that begins on a day. Conditions: all may be, as each theorem says. -/
namespace Go.Proofs.YtihdijkplmfhfaaGreatDoor.Window
set_option maxRecDepth 100000
set_option maxRecDepth 100000
open Go.ChangeShapes Go.WideShapes Go.ChangeAt Go.RowKit
open Go.Proofs.YtihdijkplmfhfaaGreatDoor.Divs Go.Proofs.YtihdijkplmfhfaaGreatDoor.Grow
open Go.Proofs.YtihdijkplmfhfaaGreatDoor.Greg (Laid)
open Go.Proofs.YtihdijkplmfhfaaGreatDoor.Zo Go.Proofs.YtihdijkplmfhfaaGreatDoor.Zone Go.Proofs.YtihdijkplmfhfaaGreatDoor.Win
open Go.Proofs.YtihdijkplmfhfaaGreatDoor.Cf (Cg Wn ce wo)
open Go.Proofs.YtihdijkplmfhfaaGreatDoor.Conf (wc cc Is)
open Go.Proofs.YtihdijkplmfhfaaGreatDoor.Fe (kd rst)
open Go.Proofs.YtihdijkplmfhfaaGreatDoor.Su (mV mE sk sa)

set_option linter.unusedVariables false
open Go.Proofs.YtihdijkplmfhfaaGreatDoor.Conf (At load_at)

theorem RA.other {W : World} {g g' : Nat} {cs : Array Value} {t : TypeId} (h : RA W g cs t) (hn : g ≠ g') (k : Nat) (v : Value) : RA (W.setCell ⟨g', k, none⟩ v) g cs t := by
  unfold RA at *
  rw [Conf.heap_set_other _ _ _ _ _ hn]
  exact h

theorem RA.set5 {W : World} {g : Nat} {t : TypeId} {u0 u1 u2 u3 u4 : Value} (h : RA W g #[u0, u1, u2, u3, u4] t) (v0 v1 v2 v3 v4 : Value) :
    RA (((((W.setCell ⟨g, 0, none⟩ v0).setCell ⟨g, 1, none⟩ v1).setCell ⟨g, 2, none⟩ v2).setCell ⟨g, 3, none⟩ v3).setCell ⟨g, 4, none⟩ v4) g #[v0, v1, v2, v3, v4] t := by
  have := ((((h.set 0 v0).set 1 v1).set 2 v2).set 3 v3).set 4 v4
  simpa using this

theorem later_set5 {w W : World} (h : Later w W) {g : Nat} (hg : w.heap.size ≤ g) (v0 v1 v2 v3 v4 : Value) : Later w (((((W.setCell ⟨g, 0, none⟩ v0).setCell ⟨g, 1, none⟩ v1).setCell ⟨g, 2, none⟩ v2).setCell ⟨g, 3, none⟩ v3).setCell ⟨g, 4, none⟩ v4) :=
  later_set (later_set4 h hg v0 v1 v2 v3) hg 4 v4

theorem is_sun {w W : World} {B : Nat} {D : Array Value} {c : Cg} (h : Is w D c) (ha : At W B D) : W.rangeAt B 23 (Sun.sc c.s).toList := by
  obtain ⟨u, v, rfl, _, _⟩ := h
  exact Conf.cc_sun c u v ha

/-- A span, and that there is one. -/
def oc5 (f t m p : Int) (b : Bool) : Array Value := #[.int .i64 f, .int .i64 t, .int .i64 m, .int .i64 p, .bool b]

set_option maxHeartbeats 2000000 in
theorem rof_weekly_no (D : Array Value) (c : Cg) (x : Wn) (d : Int) (w : World) (hc : Is w D c) (hz : May c.z) (hs : sk c.s = 0) (h2 : wo x = true) (d0 : 402 ≤ d) (d1 : d ≤ 3651990) (hk : x.k = 1) (hb : beg c x d = false) : Calls Tryz.prog 37 #[.agg D, .agg (wc x).toArray, .int .i64 d] w fun e w' => e = .returned (.agg (oc5 0 0 0 0 false)) ∧ Later w w' := by
  have t0 : decide (x.k < 4) = true := by simp; omega
  have hw := (Conf.wo_iff x).1 h2
  have KB := fun W (g : Later w W) => rbegins_weekly D c x d W (hc.later g) hk (by omega) (by omega) (by omega)
  rw [show bit x.a d = beg c x d by unfold beg; rw [hk]; simp, hb] at KB
  have HKB := Lib.hid KB
  clear KB
  have HZ := Lib.hid hc.size
  have HC := Lib.hid (is_cells hc)
  have HZn := Lib.hid (fun W B (h : At W B D) => is_zone hc h)
  have HSn := Lib.hid (fun W B (h : At W B D) => is_sun hc h)
  have HG0 := Lib.hid (((((Later.refl w).alloc D 33).alloc (wc x).toArray 65).alloc #[.int .i64 0, .int .i64 0, .int .i64 0, .int .i64 0, .bool false] 73).alloc #[.int .i64 0, .int .i64 0, .int .i64 x.m, .int .i64 x.p] 56)
  have HA0 := Lib.hid ((((At.new w D 33).put (.cells (wc x).toArray 65)).put (.cells #[.int .i64 0, .int .i64 0, .int .i64 0, .int .i64 0, .bool false] 73)).put (.cells #[.int .i64 0, .int .i64 0, .int .i64 x.m, .int .i64 x.p] 56))
  have HB0 := Lib.hid (((At.new (w.alloc (.cells D 33)) (wc x).toArray 65).put (.cells #[.int .i64 0, .int .i64 0, .int .i64 0, .int .i64 0, .bool false] 73)).put (.cells #[.int .i64 0, .int .i64 0, .int .i64 x.m, .int .i64 x.p] 56))
  have HR0 := Lib.hid ((RA.new ((w.alloc (.cells D 33)).alloc (.cells (wc x).toArray 65)) #[.int .i64 0, .int .i64 0, .int .i64 0, .int .i64 0, .bool false] 73).later ((Later.refl _).put (.cells #[.int .i64 0, .int .i64 0, .int .i64 x.m, .int .i64 x.p] 56)))
  have HS0 := Lib.hid (RA.new (((w.alloc (.cells D 33)).alloc (.cells (wc x).toArray 65)).alloc (.cells #[.int .i64 0, .int .i64 0, .int .i64 0, .int .i64 0, .bool false] 73)) #[.int .i64 0, .int .i64 0, .int .i64 x.m, .int .i64 x.p] 56)
  simp only [World.size_alloc] at HB0 HR0 HS0
  clear hc hz hs h2 hw d0 d1 hb hk
  have HB0' : Hid ((((((w.alloc (.cells D 33)).alloc (.cells (wc x).toArray 65)).alloc (.cells #[.int .i64 0, .int .i64 0, .int .i64 0, .int .i64 0, .bool false] 73)).alloc (.cells #[.int .i64 0, .int .i64 0, .int .i64 x.m, .int .i64 x.p] 56))).rangeAt (w.heap.size + 1) 0 (wc x)) := Lib.hid (fun j y hy => by rw [Nat.zero_add]; exact HB0.out j y (by simpa using hy))
  unfold wc at HB0'
  unfold wc at HG0 HA0 HB0 HR0 HS0 ⊢
  unfold oc5
  go_enter Tryz.func37, Tryz.ntmps37
  go_wp2_with (first | (refine load_at D HZ.out rfl (.tmp 3) rfl w.heap.size rfl HA0.out ?_) | (refine Conf.load_win x rfl (.tmp 4) rfl (w.heap.size + 1) 0 rfl HB0'.out ?_))
  refine (HKB.out _ HG0.out).mono ?_
  rintro e w1 ⟨rfl, hg1⟩
  have HG1 := Lib.hid (gtrans HG0.out hg1)
  have HA1 := Lib.hid (HA0.out.later hg1)
  have HB1 := Lib.hid (HB0.out.later hg1)
  have HR1 := Lib.hid (HR0.out.later hg1)
  have HS1 := Lib.hid (HS0.out.later hg1)
  clear hg1
  have r0 := HR1.out.cell 0 _ rfl
  have rf0 := HR1.out.froz 0
  have r1 := HR1.out.cell 1 _ rfl
  have rf1 := HR1.out.froz 1
  have r2 := HR1.out.cell 2 _ rfl
  have rf2 := HR1.out.froz 2
  have r3 := HR1.out.cell 3 _ rfl
  have rf3 := HR1.out.froz 3
  have r4 := HR1.out.cell 4 _ rfl
  have rf4 := HR1.out.froz 4
  go_wp2_with fail
  refine bodyPost_ret (results_r (P := Tryz.prog) (fn := Tryz.f37) Tryz.results37 _ _ (w.heap.size + 1 + 1) 73 _ _ rfl (RA.set5 HR1.out _ _ _ _ _) Tryz.underlying73 rfl (by kernel_rfl)) rfl ⟨rfl, ?_⟩
  exact later_set5 HG1.out (by omega) _ _ _ _ _

set_option maxHeartbeats 2000000 in
theorem rof_weekly_yes (D : Array Value) (c : Cg) (x : Wn) (d : Int) (w : World) (hc : Is w D c) (hz : May c.z) (hs : sk c.s = 0) (h2 : wo x = true) (d0 : 402 ≤ d) (d1 : d ≤ 3651990) (hk : x.k = 1) (hb : beg c x d = true) : Calls Tryz.prog 37 #[.agg D, .agg (wc x).toArray, .int .i64 d] w fun e w' => e = .returned (.agg (oc5 (fr c x d) (tt c x d) x.m x.p true)) ∧ Later w w' := by
  have t0 : decide (x.k < 4) = true := by simp; omega
  have hw := (Conf.wo_iff x).1 h2
  have KB := fun W (g : Later w W) => rbegins_weekly D c x d W (hc.later g) hk (by omega) (by omega) (by omega)
  rw [show bit x.a d = beg c x d by unfold beg; rw [hk]; simp, hb] at KB
  have HKB := Lib.hid KB
  clear KB
  have ht : 0 ≤ x.u ∧ x.u ≤ 1439 ∧ 1 ≤ x.l ∧ x.l ≤ 10080 := (Conf.tmB_iff x).1 (by rcases hw with ⟨_, h | h | h | h⟩ <;> first | exact h.2.1 | (exfalso; omega))
  have KM := Lib.hid (fun W => rmoment_at c.z d x.u W hz d0 d1 ht.1 ht.2.1)
  have hbd := mv_bd c.z hz (d * 1440 + x.u) (by omega) (by omega)
  have v0 : -10000000 ≤ mv c.z (d * 1440 + x.u) ∧ mv c.z (d * 1440 + x.u) ≤ 6000000000 := by omega
  rw [show tt c x d = fr c x d + x.l by unfold fr tt; rw [if_neg (by omega), if_neg (by omega)], show fr c x d = mv c.z (d * 1440 + x.u) by unfold fr; rw [if_neg (by omega)]]
  generalize mv c.z (d * 1440 + x.u) = F at *
  obtain ⟨v0, v1⟩ := v0
  obtain ⟨_, _, l0, l1⟩ := ht
  clear hbd
  have HZ := Lib.hid hc.size
  have HC := Lib.hid (is_cells hc)
  have HZn := Lib.hid (fun W B (h : At W B D) => is_zone hc h)
  have HSn := Lib.hid (fun W B (h : At W B D) => is_sun hc h)
  have HG0 := Lib.hid (((((Later.refl w).alloc D 33).alloc (wc x).toArray 65).alloc #[.int .i64 0, .int .i64 0, .int .i64 0, .int .i64 0, .bool false] 73).alloc #[.int .i64 0, .int .i64 0, .int .i64 x.m, .int .i64 x.p] 56)
  have HA0 := Lib.hid ((((At.new w D 33).put (.cells (wc x).toArray 65)).put (.cells #[.int .i64 0, .int .i64 0, .int .i64 0, .int .i64 0, .bool false] 73)).put (.cells #[.int .i64 0, .int .i64 0, .int .i64 x.m, .int .i64 x.p] 56))
  have HB0 := Lib.hid (((At.new (w.alloc (.cells D 33)) (wc x).toArray 65).put (.cells #[.int .i64 0, .int .i64 0, .int .i64 0, .int .i64 0, .bool false] 73)).put (.cells #[.int .i64 0, .int .i64 0, .int .i64 x.m, .int .i64 x.p] 56))
  have HR0 := Lib.hid ((RA.new ((w.alloc (.cells D 33)).alloc (.cells (wc x).toArray 65)) #[.int .i64 0, .int .i64 0, .int .i64 0, .int .i64 0, .bool false] 73).later ((Later.refl _).put (.cells #[.int .i64 0, .int .i64 0, .int .i64 x.m, .int .i64 x.p] 56)))
  have HS0 := Lib.hid (RA.new (((w.alloc (.cells D 33)).alloc (.cells (wc x).toArray 65)).alloc (.cells #[.int .i64 0, .int .i64 0, .int .i64 0, .int .i64 0, .bool false] 73)) #[.int .i64 0, .int .i64 0, .int .i64 x.m, .int .i64 x.p] 56)
  simp only [World.size_alloc] at HB0 HR0 HS0
  clear hc hz hs h2 hw d0 d1 hb hk
  have HB0' : Hid ((((((w.alloc (.cells D 33)).alloc (.cells (wc x).toArray 65)).alloc (.cells #[.int .i64 0, .int .i64 0, .int .i64 0, .int .i64 0, .bool false] 73)).alloc (.cells #[.int .i64 0, .int .i64 0, .int .i64 x.m, .int .i64 x.p] 56))).rangeAt (w.heap.size + 1) 0 (wc x)) := Lib.hid (fun j y hy => by rw [Nat.zero_add]; exact HB0.out j y (by simpa using hy))
  unfold wc at HB0'
  unfold wc at HG0 HA0 HB0 HR0 HS0 ⊢
  unfold oc5
  go_enter Tryz.func37, Tryz.ntmps37
  go_wp2_with (first | (refine load_at D HZ.out rfl (.tmp 3) rfl w.heap.size rfl HA0.out ?_) | (refine Conf.load_win x rfl (.tmp 4) rfl (w.heap.size + 1) 0 rfl HB0'.out ?_))
  refine (HKB.out _ HG0.out).mono ?_
  rintro e w1 ⟨rfl, hg1⟩
  have HG1 := Lib.hid (gtrans HG0.out hg1)
  have HA1 := Lib.hid (HA0.out.later hg1)
  have HB1 := Lib.hid (HB0.out.later hg1)
  have HR1 := Lib.hid (HR0.out.later hg1)
  have HS1 := Lib.hid (HS0.out.later hg1)
  clear hg1
  have HZ1 := Lib.hid (HZn.out _ _ HA1.out)
  have q5 := HB1.out 5 _ rfl
  go_wp2_with (refine Conf.load_zn c.z rfl (.tmp 31) rfl w.heap.size 13 rfl HZ1.out ?_)
  clear q5
  refine (KM.out _).mono ?_
  rintro e w2 ⟨rfl, hg2⟩
  have HG2 := Lib.hid (gtrans HG1.out hg2)
  have HB2 := Lib.hid (HB1.out.later hg2)
  have HR2 := Lib.hid (HR1.out.later hg2)
  have HS2 := Lib.hid (HS1.out.later hg2)
  clear hg2
  have q6 := HB2.out 6 _ rfl
  have r0 := HR2.out.cell 0 _ rfl
  have rf0 := HR2.out.froz 0
  have r1 := HR2.out.cell 1 _ rfl
  have rf1 := HR2.out.froz 1
  have r2 := HR2.out.cell 2 _ rfl
  have rf2 := HR2.out.froz 2
  have r3 := HR2.out.cell 3 _ rfl
  have rf3 := HR2.out.froz 3
  have r4 := HR2.out.cell 4 _ rfl
  have rf4 := HR2.out.froz 4
  have s0 := HS2.out.cell 0 _ rfl
  have sf0 := HS2.out.froz 0
  have s1 := HS2.out.cell 1 _ rfl
  have sf1 := HS2.out.froz 1
  have s2 := HS2.out.cell 2 _ rfl
  have sf2 := HS2.out.froz 2
  have s3 := HS2.out.cell 3 _ rfl
  have sf3 := HS2.out.froz 3
  go_wp2_with fail
  refine bodyPost_ret (results_r (P := Tryz.prog) (fn := Tryz.f37) Tryz.results37 _ _ (w.heap.size + 1 + 1) 73 _ _ rfl (RA.set5 ((HR2.out.other (by omega) _ _).other (by omega) _ _) _ _ _ _ _) Tryz.underlying73 rfl (by kernel_rfl)) rfl ⟨rfl, ?_⟩
  exact later_set5 (later_set (later_set HG2.out (g := (w.heap.size + 1 + 1 + 1)) (by omega) _ _) (g := (w.heap.size + 1 + 1 + 1)) (by omega) _ _) (by omega) _ _ _ _ _

set_option maxHeartbeats 2000000 in
theorem rof_dated_no (D : Array Value) (c : Cg) (x : Wn) (d : Int) (w : World) (hc : Is w D c) (hz : May c.z) (hs : sk c.s = 0) (h2 : wo x = true) (d0 : 402 ≤ d) (d1 : d ≤ 3651990) (hk : x.k = 2) (hb : beg c x d = false) : Calls Tryz.prog 37 #[.agg D, .agg (wc x).toArray, .int .i64 d] w fun e w' => e = .returned (.agg (oc5 0 0 0 0 false)) ∧ Later w w' := by
  have t0 : decide (x.k < 4) = true := by simp; omega
  have hw := (Conf.wo_iff x).1 h2
  have KB := fun W (g : Later w W) => rbegins_dated D c x d W (hc.later g) hk
  rw [show (x.a == d) = beg c x d by unfold beg; rw [hk]; simp; exact Bool.eq_iff_iff.2 (by simp; omega), hb] at KB
  have HKB := Lib.hid KB
  clear KB
  have HZ := Lib.hid hc.size
  have HC := Lib.hid (is_cells hc)
  have HZn := Lib.hid (fun W B (h : At W B D) => is_zone hc h)
  have HSn := Lib.hid (fun W B (h : At W B D) => is_sun hc h)
  have HG0 := Lib.hid (((((Later.refl w).alloc D 33).alloc (wc x).toArray 65).alloc #[.int .i64 0, .int .i64 0, .int .i64 0, .int .i64 0, .bool false] 73).alloc #[.int .i64 0, .int .i64 0, .int .i64 x.m, .int .i64 x.p] 56)
  have HA0 := Lib.hid ((((At.new w D 33).put (.cells (wc x).toArray 65)).put (.cells #[.int .i64 0, .int .i64 0, .int .i64 0, .int .i64 0, .bool false] 73)).put (.cells #[.int .i64 0, .int .i64 0, .int .i64 x.m, .int .i64 x.p] 56))
  have HB0 := Lib.hid (((At.new (w.alloc (.cells D 33)) (wc x).toArray 65).put (.cells #[.int .i64 0, .int .i64 0, .int .i64 0, .int .i64 0, .bool false] 73)).put (.cells #[.int .i64 0, .int .i64 0, .int .i64 x.m, .int .i64 x.p] 56))
  have HR0 := Lib.hid ((RA.new ((w.alloc (.cells D 33)).alloc (.cells (wc x).toArray 65)) #[.int .i64 0, .int .i64 0, .int .i64 0, .int .i64 0, .bool false] 73).later ((Later.refl _).put (.cells #[.int .i64 0, .int .i64 0, .int .i64 x.m, .int .i64 x.p] 56)))
  have HS0 := Lib.hid (RA.new (((w.alloc (.cells D 33)).alloc (.cells (wc x).toArray 65)).alloc (.cells #[.int .i64 0, .int .i64 0, .int .i64 0, .int .i64 0, .bool false] 73)) #[.int .i64 0, .int .i64 0, .int .i64 x.m, .int .i64 x.p] 56)
  simp only [World.size_alloc] at HB0 HR0 HS0
  clear hc hz hs h2 hw d0 d1 hb hk
  have HB0' : Hid ((((((w.alloc (.cells D 33)).alloc (.cells (wc x).toArray 65)).alloc (.cells #[.int .i64 0, .int .i64 0, .int .i64 0, .int .i64 0, .bool false] 73)).alloc (.cells #[.int .i64 0, .int .i64 0, .int .i64 x.m, .int .i64 x.p] 56))).rangeAt (w.heap.size + 1) 0 (wc x)) := Lib.hid (fun j y hy => by rw [Nat.zero_add]; exact HB0.out j y (by simpa using hy))
  unfold wc at HB0'
  unfold wc at HG0 HA0 HB0 HR0 HS0 ⊢
  unfold oc5
  go_enter Tryz.func37, Tryz.ntmps37
  go_wp2_with (first | (refine load_at D HZ.out rfl (.tmp 3) rfl w.heap.size rfl HA0.out ?_) | (refine Conf.load_win x rfl (.tmp 4) rfl (w.heap.size + 1) 0 rfl HB0'.out ?_))
  refine (HKB.out _ HG0.out).mono ?_
  rintro e w1 ⟨rfl, hg1⟩
  have HG1 := Lib.hid (gtrans HG0.out hg1)
  have HA1 := Lib.hid (HA0.out.later hg1)
  have HB1 := Lib.hid (HB0.out.later hg1)
  have HR1 := Lib.hid (HR0.out.later hg1)
  have HS1 := Lib.hid (HS0.out.later hg1)
  clear hg1
  have r0 := HR1.out.cell 0 _ rfl
  have rf0 := HR1.out.froz 0
  have r1 := HR1.out.cell 1 _ rfl
  have rf1 := HR1.out.froz 1
  have r2 := HR1.out.cell 2 _ rfl
  have rf2 := HR1.out.froz 2
  have r3 := HR1.out.cell 3 _ rfl
  have rf3 := HR1.out.froz 3
  have r4 := HR1.out.cell 4 _ rfl
  have rf4 := HR1.out.froz 4
  go_wp2_with fail
  refine bodyPost_ret (results_r (P := Tryz.prog) (fn := Tryz.f37) Tryz.results37 _ _ (w.heap.size + 1 + 1) 73 _ _ rfl (RA.set5 HR1.out _ _ _ _ _) Tryz.underlying73 rfl (by kernel_rfl)) rfl ⟨rfl, ?_⟩
  exact later_set5 HG1.out (by omega) _ _ _ _ _

set_option maxHeartbeats 2000000 in
theorem rof_dated_yes (D : Array Value) (c : Cg) (x : Wn) (d : Int) (w : World) (hc : Is w D c) (hz : May c.z) (hs : sk c.s = 0) (h2 : wo x = true) (d0 : 402 ≤ d) (d1 : d ≤ 3651990) (hk : x.k = 2) (hb : beg c x d = true) : Calls Tryz.prog 37 #[.agg D, .agg (wc x).toArray, .int .i64 d] w fun e w' => e = .returned (.agg (oc5 (fr c x d) (tt c x d) x.m x.p true)) ∧ Later w w' := by
  have t0 : decide (x.k < 4) = true := by simp; omega
  have hw := (Conf.wo_iff x).1 h2
  have KB := fun W (g : Later w W) => rbegins_dated D c x d W (hc.later g) hk
  rw [show (x.a == d) = beg c x d by unfold beg; rw [hk]; simp; exact Bool.eq_iff_iff.2 (by simp; omega), hb] at KB
  have HKB := Lib.hid KB
  clear KB
  have ht : 0 ≤ x.u ∧ x.u ≤ 1439 ∧ 1 ≤ x.l ∧ x.l ≤ 10080 := (Conf.tmB_iff x).1 (by rcases hw with ⟨_, h | h | h | h⟩ <;> first | exact h.2.1 | (exfalso; omega))
  have KM := Lib.hid (fun W => rmoment_at c.z d x.u W hz d0 d1 ht.1 ht.2.1)
  have hbd := mv_bd c.z hz (d * 1440 + x.u) (by omega) (by omega)
  have v0 : -10000000 ≤ mv c.z (d * 1440 + x.u) ∧ mv c.z (d * 1440 + x.u) ≤ 6000000000 := by omega
  rw [show tt c x d = fr c x d + x.l by unfold fr tt; rw [if_neg (by omega), if_neg (by omega)], show fr c x d = mv c.z (d * 1440 + x.u) by unfold fr; rw [if_neg (by omega)]]
  generalize mv c.z (d * 1440 + x.u) = F at *
  obtain ⟨v0, v1⟩ := v0
  obtain ⟨_, _, l0, l1⟩ := ht
  clear hbd
  have HZ := Lib.hid hc.size
  have HC := Lib.hid (is_cells hc)
  have HZn := Lib.hid (fun W B (h : At W B D) => is_zone hc h)
  have HSn := Lib.hid (fun W B (h : At W B D) => is_sun hc h)
  have HG0 := Lib.hid (((((Later.refl w).alloc D 33).alloc (wc x).toArray 65).alloc #[.int .i64 0, .int .i64 0, .int .i64 0, .int .i64 0, .bool false] 73).alloc #[.int .i64 0, .int .i64 0, .int .i64 x.m, .int .i64 x.p] 56)
  have HA0 := Lib.hid ((((At.new w D 33).put (.cells (wc x).toArray 65)).put (.cells #[.int .i64 0, .int .i64 0, .int .i64 0, .int .i64 0, .bool false] 73)).put (.cells #[.int .i64 0, .int .i64 0, .int .i64 x.m, .int .i64 x.p] 56))
  have HB0 := Lib.hid (((At.new (w.alloc (.cells D 33)) (wc x).toArray 65).put (.cells #[.int .i64 0, .int .i64 0, .int .i64 0, .int .i64 0, .bool false] 73)).put (.cells #[.int .i64 0, .int .i64 0, .int .i64 x.m, .int .i64 x.p] 56))
  have HR0 := Lib.hid ((RA.new ((w.alloc (.cells D 33)).alloc (.cells (wc x).toArray 65)) #[.int .i64 0, .int .i64 0, .int .i64 0, .int .i64 0, .bool false] 73).later ((Later.refl _).put (.cells #[.int .i64 0, .int .i64 0, .int .i64 x.m, .int .i64 x.p] 56)))
  have HS0 := Lib.hid (RA.new (((w.alloc (.cells D 33)).alloc (.cells (wc x).toArray 65)).alloc (.cells #[.int .i64 0, .int .i64 0, .int .i64 0, .int .i64 0, .bool false] 73)) #[.int .i64 0, .int .i64 0, .int .i64 x.m, .int .i64 x.p] 56)
  simp only [World.size_alloc] at HB0 HR0 HS0
  clear hc hz hs h2 hw d0 d1 hb hk
  have HB0' : Hid ((((((w.alloc (.cells D 33)).alloc (.cells (wc x).toArray 65)).alloc (.cells #[.int .i64 0, .int .i64 0, .int .i64 0, .int .i64 0, .bool false] 73)).alloc (.cells #[.int .i64 0, .int .i64 0, .int .i64 x.m, .int .i64 x.p] 56))).rangeAt (w.heap.size + 1) 0 (wc x)) := Lib.hid (fun j y hy => by rw [Nat.zero_add]; exact HB0.out j y (by simpa using hy))
  unfold wc at HB0'
  unfold wc at HG0 HA0 HB0 HR0 HS0 ⊢
  unfold oc5
  go_enter Tryz.func37, Tryz.ntmps37
  go_wp2_with (first | (refine load_at D HZ.out rfl (.tmp 3) rfl w.heap.size rfl HA0.out ?_) | (refine Conf.load_win x rfl (.tmp 4) rfl (w.heap.size + 1) 0 rfl HB0'.out ?_))
  refine (HKB.out _ HG0.out).mono ?_
  rintro e w1 ⟨rfl, hg1⟩
  have HG1 := Lib.hid (gtrans HG0.out hg1)
  have HA1 := Lib.hid (HA0.out.later hg1)
  have HB1 := Lib.hid (HB0.out.later hg1)
  have HR1 := Lib.hid (HR0.out.later hg1)
  have HS1 := Lib.hid (HS0.out.later hg1)
  clear hg1
  have HZ1 := Lib.hid (HZn.out _ _ HA1.out)
  have q5 := HB1.out 5 _ rfl
  go_wp2_with (refine Conf.load_zn c.z rfl (.tmp 31) rfl w.heap.size 13 rfl HZ1.out ?_)
  clear q5
  refine (KM.out _).mono ?_
  rintro e w2 ⟨rfl, hg2⟩
  have HG2 := Lib.hid (gtrans HG1.out hg2)
  have HB2 := Lib.hid (HB1.out.later hg2)
  have HR2 := Lib.hid (HR1.out.later hg2)
  have HS2 := Lib.hid (HS1.out.later hg2)
  clear hg2
  have q6 := HB2.out 6 _ rfl
  have r0 := HR2.out.cell 0 _ rfl
  have rf0 := HR2.out.froz 0
  have r1 := HR2.out.cell 1 _ rfl
  have rf1 := HR2.out.froz 1
  have r2 := HR2.out.cell 2 _ rfl
  have rf2 := HR2.out.froz 2
  have r3 := HR2.out.cell 3 _ rfl
  have rf3 := HR2.out.froz 3
  have r4 := HR2.out.cell 4 _ rfl
  have rf4 := HR2.out.froz 4
  have s0 := HS2.out.cell 0 _ rfl
  have sf0 := HS2.out.froz 0
  have s1 := HS2.out.cell 1 _ rfl
  have sf1 := HS2.out.froz 1
  have s2 := HS2.out.cell 2 _ rfl
  have sf2 := HS2.out.froz 2
  have s3 := HS2.out.cell 3 _ rfl
  have sf3 := HS2.out.froz 3
  go_wp2_with fail
  refine bodyPost_ret (results_r (P := Tryz.prog) (fn := Tryz.f37) Tryz.results37 _ _ (w.heap.size + 1 + 1) 73 _ _ rfl (RA.set5 ((HR2.out.other (by omega) _ _).other (by omega) _ _) _ _ _ _ _) Tryz.underlying73 rfl (by kernel_rfl)) rfl ⟨rfl, ?_⟩
  exact later_set5 (later_set (later_set HG2.out (g := (w.heap.size + 1 + 1 + 1)) (by omega) _ _) (g := (w.heap.size + 1 + 1 + 1)) (by omega) _ _) (by omega) _ _ _ _ _

set_option maxHeartbeats 2000000 in
theorem rof_festive_no (D : Array Value) (c : Cg) (x : Wn) (d : Int) (w : World) (hc : Is w D c) (hz : May c.z) (hs : sk c.s = 0) (h2 : wo x = true) (d0 : 402 ≤ d) (d1 : d ≤ 3651990) (hk : x.k = 3) (hb : beg c x d = false) : Calls Tryz.prog 37 #[.agg D, .agg (wc x).toArray, .int .i64 d] w fun e w' => e = .returned (.agg (oc5 0 0 0 0 false)) ∧ Later w w' := by
  have t0 : decide (x.k < 4) = true := by simp; omega
  have hw := (Conf.wo_iff x).1 h2
  have KB := fun W (g : Later w W) => rbegins_festive D c x d W (hc.later g) hk (by omega) (by omega) (by omega) (by omega)
  rw [show (kd c.ab (d - x.h) == x.a) = beg c x d by unfold beg; rw [hk]; simp, hb] at KB
  have HKB := Lib.hid KB
  clear KB
  have HZ := Lib.hid hc.size
  have HC := Lib.hid (is_cells hc)
  have HZn := Lib.hid (fun W B (h : At W B D) => is_zone hc h)
  have HSn := Lib.hid (fun W B (h : At W B D) => is_sun hc h)
  have HG0 := Lib.hid (((((Later.refl w).alloc D 33).alloc (wc x).toArray 65).alloc #[.int .i64 0, .int .i64 0, .int .i64 0, .int .i64 0, .bool false] 73).alloc #[.int .i64 0, .int .i64 0, .int .i64 x.m, .int .i64 x.p] 56)
  have HA0 := Lib.hid ((((At.new w D 33).put (.cells (wc x).toArray 65)).put (.cells #[.int .i64 0, .int .i64 0, .int .i64 0, .int .i64 0, .bool false] 73)).put (.cells #[.int .i64 0, .int .i64 0, .int .i64 x.m, .int .i64 x.p] 56))
  have HB0 := Lib.hid (((At.new (w.alloc (.cells D 33)) (wc x).toArray 65).put (.cells #[.int .i64 0, .int .i64 0, .int .i64 0, .int .i64 0, .bool false] 73)).put (.cells #[.int .i64 0, .int .i64 0, .int .i64 x.m, .int .i64 x.p] 56))
  have HR0 := Lib.hid ((RA.new ((w.alloc (.cells D 33)).alloc (.cells (wc x).toArray 65)) #[.int .i64 0, .int .i64 0, .int .i64 0, .int .i64 0, .bool false] 73).later ((Later.refl _).put (.cells #[.int .i64 0, .int .i64 0, .int .i64 x.m, .int .i64 x.p] 56)))
  have HS0 := Lib.hid (RA.new (((w.alloc (.cells D 33)).alloc (.cells (wc x).toArray 65)).alloc (.cells #[.int .i64 0, .int .i64 0, .int .i64 0, .int .i64 0, .bool false] 73)) #[.int .i64 0, .int .i64 0, .int .i64 x.m, .int .i64 x.p] 56)
  simp only [World.size_alloc] at HB0 HR0 HS0
  clear hc hz hs h2 hw d0 d1 hb hk
  have HB0' : Hid ((((((w.alloc (.cells D 33)).alloc (.cells (wc x).toArray 65)).alloc (.cells #[.int .i64 0, .int .i64 0, .int .i64 0, .int .i64 0, .bool false] 73)).alloc (.cells #[.int .i64 0, .int .i64 0, .int .i64 x.m, .int .i64 x.p] 56))).rangeAt (w.heap.size + 1) 0 (wc x)) := Lib.hid (fun j y hy => by rw [Nat.zero_add]; exact HB0.out j y (by simpa using hy))
  unfold wc at HB0'
  unfold wc at HG0 HA0 HB0 HR0 HS0 ⊢
  unfold oc5
  go_enter Tryz.func37, Tryz.ntmps37
  go_wp2_with (first | (refine load_at D HZ.out rfl (.tmp 3) rfl w.heap.size rfl HA0.out ?_) | (refine Conf.load_win x rfl (.tmp 4) rfl (w.heap.size + 1) 0 rfl HB0'.out ?_))
  refine (HKB.out _ HG0.out).mono ?_
  rintro e w1 ⟨rfl, hg1⟩
  have HG1 := Lib.hid (gtrans HG0.out hg1)
  have HA1 := Lib.hid (HA0.out.later hg1)
  have HB1 := Lib.hid (HB0.out.later hg1)
  have HR1 := Lib.hid (HR0.out.later hg1)
  have HS1 := Lib.hid (HS0.out.later hg1)
  clear hg1
  have r0 := HR1.out.cell 0 _ rfl
  have rf0 := HR1.out.froz 0
  have r1 := HR1.out.cell 1 _ rfl
  have rf1 := HR1.out.froz 1
  have r2 := HR1.out.cell 2 _ rfl
  have rf2 := HR1.out.froz 2
  have r3 := HR1.out.cell 3 _ rfl
  have rf3 := HR1.out.froz 3
  have r4 := HR1.out.cell 4 _ rfl
  have rf4 := HR1.out.froz 4
  go_wp2_with fail
  refine bodyPost_ret (results_r (P := Tryz.prog) (fn := Tryz.f37) Tryz.results37 _ _ (w.heap.size + 1 + 1) 73 _ _ rfl (RA.set5 HR1.out _ _ _ _ _) Tryz.underlying73 rfl (by kernel_rfl)) rfl ⟨rfl, ?_⟩
  exact later_set5 HG1.out (by omega) _ _ _ _ _

set_option maxHeartbeats 2000000 in
theorem rof_festive_yes (D : Array Value) (c : Cg) (x : Wn) (d : Int) (w : World) (hc : Is w D c) (hz : May c.z) (hs : sk c.s = 0) (h2 : wo x = true) (d0 : 402 ≤ d) (d1 : d ≤ 3651990) (hk : x.k = 3) (hb : beg c x d = true) : Calls Tryz.prog 37 #[.agg D, .agg (wc x).toArray, .int .i64 d] w fun e w' => e = .returned (.agg (oc5 (fr c x d) (tt c x d) x.m x.p true)) ∧ Later w w' := by
  have t0 : decide (x.k < 4) = true := by simp; omega
  have hw := (Conf.wo_iff x).1 h2
  have KB := fun W (g : Later w W) => rbegins_festive D c x d W (hc.later g) hk (by omega) (by omega) (by omega) (by omega)
  rw [show (kd c.ab (d - x.h) == x.a) = beg c x d by unfold beg; rw [hk]; simp, hb] at KB
  have HKB := Lib.hid KB
  clear KB
  have ht : 0 ≤ x.u ∧ x.u ≤ 1439 ∧ 1 ≤ x.l ∧ x.l ≤ 10080 := (Conf.tmB_iff x).1 (by rcases hw with ⟨_, h | h | h | h⟩ <;> first | exact h.2.1 | (exfalso; omega))
  have KM := Lib.hid (fun W => rmoment_at c.z d x.u W hz d0 d1 ht.1 ht.2.1)
  have hbd := mv_bd c.z hz (d * 1440 + x.u) (by omega) (by omega)
  have v0 : -10000000 ≤ mv c.z (d * 1440 + x.u) ∧ mv c.z (d * 1440 + x.u) ≤ 6000000000 := by omega
  rw [show tt c x d = fr c x d + x.l by unfold fr tt; rw [if_neg (by omega), if_neg (by omega)], show fr c x d = mv c.z (d * 1440 + x.u) by unfold fr; rw [if_neg (by omega)]]
  generalize mv c.z (d * 1440 + x.u) = F at *
  obtain ⟨v0, v1⟩ := v0
  obtain ⟨_, _, l0, l1⟩ := ht
  clear hbd
  have HZ := Lib.hid hc.size
  have HC := Lib.hid (is_cells hc)
  have HZn := Lib.hid (fun W B (h : At W B D) => is_zone hc h)
  have HSn := Lib.hid (fun W B (h : At W B D) => is_sun hc h)
  have HG0 := Lib.hid (((((Later.refl w).alloc D 33).alloc (wc x).toArray 65).alloc #[.int .i64 0, .int .i64 0, .int .i64 0, .int .i64 0, .bool false] 73).alloc #[.int .i64 0, .int .i64 0, .int .i64 x.m, .int .i64 x.p] 56)
  have HA0 := Lib.hid ((((At.new w D 33).put (.cells (wc x).toArray 65)).put (.cells #[.int .i64 0, .int .i64 0, .int .i64 0, .int .i64 0, .bool false] 73)).put (.cells #[.int .i64 0, .int .i64 0, .int .i64 x.m, .int .i64 x.p] 56))
  have HB0 := Lib.hid (((At.new (w.alloc (.cells D 33)) (wc x).toArray 65).put (.cells #[.int .i64 0, .int .i64 0, .int .i64 0, .int .i64 0, .bool false] 73)).put (.cells #[.int .i64 0, .int .i64 0, .int .i64 x.m, .int .i64 x.p] 56))
  have HR0 := Lib.hid ((RA.new ((w.alloc (.cells D 33)).alloc (.cells (wc x).toArray 65)) #[.int .i64 0, .int .i64 0, .int .i64 0, .int .i64 0, .bool false] 73).later ((Later.refl _).put (.cells #[.int .i64 0, .int .i64 0, .int .i64 x.m, .int .i64 x.p] 56)))
  have HS0 := Lib.hid (RA.new (((w.alloc (.cells D 33)).alloc (.cells (wc x).toArray 65)).alloc (.cells #[.int .i64 0, .int .i64 0, .int .i64 0, .int .i64 0, .bool false] 73)) #[.int .i64 0, .int .i64 0, .int .i64 x.m, .int .i64 x.p] 56)
  simp only [World.size_alloc] at HB0 HR0 HS0
  clear hc hz hs h2 hw d0 d1 hb hk
  have HB0' : Hid ((((((w.alloc (.cells D 33)).alloc (.cells (wc x).toArray 65)).alloc (.cells #[.int .i64 0, .int .i64 0, .int .i64 0, .int .i64 0, .bool false] 73)).alloc (.cells #[.int .i64 0, .int .i64 0, .int .i64 x.m, .int .i64 x.p] 56))).rangeAt (w.heap.size + 1) 0 (wc x)) := Lib.hid (fun j y hy => by rw [Nat.zero_add]; exact HB0.out j y (by simpa using hy))
  unfold wc at HB0'
  unfold wc at HG0 HA0 HB0 HR0 HS0 ⊢
  unfold oc5
  go_enter Tryz.func37, Tryz.ntmps37
  go_wp2_with (first | (refine load_at D HZ.out rfl (.tmp 3) rfl w.heap.size rfl HA0.out ?_) | (refine Conf.load_win x rfl (.tmp 4) rfl (w.heap.size + 1) 0 rfl HB0'.out ?_))
  refine (HKB.out _ HG0.out).mono ?_
  rintro e w1 ⟨rfl, hg1⟩
  have HG1 := Lib.hid (gtrans HG0.out hg1)
  have HA1 := Lib.hid (HA0.out.later hg1)
  have HB1 := Lib.hid (HB0.out.later hg1)
  have HR1 := Lib.hid (HR0.out.later hg1)
  have HS1 := Lib.hid (HS0.out.later hg1)
  clear hg1
  have HZ1 := Lib.hid (HZn.out _ _ HA1.out)
  have q5 := HB1.out 5 _ rfl
  go_wp2_with (refine Conf.load_zn c.z rfl (.tmp 31) rfl w.heap.size 13 rfl HZ1.out ?_)
  clear q5
  refine (KM.out _).mono ?_
  rintro e w2 ⟨rfl, hg2⟩
  have HG2 := Lib.hid (gtrans HG1.out hg2)
  have HB2 := Lib.hid (HB1.out.later hg2)
  have HR2 := Lib.hid (HR1.out.later hg2)
  have HS2 := Lib.hid (HS1.out.later hg2)
  clear hg2
  have q6 := HB2.out 6 _ rfl
  have r0 := HR2.out.cell 0 _ rfl
  have rf0 := HR2.out.froz 0
  have r1 := HR2.out.cell 1 _ rfl
  have rf1 := HR2.out.froz 1
  have r2 := HR2.out.cell 2 _ rfl
  have rf2 := HR2.out.froz 2
  have r3 := HR2.out.cell 3 _ rfl
  have rf3 := HR2.out.froz 3
  have r4 := HR2.out.cell 4 _ rfl
  have rf4 := HR2.out.froz 4
  have s0 := HS2.out.cell 0 _ rfl
  have sf0 := HS2.out.froz 0
  have s1 := HS2.out.cell 1 _ rfl
  have sf1 := HS2.out.froz 1
  have s2 := HS2.out.cell 2 _ rfl
  have sf2 := HS2.out.froz 2
  have s3 := HS2.out.cell 3 _ rfl
  have sf3 := HS2.out.froz 3
  go_wp2_with fail
  refine bodyPost_ret (results_r (P := Tryz.prog) (fn := Tryz.f37) Tryz.results37 _ _ (w.heap.size + 1 + 1) 73 _ _ rfl (RA.set5 ((HR2.out.other (by omega) _ _).other (by omega) _ _) _ _ _ _ _) Tryz.underlying73 rfl (by kernel_rfl)) rfl ⟨rfl, ?_⟩
  exact later_set5 (later_set (later_set HG2.out (g := (w.heap.size + 1 + 1 + 1)) (by omega) _ _) (g := (w.heap.size + 1 + 1 + 1)) (by omega) _ _) (by omega) _ _ _ _ _

set_option maxHeartbeats 2000000 in
theorem rof_rest_now (D : Array Value) (c : Cg) (x : Wn) (d : Int) (w : World) (hc : Is w D c) (hz : May c.z) (hs : sk c.s = 0) (h2 : wo x = true) (d0 : 402 ≤ d) (d1 : d ≤ 3651990) (hk : x.k = 4) (h0 : rst c.ab d = true) : Calls Tryz.prog 37 #[.agg D, .agg (wc x).toArray, .int .i64 d] w fun e w' => e = .returned (.agg (oc5 0 0 0 0 false)) ∧ Later w w' := by
  have t0 : decide (x.k < 4) = false := by simp; omega
  have K0 := Lib.hid (fun W => Feast.rrest_any d c.ab W (by omega) (by omega))
  have K1 := Lib.hid (fun W => Feast.rrest_any (d + 1) c.ab W (by omega) (by omega))
  rw [h0] at K0
  clear h0
  have HZ := Lib.hid hc.size
  have HC := Lib.hid (is_cells hc)
  have HZn := Lib.hid (fun W B (h : At W B D) => is_zone hc h)
  have HSn := Lib.hid (fun W B (h : At W B D) => is_sun hc h)
  have HG0 := Lib.hid (((((Later.refl w).alloc D 33).alloc (wc x).toArray 65).alloc #[.int .i64 0, .int .i64 0, .int .i64 0, .int .i64 0, .bool false] 73).alloc #[.int .i64 0, .int .i64 0, .int .i64 x.m, .int .i64 x.p] 56)
  have HA0 := Lib.hid ((((At.new w D 33).put (.cells (wc x).toArray 65)).put (.cells #[.int .i64 0, .int .i64 0, .int .i64 0, .int .i64 0, .bool false] 73)).put (.cells #[.int .i64 0, .int .i64 0, .int .i64 x.m, .int .i64 x.p] 56))
  have HB0 := Lib.hid (((At.new (w.alloc (.cells D 33)) (wc x).toArray 65).put (.cells #[.int .i64 0, .int .i64 0, .int .i64 0, .int .i64 0, .bool false] 73)).put (.cells #[.int .i64 0, .int .i64 0, .int .i64 x.m, .int .i64 x.p] 56))
  have HR0 := Lib.hid ((RA.new ((w.alloc (.cells D 33)).alloc (.cells (wc x).toArray 65)) #[.int .i64 0, .int .i64 0, .int .i64 0, .int .i64 0, .bool false] 73).later ((Later.refl _).put (.cells #[.int .i64 0, .int .i64 0, .int .i64 x.m, .int .i64 x.p] 56)))
  have HS0 := Lib.hid (RA.new (((w.alloc (.cells D 33)).alloc (.cells (wc x).toArray 65)).alloc (.cells #[.int .i64 0, .int .i64 0, .int .i64 0, .int .i64 0, .bool false] 73)) #[.int .i64 0, .int .i64 0, .int .i64 x.m, .int .i64 x.p] 56)
  simp only [World.size_alloc] at HB0 HR0 HS0
  clear hc hz hs h2 hk
  unfold wc at HG0 HA0 HB0 HR0 HS0 ⊢
  unfold oc5
  go_enter Tryz.func37, Tryz.ntmps37
  have q35 := HA0.out 35 _ HC.out.2
  go_wp2_with fail
  refine (K0.out _).mono ?_
  rintro e w1 ⟨rfl, hg1⟩
  have HG1 := Lib.hid (gtrans HG0.out hg1)
  have HA1 := Lib.hid (HA0.out.later hg1)
  have HB1 := Lib.hid (HB0.out.later hg1)
  have HR1 := Lib.hid (HR0.out.later hg1)
  have HS1 := Lib.hid (HS0.out.later hg1)
  clear q35 hg1
  have q35 := HA1.out 35 _ HC.out.2
  go_wp2_with fail
  refine (K1.out _).mono ?_
  rintro e w2 ⟨rfl, hg2⟩
  have HG2 := Lib.hid (gtrans HG1.out hg2)
  have HA2 := Lib.hid (HA1.out.later hg2)
  have HB2 := Lib.hid (HB1.out.later hg2)
  have HR2 := Lib.hid (HR1.out.later hg2)
  have HS2 := Lib.hid (HS1.out.later hg2)
  clear q35 hg2
  have r0 := HR2.out.cell 0 _ rfl
  have rf0 := HR2.out.froz 0
  have r1 := HR2.out.cell 1 _ rfl
  have rf1 := HR2.out.froz 1
  have r2 := HR2.out.cell 2 _ rfl
  have rf2 := HR2.out.froz 2
  have r3 := HR2.out.cell 3 _ rfl
  have rf3 := HR2.out.froz 3
  have r4 := HR2.out.cell 4 _ rfl
  have rf4 := HR2.out.froz 4
  go_wp2_with fail
  refine bodyPost_ret (results_r (P := Tryz.prog) (fn := Tryz.f37) Tryz.results37 _ _ (w.heap.size + 1 + 1) 73 _ _ rfl (RA.set5 HR2.out _ _ _ _ _) Tryz.underlying73 rfl (by kernel_rfl)) rfl ⟨rfl, ?_⟩
  exact later_set5 HG2.out (by omega) _ _ _ _ _

set_option maxHeartbeats 2000000 in
theorem rof_rest_then (D : Array Value) (c : Cg) (x : Wn) (d : Int) (w : World) (hc : Is w D c) (hz : May c.z) (hs : sk c.s = 0) (h2 : wo x = true) (d0 : 402 ≤ d) (d1 : d ≤ 3651990) (hk : x.k = 4) (h0 : rst c.ab d = false) (h1 : rst c.ab (d + 1) = false) : Calls Tryz.prog 37 #[.agg D, .agg (wc x).toArray, .int .i64 d] w fun e w' => e = .returned (.agg (oc5 0 0 0 0 false)) ∧ Later w w' := by
  have t0 : decide (x.k < 4) = false := by simp; omega
  have K0 := Lib.hid (fun W => Feast.rrest_any d c.ab W (by omega) (by omega))
  have K1 := Lib.hid (fun W => Feast.rrest_any (d + 1) c.ab W (by omega) (by omega))
  rw [h0] at K0
  rw [h1] at K1
  clear h0 h1
  have HZ := Lib.hid hc.size
  have HC := Lib.hid (is_cells hc)
  have HZn := Lib.hid (fun W B (h : At W B D) => is_zone hc h)
  have HSn := Lib.hid (fun W B (h : At W B D) => is_sun hc h)
  have HG0 := Lib.hid (((((Later.refl w).alloc D 33).alloc (wc x).toArray 65).alloc #[.int .i64 0, .int .i64 0, .int .i64 0, .int .i64 0, .bool false] 73).alloc #[.int .i64 0, .int .i64 0, .int .i64 x.m, .int .i64 x.p] 56)
  have HA0 := Lib.hid ((((At.new w D 33).put (.cells (wc x).toArray 65)).put (.cells #[.int .i64 0, .int .i64 0, .int .i64 0, .int .i64 0, .bool false] 73)).put (.cells #[.int .i64 0, .int .i64 0, .int .i64 x.m, .int .i64 x.p] 56))
  have HB0 := Lib.hid (((At.new (w.alloc (.cells D 33)) (wc x).toArray 65).put (.cells #[.int .i64 0, .int .i64 0, .int .i64 0, .int .i64 0, .bool false] 73)).put (.cells #[.int .i64 0, .int .i64 0, .int .i64 x.m, .int .i64 x.p] 56))
  have HR0 := Lib.hid ((RA.new ((w.alloc (.cells D 33)).alloc (.cells (wc x).toArray 65)) #[.int .i64 0, .int .i64 0, .int .i64 0, .int .i64 0, .bool false] 73).later ((Later.refl _).put (.cells #[.int .i64 0, .int .i64 0, .int .i64 x.m, .int .i64 x.p] 56)))
  have HS0 := Lib.hid (RA.new (((w.alloc (.cells D 33)).alloc (.cells (wc x).toArray 65)).alloc (.cells #[.int .i64 0, .int .i64 0, .int .i64 0, .int .i64 0, .bool false] 73)) #[.int .i64 0, .int .i64 0, .int .i64 x.m, .int .i64 x.p] 56)
  simp only [World.size_alloc] at HB0 HR0 HS0
  clear hc hz hs h2 hk
  unfold wc at HG0 HA0 HB0 HR0 HS0 ⊢
  unfold oc5
  go_enter Tryz.func37, Tryz.ntmps37
  have q35 := HA0.out 35 _ HC.out.2
  go_wp2_with fail
  refine (K0.out _).mono ?_
  rintro e w1 ⟨rfl, hg1⟩
  have HG1 := Lib.hid (gtrans HG0.out hg1)
  have HA1 := Lib.hid (HA0.out.later hg1)
  have HB1 := Lib.hid (HB0.out.later hg1)
  have HR1 := Lib.hid (HR0.out.later hg1)
  have HS1 := Lib.hid (HS0.out.later hg1)
  clear q35 hg1
  have q35 := HA1.out 35 _ HC.out.2
  go_wp2_with fail
  refine (K1.out _).mono ?_
  rintro e w2 ⟨rfl, hg2⟩
  have HG2 := Lib.hid (gtrans HG1.out hg2)
  have HA2 := Lib.hid (HA1.out.later hg2)
  have HB2 := Lib.hid (HB1.out.later hg2)
  have HR2 := Lib.hid (HR1.out.later hg2)
  have HS2 := Lib.hid (HS1.out.later hg2)
  clear q35 hg2
  have r0 := HR2.out.cell 0 _ rfl
  have rf0 := HR2.out.froz 0
  have r1 := HR2.out.cell 1 _ rfl
  have rf1 := HR2.out.froz 1
  have r2 := HR2.out.cell 2 _ rfl
  have rf2 := HR2.out.froz 2
  have r3 := HR2.out.cell 3 _ rfl
  have rf3 := HR2.out.froz 3
  have r4 := HR2.out.cell 4 _ rfl
  have rf4 := HR2.out.froz 4
  go_wp2_with fail
  refine bodyPost_ret (results_r (P := Tryz.prog) (fn := Tryz.f37) Tryz.results37 _ _ (w.heap.size + 1 + 1) 73 _ _ rfl (RA.set5 HR2.out _ _ _ _ _) Tryz.underlying73 rfl (by kernel_rfl)) rfl ⟨rfl, ?_⟩
  exact later_set5 HG2.out (by omega) _ _ _ _ _

set_option maxHeartbeats 2000000 in
theorem rof_rest_yes (D : Array Value) (c : Cg) (x : Wn) (d : Int) (w : World) (hc : Is w D c) (hz : May c.z) (hs : sk c.s = 0) (h2 : wo x = true) (d0 : 402 ≤ d) (d1 : d ≤ 3651990) (hk : x.k = 4) (h0 : rst c.ab d = false) (h1 : rst c.ab (d + 1) = true) : Calls Tryz.prog 37 #[.agg D, .agg (wc x).toArray, .int .i64 d] w fun e w' => e = .returned (.agg (oc5 (fr c x d) (tt c x d) x.m x.p true)) ∧ Later w w' := by
  have t0 : decide (x.k < 4) = false := by simp; omega
  have K0 := Lib.hid (fun W => Feast.rrest_any d c.ab W (by omega) (by omega))
  have K1 := Lib.hid (fun W => Feast.rrest_any (d + 1) c.ab W (by omega) (by omega))
  have hw := (Conf.wo_iff x).1 h2
  have hrow := rl_row c.ab (d + 1) h1 (by rw [show d + 1 - 1 = d by omega]; exact h0)
  have hrb := rl_bd c.ab (d + 1)
  have KR := Lib.hid (fun W => Feast.rrun_any (d + 1) (d + 1) (rl c.ab (d + 1)) c.ab W hrow)
  have V1 := mV_at c.z c.s d hz hs (by omega) (by omega)
  have V2 := mV_at c.z c.s (rl c.ab (d + 1)) hz hs (by omega) (by omega)
  have E1 := (Su.mE_ok c.z c.s d).2 ⟨(ck_may c.z).2 hz, hs, by omega, by omega⟩
  have E2 := (Su.mE_ok c.z c.s (rl c.ab (d + 1))).2 ⟨(ck_may c.z).2 hz, hs, by omega, by omega⟩
  have M1 := Lib.hid (fun W => Sun.rmoment_any c.z c.s d W)
  have M2 := Lib.hid (fun W => Sun.rmoment_any c.z c.s (rl c.ab (d + 1)) W)
  rw [E1] at M1
  rw [E2] at M2
  have s1 := sa_in c.s d hs (by omega) (by omega)
  have s2 := sa_in c.s (rl c.ab (d + 1)) hs (by omega) (by omega)
  have hz' := hz
  unfold May at hz'
  have m10 : -100000000 ≤ mV c.z c.s d ∧ mV c.z c.s d ≤ 10000000000 := by omega
  have m20 : -100000000 ≤ mV c.z c.s (rl c.ab (d + 1)) ∧ mV c.z c.s (rl c.ab (d + 1)) ≤ 10000000000 := by omega
  have u0 : 0 ≤ x.u ∧ x.u ≤ 180 ∧ 0 ≤ x.l ∧ x.l ≤ 180 := by omega
  rw [show fr c x d = mV c.z c.s d - x.u by unfold fr; rw [if_pos hk, V1], show tt c x d = mV c.z c.s (rl c.ab (d + 1)) + x.l by unfold tt; rw [if_pos hk, V2]]
  rw [h0] at K0
  rw [h1] at K1
  clear h0 h1 hw hrow hrb V1 V2 E1 E2 s1 s2 hz'
  generalize mV c.z c.s d = m1 at *
  generalize mV c.z c.s (rl c.ab (d + 1)) = m2 at *
  generalize rl c.ab (d + 1) = b at *
  obtain ⟨m10, m11⟩ := m10
  obtain ⟨m20, m21⟩ := m20
  obtain ⟨u0, u1, l0, l1⟩ := u0
  have HZ := Lib.hid hc.size
  have HC := Lib.hid (is_cells hc)
  have HZn := Lib.hid (fun W B (h : At W B D) => is_zone hc h)
  have HSn := Lib.hid (fun W B (h : At W B D) => is_sun hc h)
  have HG0 := Lib.hid (((((Later.refl w).alloc D 33).alloc (wc x).toArray 65).alloc #[.int .i64 0, .int .i64 0, .int .i64 0, .int .i64 0, .bool false] 73).alloc #[.int .i64 0, .int .i64 0, .int .i64 x.m, .int .i64 x.p] 56)
  have HA0 := Lib.hid ((((At.new w D 33).put (.cells (wc x).toArray 65)).put (.cells #[.int .i64 0, .int .i64 0, .int .i64 0, .int .i64 0, .bool false] 73)).put (.cells #[.int .i64 0, .int .i64 0, .int .i64 x.m, .int .i64 x.p] 56))
  have HB0 := Lib.hid (((At.new (w.alloc (.cells D 33)) (wc x).toArray 65).put (.cells #[.int .i64 0, .int .i64 0, .int .i64 0, .int .i64 0, .bool false] 73)).put (.cells #[.int .i64 0, .int .i64 0, .int .i64 x.m, .int .i64 x.p] 56))
  have HR0 := Lib.hid ((RA.new ((w.alloc (.cells D 33)).alloc (.cells (wc x).toArray 65)) #[.int .i64 0, .int .i64 0, .int .i64 0, .int .i64 0, .bool false] 73).later ((Later.refl _).put (.cells #[.int .i64 0, .int .i64 0, .int .i64 x.m, .int .i64 x.p] 56)))
  have HS0 := Lib.hid (RA.new (((w.alloc (.cells D 33)).alloc (.cells (wc x).toArray 65)).alloc (.cells #[.int .i64 0, .int .i64 0, .int .i64 0, .int .i64 0, .bool false] 73)) #[.int .i64 0, .int .i64 0, .int .i64 x.m, .int .i64 x.p] 56)
  simp only [World.size_alloc] at HB0 HR0 HS0
  clear hc hz hs h2 hk
  unfold wc at HG0 HA0 HB0 HR0 HS0 ⊢
  unfold oc5
  go_enter Tryz.func37, Tryz.ntmps37
  have q35 := HA0.out 35 _ HC.out.2
  go_wp2_with fail
  refine (K0.out _).mono ?_
  rintro e w1 ⟨rfl, hg1⟩
  have HG1 := Lib.hid (gtrans HG0.out hg1)
  have HA1 := Lib.hid (HA0.out.later hg1)
  have HB1 := Lib.hid (HB0.out.later hg1)
  have HR1 := Lib.hid (HR0.out.later hg1)
  have HS1 := Lib.hid (HS0.out.later hg1)
  clear q35 hg1
  have q35 := HA1.out 35 _ HC.out.2
  go_wp2_with fail
  refine (K1.out _).mono ?_
  rintro e w2 ⟨rfl, hg2⟩
  have HG2 := Lib.hid (gtrans HG1.out hg2)
  have HA2 := Lib.hid (HA1.out.later hg2)
  have HB2 := Lib.hid (HB1.out.later hg2)
  have HR2 := Lib.hid (HR1.out.later hg2)
  have HS2 := Lib.hid (HS1.out.later hg2)
  clear q35 hg2
  have q35 := HA2.out 35 _ HC.out.2
  go_wp2_with fail
  refine (KR.out _).mono ?_
  rintro e w3 ⟨rfl, hg3⟩
  have HG3 := Lib.hid (gtrans HG2.out hg3)
  have HA3 := Lib.hid (HA2.out.later hg3)
  have HB3 := Lib.hid (HB2.out.later hg3)
  have HR3 := Lib.hid (HR2.out.later hg3)
  have HS3 := Lib.hid (HS2.out.later hg3)
  clear q35 hg3
  have hz3 := HG3.out.size
  have hlt := HS3.out.lt
  have HZ3 := Lib.hid (HZn.out _ _ (HA3.out.put (.cells #[.int .i64 (d + 1), .int .i64 b] 99)))
  have HX3 := Lib.hid (HSn.out _ _ (HA3.out.put (.cells #[.int .i64 (d + 1), .int .i64 b] 99)))
  have HP3 := Lib.hid (RA.new w3 #[.int .i64 (d + 1), .int .i64 b] 99)
  have LP := Lib.hid ((Later.refl w3).put (.cells #[.int .i64 (d + 1), .int .i64 b] 99))
  go_wp2_with (first | (refine Conf.load_zn c.z rfl (.tmp 67) rfl w.heap.size 13 rfl HZ3.out ?_) | (refine Conf.load_sn c.s rfl (.tmp 69) rfl w.heap.size 23 rfl HX3.out ?_))
  refine (M1.out _).mono ?_
  rintro e w4 ⟨rfl, hg4⟩
  have HG4 := Lib.hid (gtrans (gtrans HG3.out LP.out) hg4)
  have HA4 := Lib.hid (HA3.out.later (gtrans LP.out hg4))
  have HB4 := Lib.hid (HB3.out.later (gtrans LP.out hg4))
  have HR4 := Lib.hid (HR3.out.later (gtrans LP.out hg4))
  have HS4 := Lib.hid (HS3.out.later (gtrans LP.out hg4))
  have HP4 := Lib.hid (HP3.out.later hg4)
  clear hg4
  have HZ4 := Lib.hid (HZn.out _ _ HA4.out)
  have HX4 := Lib.hid (HSn.out _ _ HA4.out)
  have p1 := HP4.out.cell 1 _ rfl
  go_wp2_with (first | (refine Conf.load_zn c.z rfl (.tmp 76) rfl w.heap.size 13 rfl HZ4.out ?_) | (refine Conf.load_sn c.s rfl (.tmp 78) rfl w.heap.size 23 rfl HX4.out ?_))
  clear p1
  refine (M2.out _).mono ?_
  rintro e w5 ⟨rfl, hg5⟩
  have HG5 := Lib.hid (gtrans HG4.out hg5)
  have HB5 := Lib.hid (HB4.out.later hg5)
  have HR5 := Lib.hid (HR4.out.later hg5)
  have HS5 := Lib.hid (HS4.out.later hg5)
  clear hg5
  have q5 := HB5.out 5 _ rfl
  have q6 := HB5.out 6 _ rfl
  have r0 := HR5.out.cell 0 _ rfl
  have rf0 := HR5.out.froz 0
  have r1 := HR5.out.cell 1 _ rfl
  have rf1 := HR5.out.froz 1
  have r2 := HR5.out.cell 2 _ rfl
  have rf2 := HR5.out.froz 2
  have r3 := HR5.out.cell 3 _ rfl
  have rf3 := HR5.out.froz 3
  have r4 := HR5.out.cell 4 _ rfl
  have rf4 := HR5.out.froz 4
  have s0 := HS5.out.cell 0 _ rfl
  have sf0 := HS5.out.froz 0
  have s1 := HS5.out.cell 1 _ rfl
  have sf1 := HS5.out.froz 1
  have s2 := HS5.out.cell 2 _ rfl
  have sf2 := HS5.out.froz 2
  have s3 := HS5.out.cell 3 _ rfl
  have sf3 := HS5.out.froz 3
  go_wp2_with fail
  refine bodyPost_ret (results_r (P := Tryz.prog) (fn := Tryz.f37) Tryz.results37 _ _ (w.heap.size + 1 + 1) 73 _ _ rfl (RA.set5 ((HR5.out.other (by omega) _ _).other (by omega) _ _) _ _ _ _ _) Tryz.underlying73 rfl (by kernel_rfl)) rfl ⟨rfl, ?_⟩
  exact later_set5 (later_set (later_set HG5.out (g := (w.heap.size + 1 + 1 + 1)) (by omega) _ _) (g := (w.heap.size + 1 + 1 + 1)) (by omega) _ _) (by omega) _ _ _ _ _

/-- The document's span of a window's day. -/
theorem rof_any (D : Array Value) (c : Cg) (x : Wn) (d : Int) (w : World) (hc : Is w D c) (h : pE c x d = 0) : Calls Tryz.prog 37 #[.agg D, .agg (wc x).toArray, .int .i64 d] w fun e w' => e = .returned (.agg (oc5 (pF c x d) (pT c x d) (pM c x d) (pP c x d) (pB c x d))) ∧ Later w w' := by
  obtain ⟨h1, h2, d0, d1⟩ := (pE_ok c x d).1 h
  obtain ⟨hz, hs⟩ := ce_parts c h1
  cases hb : beg c x d
  · have b : pB c x d = false := by unfold pB; rw [h, hb]; rfl
    unfold pF pT pM pP
    rw [b]
    rcases kinds4 x h2 with k | k | k | k
    · exact rof_weekly_no D c x d w hc hz hs h2 d0 d1 k hb
    · exact rof_dated_no D c x d w hc hz hs h2 d0 d1 k hb
    · exact rof_festive_no D c x d w hc hz hs h2 d0 d1 k hb
    · rw [beg_rest c x d k] at hb
      cases h0 : rst c.ab d
      · exact rof_rest_then D c x d w hc hz hs h2 d0 d1 k h0 (by rw [h0] at hb; simpa using hb)
      · exact rof_rest_now D c x d w hc hz hs h2 d0 d1 k h0
  · have b : pB c x d = true := by unfold pB; rw [h, hb]; rfl
    unfold pF pT pM pP
    rw [b]
    simp only [if_true]
    rcases kinds4 x h2 with k | k | k | k
    · exact rof_weekly_yes D c x d w hc hz hs h2 d0 d1 k hb
    · exact rof_dated_yes D c x d w hc hz hs h2 d0 d1 k hb
    · exact rof_festive_yes D c x d w hc hz hs h2 d0 d1 k hb
    · rw [beg_rest c x d k] at hb
      simp only [Bool.and_eq_true, Bool.not_eq_true'] at hb
      exact rof_rest_yes D c x d w hc hz hs h2 d0 d1 k hb.1 hb.2

end Go.Proofs.YtihdijkplmfhfaaGreatDoor.Window
