/-
  Texts of mine, merged: each part says what it holds. Conditions: as each theorem states.
-/
import Derived.Test.YtmlnlkfdbbnkbaaGreatDoorM14

/- The span of a window that begins on a day, by the program: where it does. Conditions: the table of months lies where the program lays it; the day is an int. -/
namespace Go.Proofs.YtmlnlkfdbbnkbaaGreatDoor.Window
set_option maxRecDepth 100000
open Go.ChangeShapes Go.WideShapes Go.ChangeAt Go.RowKit
open Go.Proofs.YtmlnlkfdbbnkbaaGreatDoor.Divs Go.Proofs.YtmlnlkfdbbnkbaaGreatDoor.Grow
open Go.Proofs.YtmlnlkfdbbnkbaaGreatDoor.Greg (Laid)
open Go.Proofs.YtmlnlkfdbbnkbaaGreatDoor.Zo Go.Proofs.YtmlnlkfdbbnkbaaGreatDoor.Zone Go.Proofs.YtmlnlkfdbbnkbaaGreatDoor.Win
open Go.Proofs.YtmlnlkfdbbnkbaaGreatDoor.Cf (Cg Wn ce wo)
open Go.Proofs.YtmlnlkfdbbnkbaaGreatDoor.Conf (wc cc Is)
open Go.Proofs.YtmlnlkfdbbnkbaaGreatDoor.Fe (kd rst)
open Go.Proofs.YtmlnlkfdbbnkbaaGreatDoor.Su (mV mE sk sa)

open Go.Proofs.YtmlnlkfdbbnkbaaGreatDoor.Conf (At load_at)

theorem span_weekly_yes (D : Array Value) (c : Cg) (x : Wn) (d : Int) (w : World) (hL : Laid w) (hc : Is w D c) (h : ce c = 0) (h2 : wo x = true) (d0 : 402 ≤ d) (d1 : d ≤ 3651990) (hk : x.k = 1) (hb : beg c x d = true) : Calls Tryz.prog 11 #[.agg D, .agg (wc x).toArray, .int .i64 d] w fun e w' => e = .returned (.tuple #[.agg (sc4 (fr c x d) (tt c x d) x.m x.p), .bool true, .int .i64 0]) ∧ Later w w' := by
  have e0 : (ce c != 0) = false := by simpa using h
  have KW := Lib.hid (fun W => Conf.window_any x W)
  rw [show Cf.we x = 0 from (Cf.we_ok x).2 h2] at KW
  have KA := Lib.hid (fun W => asked_any d W)
  rw [(wiB_iff d 402 3651990).2 ⟨d0, d1⟩] at KA
  have hw := (Conf.wo_iff x).1 h2
  obtain ⟨hz, hs⟩ := ce_parts c h
  have KK := Lib.hid (fun W (g : Later w W) => kind_weekly_of (hc.later g) x hk)
  have KB := Lib.hid (fun W => weekly_begins c.z x.u x.l x.a d W (by omega) (by omega))
  rw [show bit x.a d = beg c x d by unfold beg; rw [hk]; simp, hb] at KB
  have ht : 0 ≤ x.u ∧ x.u ≤ 1439 ∧ 1 ≤ x.l ∧ x.l ≤ 10080 := (Conf.tmB_iff x).1 (by rcases hw with ⟨_, h | h | h | h⟩ <;> first | exact h.2.1 | (exfalso; omega))
  have KE := Lib.hid (fun W hW => hours_ends c.z x.u x.l d W hW hz d0 d1 (by omega) (by omega) (by omega) (by omega))
  rw [show mv c.z (d * 1440 + x.u) = fr c x d by unfold fr; rw [if_neg (by omega)], show fr c x d + x.l = tt c x d by unfold fr tt; rw [if_neg (by omega), if_neg (by omega)]] at KE
  clear ht
  have KC := Lib.hid (fun W (g : Later w W) => Conf.check_of (hc.later g))
  have HZ := Lib.hid hc.size
  have HG0 := Lib.hid ((((Later.refl w).alloc D 33).alloc (wc x).toArray 35).alloc (sc4 0 0 0 0) 39)
  have HL0 := Lib.hid (hL.grown HG0.out)
  have HA0 := Lib.hid (((At.new w D 33).put (.cells (wc x).toArray 35)).put (.cells (sc4 0 0 0 0) 39))
  have HB0 := Lib.hid ((At.new (w.alloc (.cells D 33)) (wc x).toArray 35).put (.cells (sc4 0 0 0 0) 39))
  have HR0 := Lib.hid (RA.new ((w.alloc (.cells D 33)).alloc (.cells (wc x).toArray 35)) (sc4 0 0 0 0) 39)
  simp only [World.size_alloc] at HB0 HR0
  clear hL hc h h2 hz hs hw d0 d1 hb hk
  generalize ce c = k at *
  generalize fr c x d = F at *
  generalize tt c x d = T at *
  obtain ⟨KV, hKV⟩ : ∃ KV, KV = wk c.z x.u x.l x.a := ⟨_, rfl⟩
  rw [← hKV] at KK KB
  have HX : Hid (∀ n, n = 12 → KV.extract 0 n = hk c.z x.u x.l) := Lib.hid (fun n hn => by rw [hn, hKV]; rfl)
  clear hKV
  unfold wc sc4 at *
  go_enter Tryz.func11, Tryz.ntmps11
  go_wp2_with (refine load_at D HZ.out rfl (.tmp 3) rfl w.heap.size rfl HA0.out ?_)
  refine (KC.out _ HG0.out).mono ?_
  rintro e w1 ⟨rfl, hg1⟩
  have HG1 := Lib.hid (gtrans HG0.out hg1)
  have HB1' : Hid (w1.rangeAt (w.heap.size + 1) 0 (wc x)) := Lib.hid (fun j y hy => by rw [Nat.zero_add]; exact HB0.out.later hg1 j y (by simpa [wc] using hy))
  have HL1 := Lib.hid (HL0.out.grown hg1)
  have HA1 := Lib.hid (HA0.out.later hg1)
  have HB1 := Lib.hid (HB0.out.later hg1)
  have HR1 := Lib.hid (HR0.out.later hg1)
  clear hg1
  go_wp2_with (refine Conf.load_win x rfl (.tmp 4) rfl (w.heap.size + 1) 0 rfl HB1'.out ?_)
  refine (KW.out _).mono ?_
  rintro e w2 ⟨rfl, hg2⟩
  have HG2 := Lib.hid (gtrans HG1.out hg2)
  have HL2 := Lib.hid (HL1.out.grown hg2)
  have HA2 := Lib.hid (HA1.out.later hg2)
  have HB2 := Lib.hid (HB1.out.later hg2)
  have HR2 := Lib.hid (HR1.out.later hg2)
  clear hg2
  go_wp2_with fail
  refine (KA.out _).mono ?_
  rintro e w3 ⟨rfl, rfl⟩
  have HB2' : Hid (w2.rangeAt (w.heap.size + 1) 0 (wc x)) := Lib.hid (fun j y hy => by rw [Nat.zero_add]; exact HB2.out j y (by simpa [wc] using hy))
  go_wp2_with (first | (refine load_at D HZ.out rfl (.tmp 3) rfl w.heap.size rfl HA2.out ?_) | (refine Conf.load_win x rfl (.tmp 4) rfl (w.heap.size + 1) 0 rfl HB2'.out ?_))
  refine (KK.out _ HG2.out).mono ?_
  rintro e w4 ⟨rfl, hg4⟩
  have HG4 := Lib.hid (gtrans HG2.out hg4)
  have HL4 := Lib.hid (HL2.out.grown hg4)
  have HB4 := Lib.hid (HB2.out.later hg4)
  have HR4 := Lib.hid (HR2.out.later hg4)
  clear hg4
  go_wp2_with fail
  refine (KB.out _).mono ?_
  rintro e w5 ⟨rfl, hg5⟩
  have HG5 := Lib.hid (gtrans HG4.out hg5)
  have HL5 := Lib.hid (HL4.out.grown hg5)
  have HB5 := Lib.hid (HB4.out.later hg5)
  have HR5 := Lib.hid (HR4.out.later hg5)
  clear hg5
  go_wp2_with fail
  rw [HX.out]
  rotate_left 1
  · kernel_rfl
  refine (KE.out _ HL5.out).mono ?_
  rintro e w6 ⟨rfl, hg6⟩
  have HG6 := Lib.hid (gtrans HG5.out hg6)
  have HB6 := Lib.hid (HB5.out.later hg6)
  have HR6 := Lib.hid (HR5.out.later hg6)
  have q1 := HB6.out 1 _ rfl
  have q2 := HB6.out 2 _ rfl
  clear hg6
  have r0 := (HR6.out).cell 0 _ rfl
  have f0 := (HR6.out).froz 0
  have r1 := (HR6.out).cell 1 _ rfl
  have f1 := (HR6.out).froz 1
  have r2 := (HR6.out).cell 2 _ rfl
  have f2 := (HR6.out).froz 2
  have r3 := (HR6.out).cell 3 _ rfl
  have f3 := (HR6.out).froz 3
  go_wp2_with fail
  refine bodyPost_ret (results_rtt (P := Tryz.prog) (fn := Tryz.f11) Tryz.results11 _ _ (w.heap.size + 1 + 1) 39 _ _ _ _ rfl rfl rfl (RA.set4 (HR6.out) _ _ _ _) Tryz.underlying39 rfl (by kernel_rfl)) rfl ⟨rfl, ?_⟩
  exact later_set4 (HG6.out) (by omega) _ _ _ _

theorem span_dated_yes (D : Array Value) (c : Cg) (x : Wn) (d : Int) (w : World) (hL : Laid w) (hc : Is w D c) (h : ce c = 0) (h2 : wo x = true) (d0 : 402 ≤ d) (d1 : d ≤ 3651990) (hk : x.k = 2) (hb : beg c x d = true) : Calls Tryz.prog 11 #[.agg D, .agg (wc x).toArray, .int .i64 d] w fun e w' => e = .returned (.tuple #[.agg (sc4 (fr c x d) (tt c x d) x.m x.p), .bool true, .int .i64 0]) ∧ Later w w' := by
  have e0 : (ce c != 0) = false := by simpa using h
  have KW := Lib.hid (fun W => Conf.window_any x W)
  rw [show Cf.we x = 0 from (Cf.we_ok x).2 h2] at KW
  have KA := Lib.hid (fun W => asked_any d W)
  rw [(wiB_iff d 402 3651990).2 ⟨d0, d1⟩] at KA
  have hw := (Conf.wo_iff x).1 h2
  obtain ⟨hz, hs⟩ := ce_parts c h
  have KK := Lib.hid (fun W (g : Later w W) => kind_dated_of (hc.later g) x hk)
  have KB := Lib.hid (fun W => dated_begins c.z x.u x.l x.a d W)
  rw [show (d == x.a) = beg c x d by unfold beg; rw [hk]; simp, hb] at KB
  have ht : 0 ≤ x.u ∧ x.u ≤ 1439 ∧ 1 ≤ x.l ∧ x.l ≤ 10080 := (Conf.tmB_iff x).1 (by rcases hw with ⟨_, h | h | h | h⟩ <;> first | exact h.2.1 | (exfalso; omega))
  have KE := Lib.hid (fun W hW => hours_ends c.z x.u x.l d W hW hz d0 d1 (by omega) (by omega) (by omega) (by omega))
  rw [show mv c.z (d * 1440 + x.u) = fr c x d by unfold fr; rw [if_neg (by omega)], show fr c x d + x.l = tt c x d by unfold fr tt; rw [if_neg (by omega), if_neg (by omega)]] at KE
  clear ht
  have KC := Lib.hid (fun W (g : Later w W) => Conf.check_of (hc.later g))
  have HZ := Lib.hid hc.size
  have HG0 := Lib.hid ((((Later.refl w).alloc D 33).alloc (wc x).toArray 35).alloc (sc4 0 0 0 0) 39)
  have HL0 := Lib.hid (hL.grown HG0.out)
  have HA0 := Lib.hid (((At.new w D 33).put (.cells (wc x).toArray 35)).put (.cells (sc4 0 0 0 0) 39))
  have HB0 := Lib.hid ((At.new (w.alloc (.cells D 33)) (wc x).toArray 35).put (.cells (sc4 0 0 0 0) 39))
  have HR0 := Lib.hid (RA.new ((w.alloc (.cells D 33)).alloc (.cells (wc x).toArray 35)) (sc4 0 0 0 0) 39)
  simp only [World.size_alloc] at HB0 HR0
  clear hL hc h h2 hz hs hw d0 d1 hb hk
  generalize ce c = k at *
  generalize fr c x d = F at *
  generalize tt c x d = T at *
  obtain ⟨KV, hKV⟩ : ∃ KV, KV = wk c.z x.u x.l x.a := ⟨_, rfl⟩
  rw [← hKV] at KK KB
  have HX : Hid (∀ n, n = 12 → KV.extract 0 n = hk c.z x.u x.l) := Lib.hid (fun n hn => by rw [hn, hKV]; rfl)
  clear hKV
  unfold wc sc4 at *
  go_enter Tryz.func11, Tryz.ntmps11
  go_wp2_with (refine load_at D HZ.out rfl (.tmp 3) rfl w.heap.size rfl HA0.out ?_)
  refine (KC.out _ HG0.out).mono ?_
  rintro e w1 ⟨rfl, hg1⟩
  have HG1 := Lib.hid (gtrans HG0.out hg1)
  have HB1' : Hid (w1.rangeAt (w.heap.size + 1) 0 (wc x)) := Lib.hid (fun j y hy => by rw [Nat.zero_add]; exact HB0.out.later hg1 j y (by simpa [wc] using hy))
  have HL1 := Lib.hid (HL0.out.grown hg1)
  have HA1 := Lib.hid (HA0.out.later hg1)
  have HB1 := Lib.hid (HB0.out.later hg1)
  have HR1 := Lib.hid (HR0.out.later hg1)
  clear hg1
  go_wp2_with (refine Conf.load_win x rfl (.tmp 4) rfl (w.heap.size + 1) 0 rfl HB1'.out ?_)
  refine (KW.out _).mono ?_
  rintro e w2 ⟨rfl, hg2⟩
  have HG2 := Lib.hid (gtrans HG1.out hg2)
  have HL2 := Lib.hid (HL1.out.grown hg2)
  have HA2 := Lib.hid (HA1.out.later hg2)
  have HB2 := Lib.hid (HB1.out.later hg2)
  have HR2 := Lib.hid (HR1.out.later hg2)
  clear hg2
  go_wp2_with fail
  refine (KA.out _).mono ?_
  rintro e w3 ⟨rfl, rfl⟩
  have HB2' : Hid (w2.rangeAt (w.heap.size + 1) 0 (wc x)) := Lib.hid (fun j y hy => by rw [Nat.zero_add]; exact HB2.out j y (by simpa [wc] using hy))
  go_wp2_with (first | (refine load_at D HZ.out rfl (.tmp 3) rfl w.heap.size rfl HA2.out ?_) | (refine Conf.load_win x rfl (.tmp 4) rfl (w.heap.size + 1) 0 rfl HB2'.out ?_))
  refine (KK.out _ HG2.out).mono ?_
  rintro e w4 ⟨rfl, hg4⟩
  have HG4 := Lib.hid (gtrans HG2.out hg4)
  have HL4 := Lib.hid (HL2.out.grown hg4)
  have HB4 := Lib.hid (HB2.out.later hg4)
  have HR4 := Lib.hid (HR2.out.later hg4)
  clear hg4
  go_wp2_with fail
  refine (KB.out _).mono ?_
  rintro e w5 ⟨rfl, hg5⟩
  have HG5 := Lib.hid (gtrans HG4.out hg5)
  have HL5 := Lib.hid (HL4.out.grown hg5)
  have HB5 := Lib.hid (HB4.out.later hg5)
  have HR5 := Lib.hid (HR4.out.later hg5)
  clear hg5
  go_wp2_with fail
  rw [HX.out]
  rotate_left 1
  · kernel_rfl
  refine (KE.out _ HL5.out).mono ?_
  rintro e w6 ⟨rfl, hg6⟩
  have HG6 := Lib.hid (gtrans HG5.out hg6)
  have HB6 := Lib.hid (HB5.out.later hg6)
  have HR6 := Lib.hid (HR5.out.later hg6)
  have q1 := HB6.out 1 _ rfl
  have q2 := HB6.out 2 _ rfl
  clear hg6
  have r0 := (HR6.out).cell 0 _ rfl
  have f0 := (HR6.out).froz 0
  have r1 := (HR6.out).cell 1 _ rfl
  have f1 := (HR6.out).froz 1
  have r2 := (HR6.out).cell 2 _ rfl
  have f2 := (HR6.out).froz 2
  have r3 := (HR6.out).cell 3 _ rfl
  have f3 := (HR6.out).froz 3
  go_wp2_with fail
  refine bodyPost_ret (results_rtt (P := Tryz.prog) (fn := Tryz.f11) Tryz.results11 _ _ (w.heap.size + 1 + 1) 39 _ _ _ _ rfl rfl rfl (RA.set4 (HR6.out) _ _ _ _) Tryz.underlying39 rfl (by kernel_rfl)) rfl ⟨rfl, ?_⟩
  exact later_set4 (HG6.out) (by omega) _ _ _ _

theorem span_festive_yes (D : Array Value) (c : Cg) (x : Wn) (d : Int) (w : World) (hL : Laid w) (hc : Is w D c) (h : ce c = 0) (h2 : wo x = true) (d0 : 402 ≤ d) (d1 : d ≤ 3651990) (hk : x.k = 3) (hb : beg c x d = true) : Calls Tryz.prog 11 #[.agg D, .agg (wc x).toArray, .int .i64 d] w fun e w' => e = .returned (.tuple #[.agg (sc4 (fr c x d) (tt c x d) x.m x.p), .bool true, .int .i64 0]) ∧ Later w w' := by
  have e0 : (ce c != 0) = false := by simpa using h
  have KW := Lib.hid (fun W => Conf.window_any x W)
  rw [show Cf.we x = 0 from (Cf.we_ok x).2 h2] at KW
  have KA := Lib.hid (fun W => asked_any d W)
  rw [(wiB_iff d 402 3651990).2 ⟨d0, d1⟩] at KA
  have hw := (Conf.wo_iff x).1 h2
  obtain ⟨hz, hs⟩ := ce_parts c h
  have KK := Lib.hid (fun W (g : Later w W) => kind_festive_of (hc.later g) x hk)
  have KB := Lib.hid (fun W => festive_begins c.z x.u x.l x.a x.h d c.ab W (by omega) (by omega) (by omega) (by omega))
  rw [show (kd c.ab (d - x.h) == x.a) = beg c x d by unfold beg; rw [hk]; simp, hb] at KB
  have ht : 0 ≤ x.u ∧ x.u ≤ 1439 ∧ 1 ≤ x.l ∧ x.l ≤ 10080 := (Conf.tmB_iff x).1 (by rcases hw with ⟨_, h | h | h | h⟩ <;> first | exact h.2.1 | (exfalso; omega))
  have KE := Lib.hid (fun W hW => hours_ends c.z x.u x.l d W hW hz d0 d1 (by omega) (by omega) (by omega) (by omega))
  rw [show mv c.z (d * 1440 + x.u) = fr c x d by unfold fr; rw [if_neg (by omega)], show fr c x d + x.l = tt c x d by unfold fr tt; rw [if_neg (by omega), if_neg (by omega)]] at KE
  clear ht
  have KC := Lib.hid (fun W (g : Later w W) => Conf.check_of (hc.later g))
  have HZ := Lib.hid hc.size
  have HG0 := Lib.hid ((((Later.refl w).alloc D 33).alloc (wc x).toArray 35).alloc (sc4 0 0 0 0) 39)
  have HL0 := Lib.hid (hL.grown HG0.out)
  have HA0 := Lib.hid (((At.new w D 33).put (.cells (wc x).toArray 35)).put (.cells (sc4 0 0 0 0) 39))
  have HB0 := Lib.hid ((At.new (w.alloc (.cells D 33)) (wc x).toArray 35).put (.cells (sc4 0 0 0 0) 39))
  have HR0 := Lib.hid (RA.new ((w.alloc (.cells D 33)).alloc (.cells (wc x).toArray 35)) (sc4 0 0 0 0) 39)
  simp only [World.size_alloc] at HB0 HR0
  clear hL hc h h2 hz hs hw d0 d1 hb hk
  generalize ce c = k at *
  generalize fr c x d = F at *
  generalize tt c x d = T at *
  obtain ⟨KV, hKV⟩ : ∃ KV, KV = fk c.z x.u x.l x.a x.h c.ab := ⟨_, rfl⟩
  rw [← hKV] at KK KB
  have HX : Hid (∀ n, n = 12 → KV.extract 0 n = hk c.z x.u x.l) := Lib.hid (fun n hn => by rw [hn, hKV]; rfl)
  clear hKV
  unfold wc sc4 at *
  go_enter Tryz.func11, Tryz.ntmps11
  go_wp2_with (refine load_at D HZ.out rfl (.tmp 3) rfl w.heap.size rfl HA0.out ?_)
  refine (KC.out _ HG0.out).mono ?_
  rintro e w1 ⟨rfl, hg1⟩
  have HG1 := Lib.hid (gtrans HG0.out hg1)
  have HB1' : Hid (w1.rangeAt (w.heap.size + 1) 0 (wc x)) := Lib.hid (fun j y hy => by rw [Nat.zero_add]; exact HB0.out.later hg1 j y (by simpa [wc] using hy))
  have HL1 := Lib.hid (HL0.out.grown hg1)
  have HA1 := Lib.hid (HA0.out.later hg1)
  have HB1 := Lib.hid (HB0.out.later hg1)
  have HR1 := Lib.hid (HR0.out.later hg1)
  clear hg1
  go_wp2_with (refine Conf.load_win x rfl (.tmp 4) rfl (w.heap.size + 1) 0 rfl HB1'.out ?_)
  refine (KW.out _).mono ?_
  rintro e w2 ⟨rfl, hg2⟩
  have HG2 := Lib.hid (gtrans HG1.out hg2)
  have HL2 := Lib.hid (HL1.out.grown hg2)
  have HA2 := Lib.hid (HA1.out.later hg2)
  have HB2 := Lib.hid (HB1.out.later hg2)
  have HR2 := Lib.hid (HR1.out.later hg2)
  clear hg2
  go_wp2_with fail
  refine (KA.out _).mono ?_
  rintro e w3 ⟨rfl, rfl⟩
  have HB2' : Hid (w2.rangeAt (w.heap.size + 1) 0 (wc x)) := Lib.hid (fun j y hy => by rw [Nat.zero_add]; exact HB2.out j y (by simpa [wc] using hy))
  go_wp2_with (first | (refine load_at D HZ.out rfl (.tmp 3) rfl w.heap.size rfl HA2.out ?_) | (refine Conf.load_win x rfl (.tmp 4) rfl (w.heap.size + 1) 0 rfl HB2'.out ?_))
  refine (KK.out _ HG2.out).mono ?_
  rintro e w4 ⟨rfl, hg4⟩
  have HG4 := Lib.hid (gtrans HG2.out hg4)
  have HL4 := Lib.hid (HL2.out.grown hg4)
  have HB4 := Lib.hid (HB2.out.later hg4)
  have HR4 := Lib.hid (HR2.out.later hg4)
  clear hg4
  go_wp2_with fail
  refine (KB.out _).mono ?_
  rintro e w5 ⟨rfl, hg5⟩
  have HG5 := Lib.hid (gtrans HG4.out hg5)
  have HL5 := Lib.hid (HL4.out.grown hg5)
  have HB5 := Lib.hid (HB4.out.later hg5)
  have HR5 := Lib.hid (HR4.out.later hg5)
  clear hg5
  go_wp2_with fail
  rw [HX.out]
  rotate_left 1
  · kernel_rfl
  refine (KE.out _ HL5.out).mono ?_
  rintro e w6 ⟨rfl, hg6⟩
  have HG6 := Lib.hid (gtrans HG5.out hg6)
  have HB6 := Lib.hid (HB5.out.later hg6)
  have HR6 := Lib.hid (HR5.out.later hg6)
  have q1 := HB6.out 1 _ rfl
  have q2 := HB6.out 2 _ rfl
  clear hg6
  have r0 := (HR6.out).cell 0 _ rfl
  have f0 := (HR6.out).froz 0
  have r1 := (HR6.out).cell 1 _ rfl
  have f1 := (HR6.out).froz 1
  have r2 := (HR6.out).cell 2 _ rfl
  have f2 := (HR6.out).froz 2
  have r3 := (HR6.out).cell 3 _ rfl
  have f3 := (HR6.out).froz 3
  go_wp2_with fail
  refine bodyPost_ret (results_rtt (P := Tryz.prog) (fn := Tryz.f11) Tryz.results11 _ _ (w.heap.size + 1 + 1) 39 _ _ _ _ rfl rfl rfl (RA.set4 (HR6.out) _ _ _ _) Tryz.underlying39 rfl (by kernel_rfl)) rfl ⟨rfl, ?_⟩
  exact later_set4 (HG6.out) (by omega) _ _ _ _

theorem span_restful_yes (D : Array Value) (c : Cg) (x : Wn) (d : Int) (w : World) (hL : Laid w) (hc : Is w D c) (h : ce c = 0) (h2 : wo x = true) (d0 : 402 ≤ d) (d1 : d ≤ 3651990) (hk : x.k = 4) (hb : beg c x d = true) : Calls Tryz.prog 11 #[.agg D, .agg (wc x).toArray, .int .i64 d] w fun e w' => e = .returned (.tuple #[.agg (sc4 (fr c x d) (tt c x d) x.m x.p), .bool true, .int .i64 0]) ∧ Later w w' := by
  have e0 : (ce c != 0) = false := by simpa using h
  have KW := Lib.hid (fun W => Conf.window_any x W)
  rw [show Cf.we x = 0 from (Cf.we_ok x).2 h2] at KW
  have KA := Lib.hid (fun W => asked_any d W)
  rw [(wiB_iff d 402 3651990).2 ⟨d0, d1⟩] at KA
  have hw := (Conf.wo_iff x).1 h2
  obtain ⟨hz, hs⟩ := ce_parts c h
  have KK := Lib.hid (fun W (g : Later w W) => kind_restful_of (hc.later g) x hk)
  have KB := Lib.hid (fun W => restful_begins c.z c.s c.ab x.u x.l d W (by omega) (by omega))
  rw [show (!rst c.ab d && rst c.ab (d + 1)) = beg c x d by unfold beg; rw [hk]; simp, hb] at KB
  have hr : rst c.ab d = false ∧ rst c.ab (d + 1) = true := by
    rw [beg_rest c x d hk] at hb
    simpa using hb
  have hrow := rl_row c.ab (d + 1) hr.2 (by rw [show d + 1 - 1 = d by omega]; exact hr.1)
  have hrb := rl_bd c.ab (d + 1)
  have KE := Lib.hid (fun W hW => restful_ends c.z c.s c.ab x.u x.l d (rl c.ab (d + 1)) W hW hz hs d0 d1 hrow (by omega) (by omega) (by omega) (by omega) (by omega))
  rw [show d * 1440 + Su.sa c.s d - c.z.b - x.u = fr c x d by unfold fr; rw [if_pos hk], show rl c.ab (d + 1) * 1440 + Su.sa c.s (rl c.ab (d + 1)) - c.z.b + x.l = tt c x d by unfold tt; rw [if_pos hk]] at KE
  clear hr hrow hrb
  have KC := Lib.hid (fun W (g : Later w W) => Conf.check_of (hc.later g))
  have HZ := Lib.hid hc.size
  have HG0 := Lib.hid ((((Later.refl w).alloc D 33).alloc (wc x).toArray 35).alloc (sc4 0 0 0 0) 39)
  have HL0 := Lib.hid (hL.grown HG0.out)
  have HA0 := Lib.hid (((At.new w D 33).put (.cells (wc x).toArray 35)).put (.cells (sc4 0 0 0 0) 39))
  have HB0 := Lib.hid ((At.new (w.alloc (.cells D 33)) (wc x).toArray 35).put (.cells (sc4 0 0 0 0) 39))
  have HR0 := Lib.hid (RA.new ((w.alloc (.cells D 33)).alloc (.cells (wc x).toArray 35)) (sc4 0 0 0 0) 39)
  simp only [World.size_alloc] at HB0 HR0
  clear hL hc h h2 hz hs hw d0 d1 hb hk
  generalize ce c = k at *
  generalize fr c x d = F at *
  generalize tt c x d = T at *
  obtain ⟨KV, hKV⟩ : ∃ KV, KV = rk c.z c.s c.ab x.u x.l := ⟨_, rfl⟩
  rw [← hKV] at KK KB KE
  clear hKV
  unfold wc sc4 at *
  go_enter Tryz.func11, Tryz.ntmps11
  go_wp2_with (refine load_at D HZ.out rfl (.tmp 3) rfl w.heap.size rfl HA0.out ?_)
  refine (KC.out _ HG0.out).mono ?_
  rintro e w1 ⟨rfl, hg1⟩
  have HG1 := Lib.hid (gtrans HG0.out hg1)
  have HB1' : Hid (w1.rangeAt (w.heap.size + 1) 0 (wc x)) := Lib.hid (fun j y hy => by rw [Nat.zero_add]; exact HB0.out.later hg1 j y (by simpa [wc] using hy))
  have HL1 := Lib.hid (HL0.out.grown hg1)
  have HA1 := Lib.hid (HA0.out.later hg1)
  have HB1 := Lib.hid (HB0.out.later hg1)
  have HR1 := Lib.hid (HR0.out.later hg1)
  clear hg1
  go_wp2_with (refine Conf.load_win x rfl (.tmp 4) rfl (w.heap.size + 1) 0 rfl HB1'.out ?_)
  refine (KW.out _).mono ?_
  rintro e w2 ⟨rfl, hg2⟩
  have HG2 := Lib.hid (gtrans HG1.out hg2)
  have HL2 := Lib.hid (HL1.out.grown hg2)
  have HA2 := Lib.hid (HA1.out.later hg2)
  have HB2 := Lib.hid (HB1.out.later hg2)
  have HR2 := Lib.hid (HR1.out.later hg2)
  clear hg2
  go_wp2_with fail
  refine (KA.out _).mono ?_
  rintro e w3 ⟨rfl, rfl⟩
  have HB2' : Hid (w2.rangeAt (w.heap.size + 1) 0 (wc x)) := Lib.hid (fun j y hy => by rw [Nat.zero_add]; exact HB2.out j y (by simpa [wc] using hy))
  go_wp2_with (first | (refine load_at D HZ.out rfl (.tmp 3) rfl w.heap.size rfl HA2.out ?_) | (refine Conf.load_win x rfl (.tmp 4) rfl (w.heap.size + 1) 0 rfl HB2'.out ?_))
  refine (KK.out _ HG2.out).mono ?_
  rintro e w4 ⟨rfl, hg4⟩
  have HG4 := Lib.hid (gtrans HG2.out hg4)
  have HL4 := Lib.hid (HL2.out.grown hg4)
  have HB4 := Lib.hid (HB2.out.later hg4)
  have HR4 := Lib.hid (HR2.out.later hg4)
  clear hg4
  go_wp2_with fail
  refine (KB.out _).mono ?_
  rintro e w5 ⟨rfl, hg5⟩
  have HG5 := Lib.hid (gtrans HG4.out hg5)
  have HL5 := Lib.hid (HL4.out.grown hg5)
  have HB5 := Lib.hid (HB4.out.later hg5)
  have HR5 := Lib.hid (HR4.out.later hg5)
  clear hg5
  go_wp2_with fail
  refine (KE.out _ HL5.out).mono ?_
  rintro e w6 ⟨rfl, hg6⟩
  have HG6 := Lib.hid (gtrans HG5.out hg6)
  have HB6 := Lib.hid (HB5.out.later hg6)
  have HR6 := Lib.hid (HR5.out.later hg6)
  have q1 := HB6.out 1 _ rfl
  have q2 := HB6.out 2 _ rfl
  clear hg6
  have r0 := (HR6.out).cell 0 _ rfl
  have f0 := (HR6.out).froz 0
  have r1 := (HR6.out).cell 1 _ rfl
  have f1 := (HR6.out).froz 1
  have r2 := (HR6.out).cell 2 _ rfl
  have f2 := (HR6.out).froz 2
  have r3 := (HR6.out).cell 3 _ rfl
  have f3 := (HR6.out).froz 3
  go_wp2_with fail
  refine bodyPost_ret (results_rtt (P := Tryz.prog) (fn := Tryz.f11) Tryz.results11 _ _ (w.heap.size + 1 + 1) 39 _ _ _ _ rfl rfl rfl (RA.set4 (HR6.out) _ _ _ _) Tryz.underlying39 rfl (by kernel_rfl)) rfl ⟨rfl, ?_⟩
  exact later_set4 (HG6.out) (by omega) _ _ _ _

theorem kinds4 (x : Wn) (h : wo x = true) : x.k = 1 ∨ x.k = 2 ∨ x.k = 3 ∨ x.k = 4 := by
  have := (Conf.wo_iff x).1 h
  omega

/-- The span of a window's day. -/
theorem span_any (D : Array Value) (c : Cg) (x : Wn) (d : Int) (w : World) (hL : Laid w) (hc : Is w D c) : Calls Tryz.prog 11 #[.agg D, .agg (wc x).toArray, .int .i64 d] w fun e w' =>
    e = .returned (.tuple #[.agg (sc4 (pF c x d) (pT c x d) (pM c x d) (pP c x d)), .bool (pB c x d), .int .i64 (pE c x d)]) ∧ Later w w' := by
  by_cases h : ce c = 0
  · cases h2 : wo x
    · have e : pE c x d = 104 := by unfold pE; rw [if_pos h, h2]; simp
      have b : pB c x d = false := by unfold pB; rw [e]; rfl
      unfold pF pT pM pP
      rw [b, e]
      exact span_win D c x d w hL hc h h2
    · by_cases hd : 402 ≤ d ∧ d ≤ 3651990
      · have e : pE c x d = 0 := (pE_ok c x d).2 ⟨h, h2, hd.1, hd.2⟩
        cases hb : beg c x d
        · have b : pB c x d = false := by unfold pB; rw [e, hb]; rfl
          unfold pF pT pM pP
          rw [b, e]
          rcases kinds4 x h2 with k | k | k | k
          · exact span_weekly_no D c x d w hL hc h h2 hd.1 hd.2 k hb
          · exact span_dated_no D c x d w hL hc h h2 hd.1 hd.2 k hb
          · exact span_festive_no D c x d w hL hc h h2 hd.1 hd.2 k hb
          · exact span_restful_no D c x d w hL hc h h2 hd.1 hd.2 k hb
        · have b : pB c x d = true := by unfold pB; rw [e, hb]; rfl
          unfold pF pT pM pP
          rw [b, e]
          simp only [if_true]
          rcases kinds4 x h2 with k | k | k | k
          · exact span_weekly_yes D c x d w hL hc h h2 hd.1 hd.2 k hb
          · exact span_dated_yes D c x d w hL hc h h2 hd.1 hd.2 k hb
          · exact span_festive_yes D c x d w hL hc h h2 hd.1 hd.2 k hb
          · exact span_restful_yes D c x d w hL hc h h2 hd.1 hd.2 k hb
      · have e : pE c x d = 140 := by unfold pE; rw [if_pos h, h2]; simp; omega
        have b : pB c x d = false := by unfold pB; rw [e]; rfl
        unfold pF pT pM pP
        rw [b, e]
        exact span_day D c x d w hL hc h h2 hd
  · have e : pE c x d = ce c := by unfold pE; rw [if_neg h]
    have b : pB c x d = false := by unfold pB; rw [e]; simp [h]
    unfold pF pT pM pP
    rw [b, e]
    exact span_cfg D c x d w hL hc h

end Go.Proofs.YtmlnlkfdbbnkbaaGreatDoor.Window

/- A window that is appended to a row of its own, and what is kept by that. Conditions: as each theorem states. -/
namespace Go.Proofs.YtmlnlkfdbbnkbaaGreatDoor.Conf
set_option maxRecDepth 100000
set_option maxRecDepth 100000
open Go.ChangeShapes Go.WideShapes Go.ChangeAt Go.RowKit
open Go.Proofs.YtmlnlkfdbbnkbaaGreatDoor.Divs Go.Proofs.YtmlnlkfdbbnkbaaGreatDoor.Grow Go.Proofs.YtmlnlkfdbbnkbaaGreatDoor.Zone
open Go.Proofs.YtmlnlkfdbbnkbaaGreatDoor.By (Sk SL bool_no bool_yes)
open Go.Proofs.YtmlnlkfdbbnkbaaGreatDoor.Each
open Go.Proofs.YtmlnlkfdbbnkbaaGreatDoor.Zo Go.Proofs.YtmlnlkfdbbnkbaaGreatDoor.Su Go.Proofs.YtmlnlkfdbbnkbaaGreatDoor.Cf

theorem grown_same (w : World) (r : Option Nat) : w.grownBy w r := ⟨rfl, rfl, rfl, Nat.le_refl _, fun _ _ _ => rfl⟩

theorem append_wins_g {w : World} {ops : Array Oper} {rest : List Oper} {o : Oper} {a : Act} {Q : Exit → Act → World → Prop} (hgd : o.guard = none) (s x : Operand)
    (ho : o.op = .call { callee := .builtin .append, args := #[s, x], argTypes := #[31, 31] })
    (B : Nat) (hB : B ≤ w.heap.size) (v : Value) (xs : List Wn) (hs : a.eval s = v) (hown : WL w B v xs)
    (u : Value) (ys : List Wn) (hx : a.eval x = u) (hy : Wk w u ys) (hb : xs.length + ys.length ≤ 100000)
    (h : ∀ v' w', WL w' B v' (xs ++ ys) → w.grownBy w' v.ownBlock → wpList Tryz.prog ops Q rest (a.put o.dst v') w') : wpList Tryz.prog ops Q (o :: rest) a w := by
  obtain ⟨i0, hi, hz0, hz1, hz2⟩ := info_parts info_win
  rcases hy.src with ⟨rfl, rfl⟩ | ⟨ad, cap, rfl, hc⟩
  · refine wpList_append_own_none hgd s x 31 ho B 35 i0 7 Tryz.underlying31 hi v _ _ hs hown hx ?_
    exact h v w (by rw [List.append_nil]; exact hown) (grown_same _ _)
  · refine wpList_append_own w hgd s x 31 ho B 35 i0 _ 7 56 Tryz.underlying31 hi hz0 hz1 hz2 rfl (by decide) v _ _ hs hown ad ys.length cap (fl ys) hx (fl_len ys) hc (fl_cell ys) (by simp only [maxLen]; omega) (by omega) hB ?_
    intro v' w' h1 h2 _
    refine h v' w' ?_ h2
    unfold WL
    rw [List.length_append, fl_app]
    exact h1

theorem own_row {W : World} {b : Nat} {e : TypeId} {n m : Nat} {v : Value} {xs : List Value} (h : W.ownsRow b e n v m xs) {g : Nat} (hv : v.ownBlock = some g) : ∃ cur, Row g e cur W := by
  rcases h.2 with ⟨rfl, _⟩ | ⟨g', cap, cur, rfl, h1, h2, h3⟩
  · simp [Value.ownBlock] at hv
  · simp only [Value.ownBlock, Option.some.injEq] at hv
    subst hv
    exact ⟨cur, h2⟩

theorem row_apart {W : World} {g : Nat} {t t' : TypeId} {cs cs' : Array Value} (h : Row g t cs W) (h' : Row g t' cs' W) : t = t' := by
  unfold Row at h h'
  rw [h] at h'
  simp only [Option.some.injEq, Obj.cells.injEq] at h'
  exact h'.2.1

theorem own_apart {W : World} {b : Nat} {e : TypeId} {n m : Nat} {v : Value} {xs : List Value} (h : W.ownsRow b e n v m xs) {g : Nat} {t : TypeId} {cs : Array Value} (hR : Row g t cs W) (ht : t ≠ e) : some g ≠ v.ownBlock := by
  intro hv
  obtain ⟨cur, hr⟩ := own_row h hv.symm
  exact ht (row_apart hR hr)

theorem Row.grown {B : Nat} {t : TypeId} {cs : Array Value} {W W' : World} {r : Option Nat} (h : Row B t cs W) (g : W.grownBy W' r) (hn : some B ≠ r) : Row B t cs W' := (g.block B h.lt hn).trans h

theorem owns_grown {W W' : World} {b : Nat} {e : TypeId} {n m : Nat} {v : Value} {xs : List Value} {r : Option Nat} (h : W.ownsRow b e n v m xs) (g : W.grownBy W' r) (hn : ∀ k, v.ownBlock = some k → some k ≠ r) : W'.ownsRow b e n v m xs := by
  refine ⟨h.1, ?_⟩
  rcases h.2 with h | ⟨g', cap, cur, rfl, h1, h2, h3⟩
  · exact .inl h
  · exact .inr ⟨g', cap, cur, rfl, h1, Row.grown h2 g (hn g' rfl), h3⟩

theorem owns_set' {W : World} {b : Nat} {e : TypeId} {n m : Nat} {v : Value} {xs : List Value} (h : W.ownsRow b e n v m xs) {A : Nat} (hn : some A ≠ v.ownBlock) (i : Nat) (y : Value) : (W.setCell ⟨A, i, none⟩ y).ownsRow b e n v m xs := by
  refine ⟨h.1, ?_⟩
  rcases h.2 with h | ⟨g', cap, cur, rfl, h1, h2, h3⟩
  · exact .inl h
  · refine .inr ⟨g', cap, cur, rfl, h1, ?_, h3⟩
    rw [heap_set_other _ _ _ _ _ (fun e => hn (by rw [← e]; rfl))]
    exact h2

theorem wk_new (W : World) (x : Wn) (g : Nat) (hg : g = W.heap.size) : Wk (W.alloc (.cells (wc x).toArray 35)) (.slice (some ⟨g, 0, none⟩) 1 1) [x] := by
  refine ⟨_, 1, rfl, by simp, by decide, by simp, fun i y hy => ⟨_, 0, rfl, ?_⟩⟩
  rw [Nat.zero_add]
  rw [fl_one] at hy
  exact (row_new' _ _ _ _ hg).cell i (by simpa using hy)

theorem cc_wins (c : Cg) (u v v' : Value) (l : List Wn) : (cc c u v).setIfInBounds 36 v' = cc (cw c l) u v' := by simp [cc, cw]

theorem cc_stops (c : Cg) (u v u' : Value) (l : List Int) : (cc c u v).setIfInBounds 3 u' = cc (ct c l) u' v := by simp [cc, ct]

/-- A configuration's windows are appended to, and it is given the row. -/
theorem append_done {w0 W w6 : World} {B gD : Nat} {F : Array Value} {c : Cg} {u v v' : Value} {xs l : List Wn} (hF : F = cc c u v) (hs : SL .i64 3 W B u c.st) (hw : WL W B v xs) (hR : Row gD 33 F W) (hL : Later w0 W) (hB : B = w0.heap.size) (hD : B ≤ gD) (hv : WL w6 B v' l) (hg : W.grownBy w6 v.ownBlock) :
    Row gD 33 F w6 ∧ Row gD 33 (F.setIfInBounds 36 v') (w6.setCell ⟨gD, 36, none⟩ v') ∧ Own (w6.setCell ⟨gD, 36, none⟩ v') B (F.setIfInBounds 36 v') (cw c l) ∧ Later w0 (w6.setCell ⟨gD, 36, none⟩ v') := by
  have hR6 : Row gD 33 F w6 := hR.grown hg (own_apart hw hR (by decide))
  have hs6 : SL .i64 3 w6 B u c.st := owns_grown hs hg (fun k hk => by
    obtain ⟨cur, hr⟩ := own_row hs hk
    exact own_apart hw hr (by decide))
  subst hB
  refine ⟨hR6, hR6.set 36 v', ⟨u, v', by rw [hF]; exact cc_wins c u v v' l, ?_, ?_⟩, (win_grown hL hw hg).setCell hD _⟩
  · exact owns_set' hs6 (own_apart hs6 hR6 (by decide)) _ _
  · exact owns_set' hv (own_apart hv hR6 (by decide)) _ _

end Go.Proofs.YtmlnlkfdbbnkbaaGreatDoor.Conf

/- A region that draws its order, in which one operation makes a block and another one stores into it, whenever each of them comes up: what all others yield is told operation by operation, as in Ea. No condition but those that each theorem states. -/
namespace Go.Proofs.YtmlnlkfdbbnkbaaGreatDoor.Eachn
set_option maxRecDepth 100000
set_option maxRecDepth 100000
open Go.ChangeShapes Go.WideShapes Go.ChangeAt Go.RowKit
open Go.Proofs.YtmlnlkfdbbnkbaaGreatDoor.Divs Go.Proofs.YtmlnlkfdbbnkbaaGreatDoor.Grow
open Go.Proofs.YtmlnlkfdbbnkbaaGreatDoor.Window (RA)

/-- What the block holds: whatever. -/
def Nb (_ : Array Value) : Prop := True

/-- The worlds differ in a block's cells alone. -/
def Out (g : Nat) (W W' : World) : Prop := ∃ o vs, W' = W.setCells g o vs

/-- No two operations write one slot, each slot is there, and each operation waits for earlier ones alone. -/
def fitC (ops : Array Oper) (n : Nat) : Bool :=
  (List.range ops.size).all fun i => match ops[i]? with
    | none => true
    | some o => o.after.all (fun e => !(Region.binds .any e) || decide (e.on < i)) && (match o.dst with
      | none => true
      | some s => decide (s < n) && (List.range ops.size).all fun j => decide (j = i) || (match ops[j]? with
        | none => true
        | some q => !(q.dst == some s)))

theorem fitC_low {ops : Array Oper} {n : Nat} (h : fitC ops n = true) {i : Nat} {o : Oper} (ho : ops[i]? = some o) {e : Edge} (he : e ∈ o.after) (hb : Region.binds .any e = true) : e.on < i := by
  have hi : i < ops.size := (Array.getElem?_eq_some_iff.1 ho).1
  have := List.all_eq_true.1 h i (List.mem_range.2 hi)
  rw [ho] at this
  simp only [Bool.and_eq_true] at this
  have := Array.all_eq_true_iff_forall_mem.1 this.1 e he
  simpa [hb] using this

theorem fitC_dst {ops : Array Oper} {n : Nat} (h : fitC ops n = true) {i j : Nat} {o q : Oper} {s : Tmp} (ho : ops[i]? = some o) (hq : ops[j]? = some q) (hs : o.dst = some s) (ht : q.dst = some s) : j = i := by
  have hi : i < ops.size := (Array.getElem?_eq_some_iff.1 ho).1
  have hj : j < ops.size := (Array.getElem?_eq_some_iff.1 hq).1
  have := List.all_eq_true.1 h i (List.mem_range.2 hi)
  rw [ho] at this
  simp only [Bool.and_eq_true, hs] at this
  have := List.all_eq_true.1 this.2.2 j (List.mem_range.2 hj)
  rw [hq] at this
  simpa [ht] using this

theorem fitC_in {ops : Array Oper} {n : Nat} (h : fitC ops n = true) {i : Nat} {o : Oper} {s : Tmp} (ho : ops[i]? = some o) (hs : o.dst = some s) : s < n := by
  have hi : i < ops.size := (Array.getElem?_eq_some_iff.1 ho).1
  have := List.all_eq_true.1 h i (List.mem_range.2 hi)
  rw [ho] at this
  simp only [Bool.and_eq_true, hs] at this
  simpa using this.2.1

/-- Where nothing is ready, all has come up. -/
theorem all_upC {ops : Array Oper} {n : Nat} (hf : fitC ops n = true) {listed : Array Bool} (hz : listed.size = ops.size) (h : Region.ready .any ops listed = []) : ∀ i, i < ops.size → listed.getD i false = true := by
  intro i
  induction i using Nat.strongRecOn with
  | _ i ih =>
    intro hi
    cases hb : listed.getD i false with
    | true => rfl
    | false =>
      exfalso
      have hm : i ∈ Region.ready .any ops listed := by
        rw [mem_ready]
        refine ⟨?_, ops[i], by simp [hi], fun e he hbd => ?_⟩
        · have hj : i < listed.size := by omega
          simp [hj] at hb ⊢
          exact hb
        · have := fitC_low hf (i := i) (o := ops[i]) (by simp [hi]) he hbd
          exact ih e.on this (by omega)
      rw [h] at hm
      cases hm

/-- The look at one operation that neither makes the block nor stores into it. -/
def StepB (P : Program) (ops : Array Oper) (Q : Exit → Act → World → Prop) (V : Nat → Value → World → Prop) (a0 : Act) (w0 : World) (m s i : Nat) : Prop :=
  ∀ o, ops[i]? = some o → ∀ (a : Act) (w : World), Later w0 w → (∀ d, (∀ (j : Nat) (q : Oper), ops[j]? = some q → q.dst ≠ some d) → a.tmps[d]? = a0.tmps[d]?) →
    (∀ j ∈ (o.after.toList.filter (Region.binds .any)).map (·.on), j ≠ m → j ≠ s → ∀ (q : Oper) (d : Tmp), ops[j]? = some q → q.dst = some d → ∃ v, a.tmps[d]? = some v ∧ V j v w) →
    if Region.wanted o (yielded ops a.tmps) = true then Oper.wp P o a w (fun a' w' => ∃ v, a' = a.put o.dst v ∧ V i v w' ∧ Later w w') Q else V i undef w

/-- The block: made, and what it holds. -/
def Box (Z : Array Value) (t : TypeId) (B : Array Value → World → Prop) (d : Tmp) (w0 : World) (stored : Bool) (a : Act) (w : World) : Prop :=
  ∃ g cs, a.tmps[d]? = some (.pointer (some ⟨g, 0, none⟩)) ∧ w0.heap.size ≤ g ∧ RA w g cs t ∧ Nb cs ∧ (stored = false → cs = Z) ∧ (stored = true → B cs w)

structure UpB (ops : Array Oper) (V : Nat → Value → World → Prop) (Z : Array Value) (t : TypeId) (B : Array Value → World → Prop) (m s : Nat) (d : Tmp) (a0 : Act) (w0 : World) (listed : Array Bool) (a : Act) (w : World) : Prop where
  late : Later w0 w
  defers : a.defers = a0.defers
  size : a.tmps.size = a0.tmps.size
  old : ∀ c, (∀ i o, ops[i]? = some o → o.dst = some c → listed.getD i false = false) → a.tmps[c]? = a0.tmps[c]?
  come : ∀ i o c, i ≠ m → i ≠ s → ops[i]? = some o → listed.getD i false = true → o.dst = some c → ∃ v, a.tmps[c]? = some v ∧ V i v w
  box : listed.getD m false = true → Box Z t B d w0 (listed.getD s false) a w
  made : listed.getD s false = true → listed.getD m false = true

theorem put_other {ops : Array Oper} {n : Nat} (hf : fitC ops n = true) {i j : Nat} {o q : Oper} {c : Tmp} (ho : ops[i]? = some o) (hq : ops[j]? = some q) (hc : q.dst = some c) (hji : j ≠ i) (a : Act) (v : Value) : (a.put o.dst v).tmps[c]? = a.tmps[c]? := by
  cases hd : o.dst with
  | none => rfl
  | some d =>
    have hne : d ≠ c := by
      rintro rfl
      exact hji (fitC_dst hf ho hq hd hc)
    simp only [Act.put]
    rw [Array.getElem?_setIfInBounds_ne hne]

theorem put_self {ops : Array Oper} {i : Nat} {o : Oper} {c : Tmp} {a a0 : Act} (hf : fitC ops a0.tmps.size = true) (ho : ops[i]? = some o) (hc : o.dst = some c) (hz : a.tmps.size = a0.tmps.size) (v : Value) : (a.put o.dst v).tmps[c]? = some v := by
  rw [hc]
  have := fitC_in hf ho hc
  rw [← hz] at this
  simp [Act.put, this]

theorem put_old {ops : Array Oper} {i : Nat} {o : Oper} {a a0 : Act} {listed : Array Bool} (ho : ops[i]? = some o) (hlt : i < listed.size) (h : ∀ c, (∀ i o, ops[i]? = some o → o.dst = some c → listed.getD i false = false) → a.tmps[c]? = a0.tmps[c]?) (v : Value) :
    ∀ c, (∀ j q, ops[j]? = some q → q.dst = some c → (listed.setIfInBounds i true).getD j false = false) → (a.put o.dst v).tmps[c]? = a0.tmps[c]? := by
  intro c hn
  have h1 : a.tmps[c]? = a0.tmps[c]? := h c (fun j q hq hd => by
    have := hn j q hq hd
    rw [getD_set hlt] at this
    simp at this
    simpa using this.2)
  cases hd : o.dst with
  | none => exact h1
  | some d =>
    have hne : d ≠ c := by
      rintro rfl
      have := hn i o ho hd
      rw [getD_set hlt] at this
      simp at this
    simp only [Act.put]
    rw [Array.getElem?_setIfInBounds_ne hne]
    exact h1

theorem put_frame {a a0 : Act} (o : Option Tmp) (v : Value) (h1 : a.defers = a0.defers) (h2 : a.tmps.size = a0.tmps.size) : (a.put o v).defers = a0.defers ∧ (a.put o v).tmps.size = a0.tmps.size := by
  cases o with
  | none => exact ⟨h1, h2⟩
  | some d => exact ⟨h1, by simp [Act.put, h2]⟩

theorem region_box {P : Program} {id : Nat} {Q : Exit → Act → World → Prop} {a0 : Act} {w0 : World} {ops : Array Oper} (m s : Nat) (d : Tmp) (Z : Array Value) (t : TypeId) (B : Array Value → World → Prop) (V : Nat → Value → World → Prop)
    (hm : P.follows .mixedOrders = true) (hf : fitC ops a0.tmps.size = true) (hms : m ≠ s) (hwait : Region.waitsFor .any ops s m = true)
    (hV : ∀ i v W W', V i v W → Later W W' → V i v W') (hVo : ∀ i v W W' g cs, V i v W → RA W g cs t → Nb cs → Out g W W' → V i v W') (hB : ∀ cs W W', B cs W → Later W W' → B cs W') (hZ : Nb Z)
    (hs : ∀ i, i < ops.size → i ≠ m → i ≠ s → StepB P ops Q V a0 w0 m s i)
    (hmake : ∀ o, ops[m]? = some o → o.dst = some d ∧ o.guard = none ∧ ∀ (a : Act) (w : World), Later w0 w → Oper.wp P o a w (fun a' w' => ∃ g, a' = a.put o.dst (.pointer (some ⟨g, 0, none⟩)) ∧ w0.heap.size ≤ g ∧ RA w' g Z t ∧ Later w w') Q)
    (hstore : ∀ o, ops[s]? = some o → o.dst = none ∧ o.guard = none ∧ ∀ (a : Act) (w : World) (g : Nat), Later w0 w → a.tmps[d]? = some (.pointer (some ⟨g, 0, none⟩)) → w0.heap.size ≤ g → RA w g Z t →
      (∀ j ∈ (o.after.toList.filter (Region.binds .any)).map (·.on), j ≠ m → j ≠ s → ∀ (q : Oper) (c : Tmp), ops[j]? = some q → q.dst = some c → ∃ v, a.tmps[c]? = some v ∧ V j v w) →
      Oper.wp P o a w (fun a' w' => a' = a ∧ Later w0 w' ∧ Out g w w' ∧ ∃ cs, RA w' g cs t ∧ Nb cs ∧ B cs w') Q)
    (hq : ∀ a w', Later w0 w' → a.defers = a0.defers → a.tmps.size = a0.tmps.size → (∀ c, (∀ (j : Nat) (q : Oper), ops[j]? = some q → q.dst ≠ some c) → a.tmps[c]? = a0.tmps[c]?) → (∀ (i : Nat) (o : Oper) (c : Tmp), i ≠ m → i ≠ s → ops[i]? = some o → o.dst = some c → ∃ v, a.tmps[c]? = some v ∧ V i v w') →
      (∃ g cs, a.tmps[d]? = some (.pointer (some ⟨g, 0, none⟩)) ∧ w0.heap.size ≤ g ∧ RA w' g cs t ∧ Nb cs ∧ B cs w') → Q .normal a w') (hin : m < ops.size ∧ s < ops.size) :
    (Code.region id ops true).wp P Q a0 w0 := by
  refine wp_region_any hm ?_
  obtain ⟨om, hom⟩ : ∃ om, ops[m]? = some om := ⟨_, Array.getElem?_eq_getElem hin.1⟩
  obtain ⟨os, hos⟩ : ∃ os, ops[s]? = some os := ⟨_, Array.getElem?_eq_getElem hin.2⟩
  obtain ⟨hmd, hmg, hmw⟩ := hmake om hom
  obtain ⟨hsd, hsg, hsw⟩ := hstore os hos
  refine wpAny_inv (fun fuel listed a w' => UpB ops V Z t B m s d a0 w0 listed a w' ∧ listed.size = ops.size ∧ leftN listed ≤ fuel) ?_ ?_ ?_ _ _ _ _ ?_
  · rintro fuel listed a w' ⟨u, hz, _⟩ hr
    have hall := all_upC hf hz hr
    obtain ⟨g, cs, b1, b2, b3, b4, _, b6⟩ := u.box (hall m hin.1)
    exact hq a w' u.late u.defers u.size (fun c hn => u.old c (fun i o ho hd => absurd hd (hn i o ho))) (fun i o c h1 h2 ho hd => u.come i o c h1 h2 ho (hall i (Array.getElem?_eq_some_iff.1 ho).1) hd) ⟨g, cs, b1, b2, b3, b4, b6 (hall s hin.2)⟩
  · rintro listed a w' ⟨u, hz, hl⟩
    refine List.eq_nil_iff_forall_not_mem.2 fun i hi => ?_
    have := (mem_ready.1 hi).1
    rw [left_none (by omega) i] at this
    cases this
  · rintro fuel listed a w' i ⟨u, hz, hl⟩ hi
    obtain ⟨hi0, o, ho, hdep⟩ := mem_ready.1 hi
    have hlt : i < listed.size := by
      rw [hz]
      exact (Array.getElem?_eq_some_iff.1 ho).1
    have hlf := left_set hi0
    have hi1 : listed.getD i false = false := by
      simp [hlt] at hi0 ⊢
      exact hi0
    have hdeps : ∀ j ∈ (o.after.toList.filter (Region.binds .any)).map (·.on), j ≠ m → j ≠ s → ∀ (q : Oper) (c : Tmp), ops[j]? = some q → q.dst = some c → ∃ v, a.tmps[c]? = some v ∧ V j v w' := by
      intro j hj h1 h2 q c hq hd
      obtain ⟨e, he, rfl⟩ := List.mem_map.1 hj
      obtain ⟨he1, he2⟩ := List.mem_filter.1 he
      exact u.come e.on q c h1 h2 hq (hdep e (Array.mem_toList_iff.1 he1) he2) hd
    unfold wpOp
    rw [ho]
    show if Region.wanted o (yielded ops a.tmps) = true then _ else _
    by_cases him : i = m
    · subst him
      obtain rfl : o = om := Option.some.inj (ho.symm.trans hom)
      rw [if_pos (by simp [Region.wanted, hmg])]
      refine .inl (Oper.wp_mono ?_ (hmw a w' u.late))
      rintro a' w'' ⟨g, rfl, hg, hra, hlw⟩
      obtain ⟨f1, f2⟩ := put_frame o.dst (.pointer (some ⟨g, 0, none⟩)) u.defers u.size
      have hsl : listed.getD s false = false := by
        cases hb : listed.getD s false with
        | false => rfl
        | true =>
          have := u.made hb
          rw [hi1] at this
          cases this
      refine ⟨⟨gtrans u.late hlw, f1, f2, put_old ho hlt u.old _, ?_, ?_, ?_⟩, by simp [hz], by omega⟩
      · intro j q c h1 h2 hq hl' hd
        rw [getD_set hlt] at hl'
        simp [h1] at hl'
        obtain ⟨x, hx, hx'⟩ := u.come j q c h1 h2 hq (by simpa using hl') hd
        exact ⟨x, (put_other hf ho hq hd h1 a _).trans hx, hV _ _ _ _ hx' hlw⟩
      · intro _
        refine ⟨g, Z, put_self hf ho hmd u.size _, hg, hra, hZ, fun _ => rfl, fun h => ?_⟩
        rw [getD_set hlt] at h
        simp only [Bool.or_eq_true, decide_eq_true_eq] at h
        rcases h with h | h
        · exact absurd h.symm hms
        · rw [hsl] at h
          cases h
      · intro _
        rw [getD_set hlt]
        simp
    · by_cases his : i = s
      · subst his
        obtain rfl : o = os := Option.some.inj (ho.symm.trans hos)
        have hml : listed.getD m false = true := by
          obtain ⟨oj, hoj, e, he, hb, hon⟩ := Region.waitsFor_spec hwait
          obtain rfl : oj = o := Option.some.inj (hoj.symm.trans ho)
          have := hdep e he hb
          rwa [hon] at this
        obtain ⟨g, cs, b1, b2, b3, b4, b5, _⟩ := u.box hml
        have hcs := b5 hi1
        subst hcs
        rw [if_pos (by simp [Region.wanted, hsg])]
        refine .inl (Oper.wp_mono ?_ (hsw a w' g u.late b1 b2 b3 hdeps))
        rintro a' w'' ⟨rfl, hl0, hout, cs', c1, c2, c3⟩
        refine ⟨⟨hl0, u.defers, u.size, ?_, ?_, ?_, ?_⟩, by simp [hz], by omega⟩
        · have := put_old ho hlt u.old undef
          rw [hsd] at this
          exact this
        · intro j q c h1 h2 hq hl' hd
          rw [getD_set hlt] at hl'
          simp [h2] at hl'
          obtain ⟨x, hx, hx'⟩ := u.come j q c h1 h2 hq (by simpa using hl') hd
          exact ⟨x, hx, hVo _ _ _ _ _ _ hx' b3 b4 hout⟩
        · intro _
          refine ⟨g, cs', b1, b2, c1, c2, fun h => ?_, fun _ => c3⟩
          rw [getD_set hlt] at h
          simp at h
        · intro _
          rw [getD_set hlt]
          simp [hml]
      · have hst := (show StepB P ops Q V a0 w0 m s i from hs i (by omega) him his) o ho a w' u.late (fun c hn => u.old c (fun j q hq hd => absurd hd (hn j q hq))) hdeps
        have key : ∀ v w'', V i v w'' → Later w' w'' → UpB ops V Z t B m s d a0 w0 (listed.setIfInBounds i true) (a.put o.dst v) w'' := by
          intro v w'' hv hg
          obtain ⟨f1, f2⟩ := put_frame o.dst v u.defers u.size
          have gm : (listed.setIfInBounds i true).getD m false = listed.getD m false := by rw [getD_set hlt]; simp [Ne.symm him]
          have gs : (listed.setIfInBounds i true).getD s false = listed.getD s false := by rw [getD_set hlt]; simp [Ne.symm his]
          refine ⟨gtrans u.late hg, f1, f2, put_old ho hlt u.old _, ?_, ?_, ?_⟩
          · intro j q c h1 h2 hq hl' hd
            by_cases hji : j = i
            · subst hji
              obtain rfl : q = o := Option.some.inj (hq.symm.trans ho)
              exact ⟨v, put_self hf ho hd u.size v, hv⟩
            · rw [getD_set hlt] at hl'
              simp [hji] at hl'
              obtain ⟨x, hx, hx'⟩ := u.come j q c h1 h2 hq (by simpa using hl') hd
              exact ⟨x, (put_other hf ho hq hd hji a _).trans hx, hV _ _ _ _ hx' hg⟩
          · intro h
            rw [gm] at h
            rw [gs]
            obtain ⟨g, cs, b1, b2, b3, b4, b5, b6⟩ := u.box h
            exact ⟨g, cs, (put_other hf ho hom hmd (Ne.symm him) a _).trans b1, b2, b3.later hg, b4, b5, fun k => hB _ _ _ (b6 k) hg⟩
          · intro h
            rw [gs] at h
            rw [gm]
            exact u.made h
        split
        · rename_i hw
          rw [if_pos hw] at hst
          refine .inl (Oper.wp_mono ?_ hst)
          rintro a' w'' ⟨v, rfl, hv, hg⟩
          exact ⟨key v w'' hv hg, by simp [hz], by omega⟩
        · rename_i hw
          rw [if_neg hw] at hst
          exact ⟨key undef w' hst (Later.refl _), by simp [hz], by omega⟩
  · refine ⟨⟨Later.refl w0, rfl, rfl, fun _ _ => rfl, fun i o c _ _ ho hl _ => ?_, fun hl => ?_, fun hl => ?_⟩, by simp, ?_⟩
    · rw [getD_replicate_false] at hl
      cases hl
    · rw [getD_replicate_false] at hl
      cases hl
    · rw [getD_replicate_false] at hl
      cases hl
    · unfold leftN
      have := List.countP_le_length (p := fun b => !b) (l := (Array.replicate ops.size false).toList)
      simpa using this

/-- Each operation writes one of these slots, or none. -/
def coverB (ops : Array Oper) (ds : List Tmp) : Bool := ops.toList.all fun q => match q.dst with
  | none => true
  | some s => ds.contains s

theorem cover_of {ops : Array Oper} {ds : List Tmp} (h : coverB ops ds = true) {c : Tmp} (hc : c ∉ ds) : ∀ (j : Nat) (q : Oper), ops[j]? = some q → q.dst ≠ some c := by
  intro j q hq hd
  have := List.all_eq_true.1 h q (by
    rw [Array.mem_toList_iff]
    exact Array.mem_of_getElem? hq)
  rw [hd] at this
  exact hc (by simpa using this)

/-- The act, by what these slots hold now. -/
def puts (a : Act) (ds : List Tmp) (b : Act) : Act := ds.foldl (fun b s => b.put (some s) (a.tmps.getD s undef)) b

theorem puts_frame (a : Act) (ds : List Tmp) (b : Act) : (puts a ds b).defers = b.defers ∧ (puts a ds b).tmps.size = b.tmps.size := by
  induction ds generalizing b with
  | nil => exact ⟨rfl, rfl⟩
  | cons s r ih =>
    obtain ⟨h1, h2⟩ := ih (b.put (some s) (a.tmps.getD s undef))
    exact ⟨h1, h2.trans (by simp [Act.put])⟩

theorem puts_get (a : Act) (ds : List Tmp) (b : Act) (c : Tmp) (hc : c < b.tmps.size) : (puts a ds b).tmps[c]? = if c ∈ ds then some (a.tmps.getD c undef) else b.tmps[c]? := by
  induction ds generalizing b with
  | nil => simp [puts]
  | cons s r ih =>
    have h := ih (b.put (some s) (a.tmps.getD s undef)) (by simpa [Act.put] using hc)
    have e : puts a (s :: r) b = puts a r (b.put (some s) (a.tmps.getD s undef)) := rfl
    rw [e, h]
    by_cases h1 : c ∈ r
    · rw [if_pos h1, if_pos (List.mem_cons_of_mem _ h1)]
    · rw [if_neg h1]
      by_cases h2 : c = s
      · subst h2
        rw [if_pos (List.mem_cons_self)]
        simp [Act.put, hc]
      · rw [if_neg (by simp [h2, h1])]
        simp only [Act.put]
        rw [Array.getElem?_setIfInBounds_ne (Ne.symm h2)]

theorem act_fold {ops : Array Oper} {a a0 : Act} (ds : List Tmp) (hB : coverB ops ds = true) (hd : a.defers = a0.defers) (hz : a.tmps.size = a0.tmps.size) (hold : ∀ c, (∀ (j : Nat) (q : Oper), ops[j]? = some q → q.dst ≠ some c) → a.tmps[c]? = a0.tmps[c]?) : a = puts a ds a0 := by
  obtain ⟨f1, f2⟩ := puts_frame a ds a0
  have key : a.tmps = (puts a ds a0).tmps := by
    apply Array.ext_getElem?
    intro c
    by_cases hc : c < a0.tmps.size
    · rw [puts_get a ds a0 c hc]
      split
      · have : c < a.tmps.size := by omega
        simp [this]
      · rename_i h
        exact hold c (cover_of hB h)
    · rw [Array.getElem?_eq_none (by omega), Array.getElem?_eq_none (by omega)]
  cases a with
  | mk t d =>
    cases hp : puts ⟨t, d⟩ ds a0 with
    | mk t' d' =>
      rw [hp] at key f1
      simp only at key f1 hd
      rw [key, hd, ← f1]

theorem out4 (g : Nat) (W : World) (v0 v1 v2 v3 : Value) : Out g W ((((W.setCell ⟨g, 0, none⟩ v0).setCell ⟨g, 1, none⟩ v1).setCell ⟨g, 2, none⟩ v2).setCell ⟨g, 3, none⟩ v3) := ⟨0, [v0, v1, v2, v3], rfl⟩

theorem owns_sets' {b : Nat} {e : TypeId} {n m : Nat} {v : Value} {xs : List Value} {A : Nat} (hn : some A ≠ v.ownBlock) (vs : List Value) : ∀ (W : World) (o : Nat), W.ownsRow b e n v m xs → (W.setCells A o vs).ownsRow b e n v m xs := by
  induction vs with
  | nil => intro W o h; exact h
  | cons y r ih => intro W o h; exact ih _ _ (Conf.owns_set' h hn _ _)

/-- A configuration that is owned stays so where a block of another type is written. -/
theorem own_out {W W' : World} {B g : Nat} {E cs : Array Value} {c : Cf.Cg} (h : Conf.Own W B E c) (r : RA W g cs 39) (o : Out g W W') : Conf.Own W' B E c := by
  obtain ⟨u, v, rfl, hu, hv⟩ := h
  obtain ⟨k, vs, rfl⟩ := o
  refine ⟨u, v, rfl, ?_, ?_⟩
  · unfold By.SL at *
    exact owns_sets' (Conf.own_apart hu r (by decide)) vs W k hu
  · unfold Conf.WL at *
    exact owns_sets' (Conf.own_apart hv r (by decide)) vs W k hv

end Go.Proofs.YtmlnlkfdbbnkbaaGreatDoor.Eachn
