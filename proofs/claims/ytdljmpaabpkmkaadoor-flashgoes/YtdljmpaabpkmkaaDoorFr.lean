/-
  What the document's Read answers, by the reference, where there is a row of three. Conditions: the table lies where the program lays it; the bytes are bytes, and at most 20000.
-/
import Derived.Test.YtdljmpaabpkmkaaDoorFq
namespace Go.Proofs.YtdljmpaabpkmkaaDoor.Fls
set_option maxRecDepth 100000
open Go.ChangeShapes Go.WideShapes Go.ChangeAt Go.RowKit
open Go.Proofs.YtdljmpaabpkmkaaDoor.Divs Go.Proofs.YtdljmpaabpkmkaaDoor.Grow Go.Proofs.YtdljmpaabpkmkaaDoor.By Go.Proofs.YtdljmpaabpkmkaaDoor.Wi Go.Proofs.YtdljmpaabpkmkaaDoor.Fa
open Go.Proofs.YtdljmpaabpkmkaaDoor.Crc (Laid ropen_any)

set_option maxHeartbeats 1000000 in
theorem rread_may (bs : List Int) (hb : By bs) (hn : bs.length ≤ 20000) (g c m p : Int) (hr : grow bs 0 3 = ([g, c, m], p, 0)) (hm : may ⟨g, c, m, []⟩ = false) (v : Value) (w : World) (hs : Sk .u8 w v bs) :
    Calls Tryd.prog 27 #[v] w fun e w' => ∃ u, e = .returned u ∧ Gt w' u r0 120 ∧ Later w w' := by
  have K := Lib.hid (fun W (g : Later w W) => rgetrow_any bs 0 3 v W (hs.later g) hb hn (by omega))
  rw [hr] at K
  have M := Lib.hid (fun W => rmay_any ⟨g, c, m, []⟩ (.agg #[.int .i64 g, .int .i64 c, .int .i64 m, .slice none 0 0]) W ⟨_, rfl, sk_nil _ _⟩)
  rw [hm] at M
  obtain ⟨ad, cap, rfl, _⟩ := hs.len
  clear hs hb hr hm hn
  go_enter Tryd.func27, Tryd.ntmps27
  go_wp2_with fail
  refine (K.out _ ((Later.refl w).put _)).mono ?_
  rintro e w1 ⟨u, rfl, ⟨l, rfl, hl⟩, hg1⟩
  obtain ⟨b, off, k1, rfl, _, _, hbl, hc⟩ := hl.has (by simp)
  have d0 : w1.cell? ⟨b, off, none⟩ = some (.int .i64 g) := hc 0 (by simp)
  have d1 : w1.cell? ⟨b, off + 1, none⟩ = some (.int .i64 c) := hc 1 (by simp)
  have d2 : w1.cell? ⟨b, off + 2, none⟩ = some (.int .i64 m) := hc 2 (by simp)
  have HG1 := Lib.hid (gtrans ((Later.refl w).put _) hg1)
  have HR1 := Lib.hid ((RA.new w _ _).later hg1)
  have HLT := Lib.hid hg1.size
  clear hl hc hg1
  go_wp2_with fail
  go_region
  generalize hW : ((w1.alloc (Obj.cells #[Value.slice (some ⟨b, off, none⟩) 3 k1, Value.int IntKind.i64 p, Value.int IntKind.i64 0] 77)).alloc (Obj.cells #[Value.int IntKind.i64 g, Value.int IntKind.i64 c, Value.int IntKind.i64 m, Value.slice none 0 0] 26)).drew = w2
  have hg2 : Later ((w1.alloc (.cells #[.slice (some ⟨b, off, none⟩) 3 k1, .int .i64 p, .int .i64 0] 77)).alloc (Obj.cells #[Value.int IntKind.i64 g, Value.int IntKind.i64 c, Value.int IntKind.i64 m, Value.slice none 0 0] 26)) w2 := by rw [← hW]; exact later_drewN _ 1
  have HG2 := Lib.hid (gtrans ((Later.refl w1).put (.cells #[.slice (some ⟨b, off, none⟩) 3 k1, .int .i64 p, .int .i64 0] 77)) (gtrans ((Later.refl _).put (Obj.cells #[Value.int IntKind.i64 g, Value.int IntKind.i64 c, Value.int IntKind.i64 m, Value.slice none 0 0] 26)) hg2))
  have HR7 := Lib.hid ((RA.new w1 _ _).later (gtrans ((Later.refl _).put (Obj.cells #[Value.int IntKind.i64 g, Value.int IntKind.i64 c, Value.int IntKind.i64 m, Value.slice none 0 0] 26)) hg2))
  have R26 := (RA.new (w1.alloc (.cells #[.slice (some ⟨b, off, none⟩) 3 k1, .int .i64 p, .int .i64 0] 77)) _ _).later hg2
  rw [World.size_alloc] at R26
  have HR26 := Lib.hid R26
  have e0 := R26.cell 0 _ rfl
  have e1 := R26.cell 1 _ rfl
  have e2 := R26.cell 2 _ rfl
  have e3 := R26.cell 3 _ rfl
  clear hW hg2 d0 d1 d2 R26
  go_wp2_with fail
  clear e0 e1 e2 e3
  refine (M.out _).mono ?_
  rintro e w3 ⟨rfl, hg3⟩
  have HG3 := Lib.hid (gtrans HG1.out (gtrans HG2.out hg3))
  have HR3 := Lib.hid (HR1.out.later (gtrans HG2.out hg3))
  have HS3 := Lib.hid (HR7.out.later hg3)
  have HT3 := Lib.hid (HR26.out.later hg3)
  clear hg3
  have c0 := HR3.out.cell 0 _ rfl
  have c1 := HR3.out.cell 1 _ rfl
  have c2 := HR3.out.cell 2 _ rfl
  have c3 := HR3.out.cell 3 _ rfl
  have c4 := HR3.out.cell 4 _ rfl
  have f0 := HR3.out.froz 0
  have f1 := HR3.out.froz 1
  have f2 := HR3.out.froz 2
  have f3 := HR3.out.froz 3
  have f4 := HR3.out.froz 4
  go_wp2_with fail
  refine bodyPost_ret (results_r (P := Tryd.prog) (fn := Tryd.f27) Tryd.results27 _ _ w.heap.size 63 _ _ rfl (HR3.out.set5 _ _ _ _ _) Tryd.underlying63 rfl (by kernel_rfl)) rfl ?_
  exact ⟨_, rfl, gt_zero _ _, later_set5 HG3.out (Nat.le_refl _) _ _ _ _ _⟩

/-- What stands behind a row: no record, or one. -/
theorem rtail_split (bs : List Int) (hb : By bs) (l : List Int) (p : Int) :
    (gE bs p ≠ 0 ∧ rdc bs l p = (r0, gE bs p)) ∨ (gE bs p = 0 ∧ gN bs p < 0 ∧ rdc bs l p = (r0, 120)) ∨ (gE bs p = 0 ∧ 0 ≤ gN bs p ∧ 4096 < gN bs p ∧ rdc bs l p = (r0, 120)) ∨
    (gE bs p = 0 ∧ 0 ≤ gN bs p ∧ gN bs p ≤ 4096 ∧ 0 ≤ gP bs p ∧ gP bs p ≤ bs.length ∧
      (((bs.length : Int) - gP bs p < gN bs p + 2 ∧ rdc bs l p = (r0, 121)) ∨ (gN bs p + 2 < (bs.length : Int) - gP bs p ∧ rdc bs l p = (r0, 122)) ∨
      ((bs.length : Int) - gP bs p = gN bs p + 2 ∧ ((Cr.op bs).2 ≠ 0 ∧ rdc bs l p = (r0, (Cr.op bs).2) ∨ (Cr.op bs).2 = 0 ∧ rdc bs l p = (⟨l.getD 0 0, l.getD 1 0, l.getD 2 0, (bs.drop (gP bs p).toNat).take (gN bs p).toNat⟩, 0))))) := by
  by_cases h1 : gE bs p = 0
  · by_cases h2 : 0 ≤ gN bs p
    · by_cases h3 : gN bs p ≤ 4096
      · right; right; right
        obtain ⟨g0, g1, g2, _, _⟩ := g_ok bs p hb h1
        refine ⟨h1, h2, h3, by omega, by omega, ?_⟩
        unfold rdc
        rw [if_pos h1, if_pos ⟨h2, h3⟩]
        by_cases k1 : (bs.length : Int) - gP bs p < gN bs p + 2
        · left
          exact ⟨k1, if_pos k1⟩
        · rw [if_neg k1]
          by_cases k2 : gN bs p + 2 < (bs.length : Int) - gP bs p
          · right; left
            exact ⟨k2, if_pos k2⟩
          · rw [if_neg k2]
            right; right
            refine ⟨by omega, ?_⟩
            by_cases k3 : (Cr.op bs).2 = 0
            · right
              exact ⟨k3, if_pos k3⟩
            · left
              exact ⟨k3, if_neg k3⟩
      · right; right; left
        refine ⟨h1, h2, by omega, ?_⟩
        unfold rdc
        rw [if_pos h1, if_neg (by omega)]
    · right; left
      refine ⟨h1, by omega, ?_⟩
      unfold rdc
      rw [if_pos h1, if_neg (by omega)]
  · left
    refine ⟨h1, ?_⟩
    unfold rdc
    rw [if_neg h1]

set_option maxHeartbeats 4000000 in
theorem rread_tail (bs : List Int) (hb : By bs) (hn : bs.length ≤ 20000) (g c m p : Int) (hr : grow bs 0 3 = ([g, c, m], p, 0)) (hm : may ⟨g, c, m, []⟩ = true) (v : Value) (w : World) (hs : Sk .u8 w v bs) :
    Calls Tryd.prog 27 #[v] w fun e w' => ∃ u, e = .returned u ∧ Gt w' u (rdc bs [g, c, m] p).1 (rdc bs [g, c, m] p).2 ∧ Later w w' := by
  have K := Lib.hid (fun W (g : Later w W) => rgetrow_any bs 0 3 v W (hs.later g) hb hn (by omega))
  rw [hr] at K
  have M := Lib.hid (fun W => rmay_any ⟨g, c, m, []⟩ (.agg #[.int .i64 g, .int .i64 c, .int .i64 m, .slice none 0 0]) W ⟨_, rfl, sk_nil _ _⟩)
  rw [hm] at M
  have Z := Lib.hid (fun W (g : Later w W) => rget_any bs p v W (hs.later g) hb hn)
  have O := Lib.hid (fun W (g : Later w W) => ropen_any bs v W (hs.later g) hb)
  have HS := Lib.hid hs
  have T := rtail_split bs hb [g, c, m] p
  obtain ⟨D, hD⟩ : ∃ D, rdc bs [g, c, m] p = D := ⟨_, rfl⟩
  rw [hD] at T ⊢
  obtain ⟨n, hN⟩ : ∃ n, gN bs p = n := ⟨_, rfl⟩
  obtain ⟨q, hQ⟩ : ∃ q, gP bs p = q := ⟨_, rfl⟩
  obtain ⟨E, hE⟩ : ∃ E, gE bs p = E := ⟨_, rfl⟩
  obtain ⟨E3, hE3⟩ : ∃ E3, (Cr.op bs).2 = E3 := ⟨_, rfl⟩
  simp only [hN, hQ, hE, hE3] at T Z O
  have HT := Lib.hid T
  obtain ⟨ad, cap, rfl, _⟩ := hs.len
  clear hs hb hr hm hD hN hQ hE hE3 T
  go_enter Tryd.func27, Tryd.ntmps27
  go_wp2_with fail
  refine (K.out _ ((Later.refl w).put _)).mono ?_
  rintro e w1 ⟨u, rfl, ⟨l, rfl, hl⟩, hg1⟩
  obtain ⟨b, off, k1, rfl, _, _, hbl, hc⟩ := hl.has (by simp)
  have d0 : w1.cell? ⟨b, off, none⟩ = some (.int .i64 g) := hc 0 (by simp)
  have d1 : w1.cell? ⟨b, off + 1, none⟩ = some (.int .i64 c) := hc 1 (by simp)
  have d2 : w1.cell? ⟨b, off + 2, none⟩ = some (.int .i64 m) := hc 2 (by simp)
  have HG1 := Lib.hid (gtrans ((Later.refl w).put _) hg1)
  have HR1 := Lib.hid ((RA.new w _ _).later hg1)
  have HLT := Lib.hid hg1.size
  clear hl hc hg1
  go_wp2_with fail
  go_region
  generalize hW : ((w1.alloc (Obj.cells #[Value.slice (some ⟨b, off, none⟩) 3 k1, Value.int IntKind.i64 p, Value.int IntKind.i64 0] 77)).alloc (Obj.cells #[Value.int IntKind.i64 g, Value.int IntKind.i64 c, Value.int IntKind.i64 m, Value.slice none 0 0] 26)).drew = w2
  have hg2 : Later ((w1.alloc (.cells #[.slice (some ⟨b, off, none⟩) 3 k1, .int .i64 p, .int .i64 0] 77)).alloc (Obj.cells #[Value.int IntKind.i64 g, Value.int IntKind.i64 c, Value.int IntKind.i64 m, Value.slice none 0 0] 26)) w2 := by rw [← hW]; exact later_drewN _ 1
  have HG2 := Lib.hid (gtrans ((Later.refl w1).put (.cells #[.slice (some ⟨b, off, none⟩) 3 k1, .int .i64 p, .int .i64 0] 77)) (gtrans ((Later.refl _).put (Obj.cells #[Value.int IntKind.i64 g, Value.int IntKind.i64 c, Value.int IntKind.i64 m, Value.slice none 0 0] 26)) hg2))
  have HR7 := Lib.hid ((RA.new w1 _ _).later (gtrans ((Later.refl _).put (Obj.cells #[Value.int IntKind.i64 g, Value.int IntKind.i64 c, Value.int IntKind.i64 m, Value.slice none 0 0] 26)) hg2))
  have R26 := (RA.new (w1.alloc (.cells #[.slice (some ⟨b, off, none⟩) 3 k1, .int .i64 p, .int .i64 0] 77)) _ _).later hg2
  rw [World.size_alloc] at R26
  have HR26 := Lib.hid R26
  have e0 := R26.cell 0 _ rfl
  have e1 := R26.cell 1 _ rfl
  have e2 := R26.cell 2 _ rfl
  have e3 := R26.cell 3 _ rfl
  clear hW hg2 d0 d1 d2 R26
  go_wp2_with fail
  clear e0 e1 e2 e3
  refine (M.out _).mono ?_
  rintro e w3 ⟨rfl, hg3⟩
  have HG3 := Lib.hid (gtrans HG1.out (gtrans HG2.out hg3))
  have HR3 := Lib.hid (HR1.out.later (gtrans HG2.out hg3))
  have HS3 := Lib.hid (HR7.out.later hg3)
  have HT3 := Lib.hid (HR26.out.later hg3)
  clear hg3
  have sc0 := HS3.out.cell 0 _ rfl
  have sc1 := HS3.out.cell 1 _ rfl
  have sc2 := HS3.out.cell 2 _ rfl
  go_wp2_with fail
  clear sc0 sc1 sc2
  refine (Z.out _ HG3.out).mono ?_
  rintro e w4 ⟨rfl, hg4⟩
  have HGx := Lib.hid (gtrans HG3.out hg4)
  have HG4 := Lib.hid (gtrans HGx.out ((Later.refl w4).put (.cells #[.int .i64 n, .int .i64 q, .int .i64 E] 80)))
  have HR4 := Lib.hid (HR3.out.later (gtrans hg4 ((Later.refl w4).put (.cells #[.int .i64 n, .int .i64 q, .int .i64 E] 80))))
  have HT4 := Lib.hid (HT3.out.later (gtrans hg4 ((Later.refl w4).put (.cells #[.int .i64 n, .int .i64 q, .int .i64 E] 80))))
  have HN4 := Lib.hid ((RA.new w4 #[.int .i64 n, .int .i64 q, .int .i64 E] 80))
  have HL4 := Lib.hid hg4.size
  have HL3 := Lib.hid (HT3.out.lt)
  clear hg4
  rcases HT.out with ⟨h1, rfl⟩ | ⟨rfl, h2, rfl⟩ | ⟨rfl, h2, h3, rfl⟩ | ⟨rfl, h2, h3, h4, h5, hcase⟩
  · have t : (E != 0) = true := by simpa using h1
    have c0 := HR4.out.cell 0 _ rfl
    have c1 := HR4.out.cell 1 _ rfl
    have c2 := HR4.out.cell 2 _ rfl
    have c3 := HR4.out.cell 3 _ rfl
    have c4 := HR4.out.cell 4 _ rfl
    have f0 := HR4.out.froz 0
    have f1 := HR4.out.froz 1
    have f2 := HR4.out.froz 2
    have f3 := HR4.out.froz 3
    have f4 := HR4.out.froz 4
    clear h1
    go_wp2_with fail
    refine bodyPost_ret (results_r (P := Tryd.prog) (fn := Tryd.f27) Tryd.results27 _ _ w.heap.size 63 _ _ rfl (HR4.out.set5 _ _ _ _ _) Tryd.underlying63 rfl (by kernel_rfl)) rfl ?_
    exact ⟨_, rfl, gt_zero _ _, later_set5 HG4.out (Nat.le_refl _) _ _ _ _ _⟩
  · have c0 := HR4.out.cell 0 _ rfl
    have c1 := HR4.out.cell 1 _ rfl
    have c2 := HR4.out.cell 2 _ rfl
    have c3 := HR4.out.cell 3 _ rfl
    have c4 := HR4.out.cell 4 _ rfl
    have f0 := HR4.out.froz 0
    have f1 := HR4.out.froz 1
    have f2 := HR4.out.froz 2
    have f3 := HR4.out.froz 3
    have f4 := HR4.out.froz 4
    go_wp2_with fail
    refine bodyPost_ret (results_r (P := Tryd.prog) (fn := Tryd.f27) Tryd.results27 _ _ w.heap.size 63 _ _ rfl (HR4.out.set5 _ _ _ _ _) Tryd.underlying63 rfl (by kernel_rfl)) rfl ?_
    exact ⟨_, rfl, gt_zero _ _, later_set5 HG4.out (Nat.le_refl _) _ _ _ _ _⟩
  · have c0 := HR4.out.cell 0 _ rfl
    have c1 := HR4.out.cell 1 _ rfl
    have c2 := HR4.out.cell 2 _ rfl
    have c3 := HR4.out.cell 3 _ rfl
    have c4 := HR4.out.cell 4 _ rfl
    have f0 := HR4.out.froz 0
    have f1 := HR4.out.froz 1
    have f2 := HR4.out.froz 2
    have f3 := HR4.out.froz 3
    have f4 := HR4.out.froz 4
    go_wp2_with fail
    refine bodyPost_ret (results_r (P := Tryd.prog) (fn := Tryd.f27) Tryd.results27 _ _ w.heap.size 63 _ _ rfl (HR4.out.set5 _ _ _ _ _) Tryd.underlying63 rfl (by kernel_rfl)) rfl ?_
    exact ⟨_, rfl, gt_zero _ _, later_set5 HG4.out (Nat.le_refl _) _ _ _ _ _⟩
  · have q1 : wrap64 ((bs.length : Int) - q) = (bs.length : Int) - q := by unfold wrap64; omega
    have q2 : wrap64 (n + 2) = n + 2 := by unfold wrap64; omega
    have q3 : wrap64 (q + n) = q + n := by unfold wrap64; omega
    have q4 : ¬ (4096 < n) := by omega
    have q5 : ¬ (n < 0) := by omega
    rcases hcase with ⟨k1, rfl⟩ | ⟨k1, rfl⟩ | ⟨k1, hop⟩
    · have t1 : decide ((bs.length : Int) - q < n + 2) = true := decide_eq_true k1
      have c0 := HR4.out.cell 0 _ rfl
      have c1 := HR4.out.cell 1 _ rfl
      have c2 := HR4.out.cell 2 _ rfl
      have c3 := HR4.out.cell 3 _ rfl
      have c4 := HR4.out.cell 4 _ rfl
      have f0 := HR4.out.froz 0
      have f1 := HR4.out.froz 1
      have f2 := HR4.out.froz 2
      have f3 := HR4.out.froz 3
      have f4 := HR4.out.froz 4
      clear k1
      go_wp2_with fail
      refine bodyPost_ret (results_r (P := Tryd.prog) (fn := Tryd.f27) Tryd.results27 _ _ w.heap.size 63 _ _ rfl (HR4.out.set5 _ _ _ _ _) Tryd.underlying63 rfl (by kernel_rfl)) rfl ?_
      exact ⟨_, rfl, gt_zero _ _, later_set5 HG4.out (Nat.le_refl _) _ _ _ _ _⟩
    · have t1 : decide ((bs.length : Int) - q < n + 2) = false := decide_eq_false (by omega)
      have t2 : decide ((bs.length : Int) - q > n + 2) = true := decide_eq_true k1
      have c0 := HR4.out.cell 0 _ rfl
      have c1 := HR4.out.cell 1 _ rfl
      have c2 := HR4.out.cell 2 _ rfl
      have c3 := HR4.out.cell 3 _ rfl
      have c4 := HR4.out.cell 4 _ rfl
      have f0 := HR4.out.froz 0
      have f1 := HR4.out.froz 1
      have f2 := HR4.out.froz 2
      have f3 := HR4.out.froz 3
      have f4 := HR4.out.froz 4
      clear k1
      go_wp2_with fail
      refine bodyPost_ret (results_r (P := Tryd.prog) (fn := Tryd.f27) Tryd.results27 _ _ w.heap.size 63 _ _ rfl (HR4.out.set5 _ _ _ _ _) Tryd.underlying63 rfl (by kernel_rfl)) rfl ?_
      exact ⟨_, rfl, gt_zero _ _, later_set5 HG4.out (Nat.le_refl _) _ _ _ _ _⟩
    · have t1 : decide ((bs.length : Int) - q < n + 2) = false := decide_eq_false (by omega)
      have t2 : decide ((bs.length : Int) - q > n + 2) = false := decide_eq_false (by omega)
      have HK := Lib.hid k1
      clear k1
      go_wp2_with fail
      refine (O.out _ HG4.out).mono ?_
      rintro e w5 ⟨u, rfl, _, hg5⟩
      have HG5 := Lib.hid (gtrans HG4.out hg5)
      have HR5 := Lib.hid (HR4.out.later hg5)
      have HT5 := Lib.hid (HT4.out.later hg5)
      have HN5 := Lib.hid (HN4.out.later hg5)
      clear hg5
      rcases hop with ⟨k2, rfl⟩ | ⟨k2, rfl⟩
      · have t3 : (E3 != 0) = true := by simpa using k2
        have c0 := HR5.out.cell 0 _ rfl
        have c1 := HR5.out.cell 1 _ rfl
        have c2 := HR5.out.cell 2 _ rfl
        have c3 := HR5.out.cell 3 _ rfl
        have c4 := HR5.out.cell 4 _ rfl
        have f0 := HR5.out.froz 0
        have f1 := HR5.out.froz 1
        have f2 := HR5.out.froz 2
        have f3 := HR5.out.froz 3
        have f4 := HR5.out.froz 4
        clear k2
        go_wp2_with fail
        refine bodyPost_ret (results_r (P := Tryd.prog) (fn := Tryd.f27) Tryd.results27 _ _ w.heap.size 63 _ _ rfl (HR5.out.set5 _ _ _ _ _) Tryd.underlying63 rfl (by kernel_rfl)) rfl ?_
        exact ⟨_, rfl, gt_zero _ _, later_set5 HG5.out (Nat.le_refl _) _ _ _ _ _⟩
      · subst k2
        obtain ⟨qn, rfl⟩ := Int.eq_ofNat_of_zero_le h4
        obtain ⟨nn, rfl⟩ := Int.eq_ofNat_of_zero_le h2
        have hk := HK.out
        obtain ⟨a5, k5, u2, ev, sl, hu2⟩ := cut_lh HS.out qn (qn + nn) (by omega) (by omega)
        simp only [Value.slice.injEq] at ev
        obtain ⟨rfl, _, rfl⟩ := ev
        rw [show qn + nn - qn = nn by omega] at hu2
        rw [show ((qn + nn : Nat) : Int) = (qn : Int) + (nn : Int) by omega] at sl
        obtain ⟨a4, k4, rfl, _⟩ := hu2.len
        have HU := Lib.hid hu2
        have hsz := HLT.out
        simp only [World.size_alloc] at hsz
        have hne : w.heap.size ≠ w1.heap.size + 1 := by omega
        have HNE := Lib.hid hne
        have hl3 := HL3.out
        have hl4 := HL4.out
        have hne2 : w4.heap.size ≠ w1.heap.size + 1 := by omega
        generalize ((bs.drop qn).take nn).length = l4 at *
        have c0 := HR5.out.cell 0 _ rfl
        have c1 := HR5.out.cell 1 _ rfl
        have c2 := HR5.out.cell 2 _ rfl
        have c3 := HR5.out.cell 3 _ rfl
        have c4 := HR5.out.cell 4 _ rfl
        have f0 := HR5.out.froz 0
        have f1 := HR5.out.froz 1
        have f2 := HR5.out.froz 2
        have f3 := HR5.out.froz 3
        have f4 := HR5.out.froz 4
        have sc0 := HT5.out.cell 0 _ rfl
        have sc1 := HT5.out.cell 1 _ rfl
        have sc2 := HT5.out.cell 2 _ rfl
        have sc3 := HT5.out.cell 3 _ rfl
        have sf0 := HT5.out.froz 0
        have sf1 := HT5.out.froz 1
        have sf2 := HT5.out.froz 2
        have sf3 := HT5.out.froz 3
        have rc0 := HN5.out.cell 0 _ rfl
        have rc1 := HN5.out.cell 1 _ rfl
        have rc2 := HN5.out.cell 2 _ rfl
        clear hu2 hk
        go_wp2_with fail
        have R6 := HR5.out.other HNE.out 3 (.slice a4 l4 k4)
        refine bodyPost_ret (results_r (P := Tryd.prog) (fn := Tryd.f27) Tryd.results27 _ _ w.heap.size 63 _ _ rfl (R6.set5 _ _ _ _ _) Tryd.underlying63 rfl (by kernel_rfl)) rfl ?_
        refine ⟨_, rfl, ⟨_, rfl, HU.out.later ?_⟩, ?_⟩ <;> exact later_set5 (later_set HG5.out (by omega) _ _) (Nat.le_refl _) _ _ _ _ _

theorem rread_any (bs : List Int) (hb : By bs) (hn : bs.length ≤ 20000) (v : Value) (w : World) (hs : Sk .u8 w v bs) :
    Calls Tryd.prog 27 #[v] w fun e w' => ∃ u, e = .returned u ∧ Gt w' u (rd bs).1 (rd bs).2 ∧ Later w w' := by
  by_cases he : (grow bs 0 3).2.2 = 0
  · by_cases hl : (grow bs 0 3).1.length = 3
    · obtain ⟨g, c, m, hgcm⟩ : ∃ g c m, (grow bs 0 3).1 = [g, c, m] := by
        generalize (grow bs 0 3).1 = l at *
        match l, hl with
        | [g, c, m], _ => exact ⟨g, c, m, rfl⟩
      obtain ⟨p, hp⟩ : ∃ p, (grow bs 0 3).2.1 = p := ⟨_, rfl⟩
      have hr : grow bs 0 3 = ([g, c, m], p, 0) := Prod.ext hgcm (Prod.ext hp he)
      by_cases hm : may ⟨g, c, m, []⟩ = true
      · rw [rd_row hr hm]
        exact rread_tail bs hb hn g c m p hr hm v w hs
      · have hm : may ⟨g, c, m, []⟩ = false := by simpa using hm
        have e : rd bs = (r0, 120) := by
          unfold rd
          rw [hr]
          simp [hm]
        rw [e]
        exact rread_may bs hb hn g c m p hr hm v w hs
    · have e : rd bs = (r0, 120) := by
        unfold rd
        rw [if_pos he, if_neg hl]
      rw [e]
      exact rread_len bs hb hn he hl v w hs
  · have e : rd bs = (r0, (grow bs 0 3).2.2) := by
      unfold rd
      rw [if_neg he]
    rw [e]
    exact rread_err bs hb hn _ rfl he v w hs

end Go.Proofs.YtdljmpaabpkmkaaDoor.Fls
