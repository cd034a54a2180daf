/-
  What Read answers, by the program. Conditions: the table lies where the program lays it; the bytes are bytes, and at most 20000.
-/
import Derived.Test.YtdljmpaabpkmkaaDoorFy
namespace Go.Proofs.YtdljmpaabpkmkaaDoor.Fls
set_option maxRecDepth 100000
open Go.ChangeShapes Go.WideShapes Go.ChangeAt Go.RowKit
open Go.Proofs.YtdljmpaabpkmkaaDoor.Divs Go.Proofs.YtdljmpaabpkmkaaDoor.Grow Go.Proofs.YtdljmpaabpkmkaaDoor.By Go.Proofs.YtdljmpaabpkmkaaDoor.Wi Go.Proofs.YtdljmpaabpkmkaaDoor.Fa
open Go.Proofs.YtdljmpaabpkmkaaDoor.Crc (Laid open_any)

/-- A slice cut at its start. -/
theorem cut_l {bs : List Int} {v : Value} {w : World} (hs : Sk .u8 w v bs) (l : Nat) (hl : l ≤ bs.length) :
    ∃ ad cap u, v = .slice ad bs.length cap ∧ (∀ W : World, (Instr.slice 22 (.slice ad bs.length cap) (some (.int .i64 (l : Int))) none none).run Tryd.prog W = .ok u W) ∧ Sk .u8 w u (bs.drop l) := by
  obtain ⟨ad, cap, rfl, h1, h2, h3, h4⟩ := hs
  refine ⟨ad, cap, sliced ad l bs.length cap 1, rfl, fun W => ?_, ?_⟩
  · have := run_slice_l (P := Tryd.prog) W 22 ad bs.length cap (by kernel_rfl) .i64 l (by omega) (by omega)
    rw [this]
    go_simp
  · unfold sliced
    refine ⟨if cap = l then ad else ad.map (·.add (l * 1)), cap - l, ?_, ?_, by omega, ?_, ?_⟩
    · rw [List.length_drop]
    · rw [List.length_drop]; omega
    · intro hn
      by_cases e : cap = l
      · omega
      · rw [if_neg e] at hn
        have := h3 (by cases ad with
          | none => rfl
          | some a => simp at hn)
        omega
    · intro i x hx
      have hi := (List.getElem?_eq_some_iff.1 hx).1
      rw [List.length_drop] at hi
      rw [List.getElem?_drop] at hx
      obtain ⟨b, off, rfl, c⟩ := h4 (l + i) x hx
      refine ⟨b, off + l, ?_, ?_⟩
      · rw [if_neg (by omega)]
        simp [Addr.add]
      · rw [Nat.add_assoc]; exact c

/-- A head that is none, or one. -/
theorem head_split (bs : List Int) (hb : By bs) :
    (∃ E, E ≠ 0 ∧ rd bs = (r0, E) ∧ ∀ v w, Sk .u8 w v bs → Calls Tryd.prog 33 #[v] w fun e w' => e = .returned (.tuple #[.agg #[.int .i64 0, .int .i64 0, .int .i64 0, .slice none 0 0], .int .i64 0, .int .i64 E]) ∧ Later w w') ∨
    (∃ g c m p, grow bs 0 3 = ([g, c, m], p, 0) ∧ rd bs = rdc bs [g, c, m] p ∧ ∀ v w, Sk .u8 w v bs → Calls Tryd.prog 33 #[v] w fun e w' => e = .returned (.tuple #[.agg #[.int .i64 g, .int .i64 c, .int .i64 m, .slice none 0 0], .int .i64 p, .int .i64 0]) ∧ Later w w') := by
  by_cases he : (grow bs 0 3).2.2 = 0
  · by_cases hl : (grow bs 0 3).1.length = 3
    · obtain ⟨g, c, m, hgcm⟩ : ∃ g c m, (grow bs 0 3).1 = [g, c, m] := by
        generalize (grow bs 0 3).1 = l at *
        match l, hl with
        | [g, c, m], _ => exact ⟨g, c, m, rfl⟩
      obtain ⟨p, hp⟩ : ∃ p, (grow bs 0 3).2.1 = p := ⟨_, rfl⟩
      have hr : grow bs 0 3 = ([g, c, m], p, 0) := by
        exact Prod.ext hgcm (Prod.ext hp he)
      by_cases hm : may ⟨g, c, m, []⟩ = true
      · right
        refine ⟨g, c, m, p, hr, rd_row hr hm, fun v w hs => ?_⟩
        exact head_may bs hb g c m p hr true hm v w hs
      · have hm : may ⟨g, c, m, []⟩ = false := by simpa using hm
        left
        refine ⟨120, by decide, ?_, fun v w hs => ?_⟩
        · unfold rd
          rw [hr]
          simp [hm]
        · exact head_may bs hb g c m p hr false hm v w hs
    · left
      refine ⟨120, by decide, ?_, fun v w hs => head_len bs hb he hl v w hs⟩
      unfold rd
      rw [if_pos he, if_neg hl]
  · left
    refine ⟨_, he, ?_, fun v w hs => head_err bs hb _ rfl he v w hs⟩
    unfold rd
    rw [if_neg he]

theorem op_take (xs : List Int) (h : (Cr.op xs).2 = 0) : (Cr.op xs).1 = xs.take (xs.length - 2) := by
  unfold Cr.op at h ⊢
  split at h
  · simp at h
  · split at h
    · rename_i h1 h2
      rw [if_neg h1, if_pos h2]
    · simp at h

/-- What stands behind a head: no record, or one. -/
theorem tail_split (bs : List Int) (hb : By bs) (l : List Int) (p : Int) (n q E : Int) (hz : Sz bs p n q E) :
    (E ≠ 0 ∧ rdc bs l p = (r0, E)) ∨
    (E = 0 ∧ 0 ≤ n ∧ n ≤ 4096 ∧ 0 ≤ q ∧ q ≤ bs.length ∧ ((bs.length < q + n + 2 ∧ rdc bs l p = (r0, 121)) ∨ (q + n + 2 < bs.length ∧ rdc bs l p = (r0, 122)) ∨
      ((bs.length : Int) = q + n + 2 ∧ ((Cr.op bs).2 ≠ 0 ∧ rdc bs l p = (r0, (Cr.op bs).2) ∨ (Cr.op bs).2 = 0 ∧ rdc bs l p = (⟨l.getD 0 0, l.getD 1 0, l.getD 2 0, (Cr.op bs).1.drop q.toNat⟩, 0))))) := by
  rcases hz with ⟨h1, rfl⟩ | ⟨h1, h2, rfl⟩ | ⟨h1, h2, h3, rfl, rfl, rfl⟩
  · left
    refine ⟨h1, ?_⟩
    unfold rdc
    rw [if_neg h1]
  · left
    refine ⟨by decide, ?_⟩
    unfold rdc
    rw [if_pos h1, if_neg h2]
  · right
    obtain ⟨g0, g1, g2, _, _⟩ := g_ok bs p hb h1
    refine ⟨rfl, h2, h3, by omega, by omega, ?_⟩
    unfold rdc
    rw [if_pos h1, if_pos ⟨h2, h3⟩]
    by_cases k1 : (bs.length : Int) - gP bs p < gN bs p + 2
    · left
      exact ⟨by omega, if_pos k1⟩
    · rw [if_neg k1]
      by_cases k2 : gN bs p + 2 < (bs.length : Int) - gP bs p
      · right; left
        exact ⟨by omega, if_pos k2⟩
      · rw [if_neg k2]
        right; right
        refine ⟨by omega, ?_⟩
        by_cases k3 : (Cr.op bs).2 = 0
        · right
          refine ⟨k3, ?_⟩
          rw [if_pos k3, op_take bs k3, List.drop_take, show bs.length - 2 - (gP bs p).toNat = (gN bs p).toNat by omega]
        · left
          exact ⟨k3, if_neg k3⟩

theorem read_head (bs : List Int) (E : Int) (h0 : E ≠ 0) (K : ∀ v w, Sk .u8 w v bs → Calls Tryd.prog 33 #[v] w fun e w' => e = .returned (.tuple #[.agg #[.int .i64 0, .int .i64 0, .int .i64 0, .slice none 0 0], .int .i64 0, .int .i64 E]) ∧ Later w w')
    (v : Value) (w : World) (hs : Sk .u8 w v bs) : Calls Tryd.prog 19 #[v] w fun e w' => e = .returned (.tuple #[.agg (rz 0 0 0), .int .i64 E]) ∧ Later w w' := by
  have K := Lib.hid (fun W (g : Later w W) => K v W (hs.later g))
  have t : (E != 0) = true := by simpa using h0
  unfold rz
  obtain ⟨ad, cap, rfl, _⟩ := hs.len
  clear hs h0
  go_enter Tryd.func19, Tryd.ntmps19
  go_wp2_with fail
  refine (K.out _ ((Later.refl w).put _)).mono ?_
  rintro e w1 ⟨rfl, hg1⟩
  have R := (RA.new w _ _).later (gtrans hg1 ((Later.refl w1).put (.cells #[.int .i64 0, .int .i64 0, .int .i64 0, .slice none 0 0] 26)))
  have c0 := R.cell 0 _ rfl
  have c1 := R.cell 1 _ rfl
  have c2 := R.cell 2 _ rfl
  have c3 := R.cell 3 _ rfl
  have f0 := R.froz 0
  have f1 := R.froz 1
  have f2 := R.froz 2
  have f3 := R.froz 3
  go_wp2_with fail
  refine bodyPost_ret (results_rt (P := Tryd.prog) (fn := Tryd.f19) Tryd.results19 _ _ w.heap.size 26 _ _ _ rfl rfl (R.set4 _ _ _ _) Tryd.underlying26 rfl (by kernel_rfl)) rfl ?_
  exact ⟨rfl, later_set4 (gtrans (gtrans ((Later.refl w).put _) hg1) ((Later.refl w1).put _)) (Nat.le_refl _) _ _ _ _⟩

theorem read_tail (bs : List Int) (hb : By bs) (hn : bs.length ≤ 20000) (g c m p : Int) (K : ∀ v w, Sk .u8 w v bs → Calls Tryd.prog 33 #[v] w fun e w' => e = .returned (.tuple #[.agg #[.int .i64 g, .int .i64 c, .int .i64 m, .slice none 0 0], .int .i64 p, .int .i64 0]) ∧ Later w w')
    (v : Value) (w : World) (hs : Sk .u8 w v bs) (hL : Laid w) : Calls Tryd.prog 19 #[v] w fun e w' => ∃ u, e = .returned (.tuple #[u, .int .i64 (rdc bs [g, c, m] p).2]) ∧ Rk w' u (rdc bs [g, c, m] p).1 ∧ Later w w' := by
  have K := Lib.hid (fun W (g : Later w W) => K v W (hs.later g))
  have Z := Lib.hid (fun W (g : Later w W) => psize_any bs hb p v W (hs.later g))
  have O := Lib.hid (fun W (g : Later w W) => open_any bs v W (hs.later g) hb hn (hL.grown g))
  have T := fun n q E hz => tail_split bs hb [g, c, m] p n q E hz
  obtain ⟨D, hD⟩ : ∃ D, rdc bs [g, c, m] p = D := ⟨_, rfl⟩
  simp only [hD] at T ⊢
  have T := Lib.hid T
  obtain ⟨ad, cap, rfl, _⟩ := hs.len
  clear hs hL hD
  go_enter Tryd.func19, Tryd.ntmps19
  go_wp2_with fail
  refine (K.out _ ((Later.refl w).put _)).mono ?_
  rintro e w1 ⟨rfl, hg1⟩
  have HG1 := Lib.hid (gtrans ((Later.refl w).put _) hg1)
  have HG2 := Lib.hid (gtrans HG1.out ((Later.refl w1).put (.cells #[.int .i64 g, .int .i64 c, .int .i64 m, .slice none 0 0] 26)))
  have HR := Lib.hid ((RA.new w _ _).later (gtrans hg1 ((Later.refl w1).put (.cells #[.int .i64 g, .int .i64 c, .int .i64 m, .slice none 0 0] 26))))
  have HLT := Lib.hid hg1
  clear hg1
  go_wp2_with fail
  refine (Z.out _ HG2.out).mono ?_
  rintro e w2 ⟨n, q, E, rfl, hz, rfl⟩
  rcases T.out n q E hz with ⟨h1, rfl⟩ | ⟨rfl, n0, n1, q0, q1, hcase⟩
  · have t : (E != 0) = true := by simpa using h1
    have c0 := HR.out.cell 0 _ rfl
    have c1 := HR.out.cell 1 _ rfl
    have c2 := HR.out.cell 2 _ rfl
    have c3 := HR.out.cell 3 _ rfl
    have f0 := HR.out.froz 0
    have f1 := HR.out.froz 1
    have f2 := HR.out.froz 2
    have f3 := HR.out.froz 3
    clear hz h1
    go_wp2_with fail
    refine bodyPost_ret (results_rt (P := Tryd.prog) (fn := Tryd.f19) Tryd.results19 _ _ w.heap.size 26 _ _ _ rfl rfl (HR.out.set4 _ _ _ _) Tryd.underlying26 rfl (by kernel_rfl)) rfl ?_
    exact ⟨_, rfl, rk_zero _, later_set4 HG2.out (Nat.le_refl _) _ _ _ _⟩
  · have e1 : wrap64 (q + n) = q + n := by unfold wrap64; omega
    have e2 : wrap64 (q + n + 2) = q + n + 2 := by unfold wrap64; omega
    rcases hcase with ⟨k1, rfl⟩ | ⟨k1, rfl⟩ | ⟨k1, k2⟩
    · have t1 : decide ((bs.length : Int) < q + n + 2) = true := decide_eq_true k1
      have c0 := HR.out.cell 0 _ rfl
      have c1 := HR.out.cell 1 _ rfl
      have c2 := HR.out.cell 2 _ rfl
      have c3 := HR.out.cell 3 _ rfl
      have f0 := HR.out.froz 0
      have f1 := HR.out.froz 1
      have f2 := HR.out.froz 2
      have f3 := HR.out.froz 3
      clear hz k1
      go_wp2_with fail
      refine bodyPost_ret (results_rt (P := Tryd.prog) (fn := Tryd.f19) Tryd.results19 _ _ w.heap.size 26 _ _ _ rfl rfl (HR.out.set4 _ _ _ _) Tryd.underlying26 rfl (by kernel_rfl)) rfl ?_
      exact ⟨_, rfl, rk_zero _, later_set4 HG2.out (Nat.le_refl _) _ _ _ _⟩
    · have t1 : decide ((bs.length : Int) < q + n + 2) = false := decide_eq_false (by omega)
      have t2 : decide ((bs.length : Int) > q + n + 2) = true := decide_eq_true k1
      have c0 := HR.out.cell 0 _ rfl
      have c1 := HR.out.cell 1 _ rfl
      have c2 := HR.out.cell 2 _ rfl
      have c3 := HR.out.cell 3 _ rfl
      have f0 := HR.out.froz 0
      have f1 := HR.out.froz 1
      have f2 := HR.out.froz 2
      have f3 := HR.out.froz 3
      clear hz k1
      go_wp2_with fail
      refine bodyPost_ret (results_rt (P := Tryd.prog) (fn := Tryd.f19) Tryd.results19 _ _ w.heap.size 26 _ _ _ rfl rfl (HR.out.set4 _ _ _ _) Tryd.underlying26 rfl (by kernel_rfl)) rfl ?_
      exact ⟨_, rfl, rk_zero _, later_set4 HG2.out (Nat.le_refl _) _ _ _ _⟩
    · have t1 : decide ((bs.length : Int) < q + n + 2) = false := decide_eq_false (by omega)
      have t2 : decide ((bs.length : Int) > q + n + 2) = false := decide_eq_false (by omega)
      have HQ : Hid (q.toNat ≤ bs.length - 2) := Lib.hid (by omega)
      have HS := Lib.hid ((RA.new w1 #[.int .i64 g, .int .i64 c, .int .i64 m, .slice none 0 0] 26))
      have hsz := hn
      clear hz
      go_wp2_with fail
      refine (O.out _ HG2.out).mono ?_
      rintro e w3 ⟨u, rfl, hu, hg3⟩
      have HG3 := Lib.hid (gtrans HG2.out hg3)
      have HR3 := Lib.hid (HR.out.later hg3)
      have S3 := HS.out.later hg3
      rcases k2 with ⟨k2, rfl⟩ | ⟨k2, rfl⟩
      · generalize hE : (Cr.op bs).2 = E3 at *
        have HE := Lib.hid hE
        clear hE
        have t3 : (E3 != 0) = true := by simpa using k2
        obtain ⟨a3, c3', rfl, _⟩ := hu.len
        have c0 := HR3.out.cell 0 _ rfl
        have c1 := HR3.out.cell 1 _ rfl
        have c2 := HR3.out.cell 2 _ rfl
        have c3 := HR3.out.cell 3 _ rfl
        have f0 := HR3.out.froz 0
        have f1 := HR3.out.froz 1
        have f2 := HR3.out.froz 2
        have f3 := HR3.out.froz 3
        clear k2 hu hg3 S3
        go_wp2_with fail
        refine bodyPost_ret (results_rt (P := Tryd.prog) (fn := Tryd.f19) Tryd.results19 _ _ w.heap.size 26 _ _ _ rfl rfl (HR3.out.set4 _ _ _ _) Tryd.underlying26 rfl (by kernel_rfl)) rfl ?_
        exact ⟨.agg #[.int .i64 0, .int .i64 0, .int .i64 0, .slice none 0 0], by rw [HE.out]; rfl, rk_zero _, later_set4 HG3.out (Nat.le_refl _) _ _ _ _⟩
      · have hq : q.toNat ≤ (Cr.op bs).1.length := by
          rw [op_take bs k2, List.length_take]
          have := HQ.out
          omega
        obtain ⟨qn, rfl⟩ := Int.eq_ofNat_of_zero_le q0
        rw [Int.toNat_natCast] at hq
        obtain ⟨a3, c3', u2, rfl, sl, hu2⟩ := cut_l hu qn hq
        rw [k2]
        obtain ⟨a4, c4', rfl, _⟩ := hu2.len
        have HU := Lib.hid hu2
        have hlt : w.heap.size < w1.heap.size := by
          have := HLT.out.size
          rwa [World.size_alloc] at this
        have hne : w.heap.size ≠ w1.heap.size := by omega
        generalize (Cr.op bs).1.length = ln at *
        generalize ((Cr.op bs).1.drop qn).length = l4 at *
        have c0 := HR3.out.cell 0 _ rfl
        have c1 := HR3.out.cell 1 _ rfl
        have c2 := HR3.out.cell 2 _ rfl
        have c3 := HR3.out.cell 3 _ rfl
        have f0 := HR3.out.froz 0
        have f1 := HR3.out.froz 1
        have f2 := HR3.out.froz 2
        have f3 := HR3.out.froz 3
        have sc0 := S3.cell 0 _ rfl
        have sc1 := S3.cell 1 _ rfl
        have sc2 := S3.cell 2 _ rfl
        have sc3 := S3.cell 3 _ rfl
        have sf0 := S3.froz 0
        have sf1 := S3.froz 1
        have sf2 := S3.froz 2
        have sf3 := S3.froz 3
        have HS3 := Lib.hid S3
        clear k2 hu hg3 S3 hu2 hq
        go_wp2_with fail
        have R4 := HR3.out.other hne 3 (.slice a4 l4 c4')
        have K4 := sk_out HU.out HS3.out (nb4 _ _ _ _ _ _) ((Out.refl _ w3).set 3 (.slice a4 l4 c4'))
        refine bodyPost_ret (results_rt (P := Tryd.prog) (fn := Tryd.f19) Tryd.results19 _ _ w.heap.size 26 _ _ _ rfl rfl (R4.set4 _ _ _ _) Tryd.underlying26 rfl (by kernel_rfl)) rfl ?_
        exact ⟨_, rfl, ⟨_, rfl, sk_out K4 R4 (nb4 _ _ _ _ _ _) (Out.set4 _ _ _ _ _ _)⟩, later_set4 (later_set HG3.out (by omega) _ _) (Nat.le_refl _) _ _ _ _⟩

theorem pread_any (bs : List Int) (hb : By bs) (hn : bs.length ≤ 20000) (v : Value) (w : World) (hs : Sk .u8 w v bs) (hL : Laid w) :
    Calls Tryd.prog 19 #[v] w fun e w' => ∃ u, e = .returned (.tuple #[u, .int .i64 (rd bs).2]) ∧ Rk w' u (rd bs).1 ∧ Later w w' := by
  rcases head_split bs hb with ⟨E, h0, hr, K⟩ | ⟨g, c, m, p, _, hr, K⟩
  · rw [hr]
    refine (read_head bs E h0 K v w hs).mono ?_
    rintro e w' ⟨rfl, hg⟩
    exact ⟨_, rfl, rk_zero _, hg⟩
  · rw [hr]
    exact read_tail bs hb hn g c m p K v w hs hL

end Go.Proofs.YtdljmpaabpkmkaaDoor.Fls
