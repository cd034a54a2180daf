/-
  The latest record of both slots, by the program. Conditions: the table lies where the program lays it; the bytes are bytes, and at most 20000 each.
-/
import Derived.Test.YtdljmpaabpkmkaaDoorFs
namespace Go.Proofs.YtdljmpaabpkmkaaDoor.Fls
set_option maxRecDepth 100000
open Go.ChangeShapes Go.WideShapes Go.ChangeAt Go.RowKit
open Go.Proofs.YtdljmpaabpkmkaaDoor.Divs Go.Proofs.YtdljmpaabpkmkaaDoor.Grow Go.Proofs.YtdljmpaabpkmkaaDoor.By Go.Proofs.YtdljmpaabpkmkaaDoor.Wi Go.Proofs.YtdljmpaabpkmkaaDoor.Fa
open Go.Proofs.YtdljmpaabpkmkaaDoor.Crc (Laid)

theorem rec_split (a b : List Int) (ha : By a) (hb : By b) :
    ((rd a).2 ≠ 0 ∧ (rd b).2 ≠ 0 ∧ lt a b = (r0, false, false)) ∨ ((rd a).2 ≠ 0 ∧ (rd b).2 = 0 ∧ (rd a).1.g < (rd b).1.g ∧ lt a b = ((rd b).1, true, true)) ∨
    ((rd a).2 = 0 ∧ (rd a).1.g < (rd b).1.g ∧ lt a b = ((rd b).1, true, true)) ∨ ((rd a).2 = 0 ∧ ¬ (rd a).1.g < (rd b).1.g ∧ lt a b = ((rd a).1, false, true)) := by
  have e1 := fun h => rd_err a h
  have e2 := fun h => rd_err b h
  have m1 := fun h => (may_iff _).1 (co_rd a ha h).1
  have m2 := fun h => (may_iff _).1 (co_rd b hb h).1
  have z : r0.g = 0 := rfl
  unfold lt
  by_cases h1 : (rd a).2 = 0
  · by_cases h2 : (rd b).2 = 0
    · by_cases h3 : (rd a).1.g < (rd b).1.g
      · right; right; left
        refine ⟨h1, h3, ?_⟩
        rw [if_neg (by rintro ⟨_, k | k⟩; exact k h2; omega), if_pos h2]
      · right; right; right
        refine ⟨h1, h3, ?_⟩
        rw [if_pos ⟨h1, .inr (by omega)⟩]
    · right; right; right
      refine ⟨h1, ?_, ?_⟩
      · rw [e2 h2, z]
        have := (m1 h1).1
        omega
      · rw [if_pos ⟨h1, .inl h2⟩]
  · by_cases h2 : (rd b).2 = 0
    · right; left
      refine ⟨h1, h2, ?_, ?_⟩
      · rw [e1 h1, z]
        have := (m2 h2).1
        omega
      · rw [if_neg (fun k => h1 k.1), if_pos h2]
    · left
      refine ⟨h1, h2, ?_⟩
      rw [if_neg (fun k => h1 k.1), if_neg h2]

set_option maxHeartbeats 2000000 in
theorem precover_any (a b : List Int) (ha : By a) (hb : By b) (na : a.length ≤ 20000) (nb : b.length ≤ 20000) (v : Value) (w : World) (hs : Fv w v a b) (hL : Laid w) :
    Calls Tryd.prog 14 #[v] w fun e w' => ∃ u, e = .returned (.tuple #[u, .bool (lt a b).2.1, .int .i64 (if (lt a b).2.2 = true then 0 else 123)]) ∧ Rk w' u (lt a b).1 ∧ Later w w' := by
  obtain ⟨u, x, rfl, hu, hx⟩ := hs
  obtain ⟨a1, k1, rfl, _⟩ := hu.len
  obtain ⟨a2, k2, rfl, _⟩ := hx.len
  have K1 := Lib.hid (fun W (g : Later w W) => recordof_any _ 0 chose_first a b a _ a1 a2 k1 k2 rfl ha na W (hu.later g) (hL.grown g))
  have K2 := Lib.hid (fun W (g : Later w W) => recordof_any _ 1 chose_second a b b _ a1 a2 k1 k2 rfl hb nb W (hx.later g) (hL.grown g))
  have T := rec_split a b ha hb
  obtain ⟨D, hD⟩ : ∃ D, lt a b = D := ⟨_, rfl⟩
  obtain ⟨ra, hra⟩ : ∃ r, (rd a).1 = r := ⟨_, rfl⟩
  obtain ⟨rb, hrb⟩ : ∃ r, (rd b).1 = r := ⟨_, rfl⟩
  obtain ⟨Ea, hEa⟩ : ∃ r, (rd a).2 = r := ⟨_, rfl⟩
  obtain ⟨Eb, hEb⟩ : ∃ r, (rd b).2 = r := ⟨_, rfl⟩
  simp only [hD, hra, hrb, hEa, hEb] at T K1 K2 ⊢
  have HT := Lib.hid T
  clear hu hx ha hb na nb hL hD hra hrb hEa hEb T
  generalize a.length = la at *
  generalize b.length = lb at *
  have HL0 : Hid (Later w ((w.alloc (.cells #[.slice a1 la k1, .slice a2 lb k2] 24)).alloc (.cells #[.int .i64 0, .int .i64 0, .int .i64 0, .slice none 0 0] 26))) := Lib.hid (((Later.refl w).put _).put _)
  have HF0 : Hid (RA ((w.alloc (.cells #[.slice a1 la k1, .slice a2 lb k2] 24)).alloc (.cells #[.int .i64 0, .int .i64 0, .int .i64 0, .slice none 0 0] 26)) w.heap.size #[.slice a1 la k1, .slice a2 lb k2] 24) := Lib.hid ((RA.new w _ _).later ((Later.refl _).put _))
  have HR0 : Hid (RA ((w.alloc (.cells #[.slice a1 la k1, .slice a2 lb k2] 24)).alloc (.cells #[.int .i64 0, .int .i64 0, .int .i64 0, .slice none 0 0] 26)) (w.heap.size + 1) #[.int .i64 0, .int .i64 0, .int .i64 0, .slice none 0 0] 26) := Lib.hid (by
    have := RA.new (w.alloc (.cells #[.slice a1 la k1, .slice a2 lb k2] 24)) #[.int .i64 0, .int .i64 0, .int .i64 0, .slice none 0 0] 26
    rwa [World.size_alloc] at this)
  go_enter Tryd.func14, Tryd.ntmps14
  go_wp2_with fail
  refine (K1.out _ HL0.out).mono ?_
  rintro e w1 ⟨u1, rfl, ⟨v1, rfl, hv1⟩, hg1⟩
  obtain ⟨b1, j1, rfl, _⟩ := hv1.len
  generalize ra.b.length = n1 at *
  have HP1 : Hid (Later w1 (w1.alloc (.cells #[.int .i64 ra.g, .int .i64 ra.c, .int .i64 ra.m, .slice b1 n1 j1] 26))) := Lib.hid ((Later.refl _).put _)
  have HL1 := Lib.hid (gtrans HL0.out (gtrans hg1 HP1.out))
  have HF1 := HF0.out.later (gtrans hg1 HP1.out)
  have HR1 := Lib.hid (HR0.out.later (gtrans hg1 HP1.out))
  have HB1 : Hid (RA (w1.alloc (.cells #[.int .i64 ra.g, .int .i64 ra.c, .int .i64 ra.m, .slice b1 n1 j1] 26)) w1.heap.size #[.int .i64 ra.g, .int .i64 ra.c, .int .i64 ra.m, .slice b1 n1 j1] 26) := Lib.hid (RA.new w1 _ _)
  have HV1 := Lib.hid (hv1.later HP1.out)
  have c0 := HF1.cell 0 _ rfl
  have c1 := HF1.cell 1 _ rfl
  clear hv1 hg1 HF1
  go_wp2_with fail
  clear c0 c1
  refine (K2.out _ HL1.out).mono ?_
  rintro e w2 ⟨u2, rfl, ⟨v2, rfl, hv2⟩, hg2⟩
  obtain ⟨b2, j2, rfl, _⟩ := hv2.len
  generalize rb.b.length = n2 at *
  have HP2 : Hid (Later w2 (w2.alloc (.cells #[.int .i64 rb.g, .int .i64 rb.c, .int .i64 rb.m, .slice b2 n2 j2] 26))) := Lib.hid ((Later.refl _).put _)
  have HG2 := Lib.hid (gtrans HL1.out (gtrans hg2 HP2.out))
  have HR2 := Lib.hid (HR1.out.later (gtrans hg2 HP2.out))
  have HB2 := Lib.hid (HB1.out.later (gtrans hg2 HP2.out))
  have HC2 : Hid (RA (w2.alloc (.cells #[.int .i64 rb.g, .int .i64 rb.c, .int .i64 rb.m, .slice b2 n2 j2] 26)) w2.heap.size #[.int .i64 rb.g, .int .i64 rb.c, .int .i64 rb.m, .slice b2 n2 j2] 26) := Lib.hid (RA.new w2 _ _)
  have HV2 := Lib.hid (hv2.later HP2.out)
  have HV1 := Lib.hid (HV1.out.later (gtrans hg2 HP2.out))
  clear hv2 hg2
  rcases HT.out with ⟨h1, h2, rfl⟩ | ⟨h1, h2, h3, rfl⟩ | ⟨h1, h3, rfl⟩ | ⟨h1, h3, rfl⟩
  · have t1 : (Ea != 0) = true := by simpa using h1
    have t2 : (Eb != 0) = true := by simpa using h2
    have c0 := HR2.out.cell 0 _ rfl
    have c1 := HR2.out.cell 1 _ rfl
    have c2 := HR2.out.cell 2 _ rfl
    have c3 := HR2.out.cell 3 _ rfl
    have f0 := HR2.out.froz 0
    have f1 := HR2.out.froz 1
    have f2 := HR2.out.froz 2
    have f3 := HR2.out.froz 3
    clear h1 h2
    go_wp2_with fail
    refine bodyPost_ret (results_rtt (P := Tryd.prog) (fn := Tryd.f14) Tryd.results14 _ _ (w.heap.size + 1) 26 _ _ _ _ rfl rfl rfl (HR2.out.set4 _ _ _ _) Tryd.underlying26 rfl (by kernel_rfl)) rfl ?_
    exact ⟨_, rfl, rk_zero _, later_set4 HG2.out (by omega) _ _ _ _⟩
  · have t1 : (Ea != 0) = true := by simpa using h1
    subst h2
    have t3 : decide (rb.g > ra.g) = true := decide_eq_true h3
    have c0 := HR2.out.cell 0 _ rfl
    have c1 := HR2.out.cell 1 _ rfl
    have c2 := HR2.out.cell 2 _ rfl
    have c3 := HR2.out.cell 3 _ rfl
    have f0 := HR2.out.froz 0
    have f1 := HR2.out.froz 1
    have f2 := HR2.out.froz 2
    have f3 := HR2.out.froz 3
    have pc0 := HB2.out.cell 0 _ rfl
    have qc0 := HC2.out.cell 0 _ rfl
    have qc1 := HC2.out.cell 1 _ rfl
    have qc2 := HC2.out.cell 2 _ rfl
    have qc3 := HC2.out.cell 3 _ rfl
    clear h1
    go_wp2_with fail
    refine bodyPost_ret (results_rtt (P := Tryd.prog) (fn := Tryd.f14) Tryd.results14 _ _ (w.heap.size + 1) 26 _ _ _ _ rfl rfl rfl (HR2.out.set4 _ _ _ _) Tryd.underlying26 rfl (by kernel_rfl)) rfl ?_
    exact ⟨_, rfl, ⟨_, rfl, sk_out HV2.out HR2.out (nb4 _ _ _ _ _ _) (Out.set4 _ _ _ _ _ _)⟩, later_set4 HG2.out (by omega) _ _ _ _⟩
  · subst h1
    have t3 : decide (rb.g > ra.g) = true := decide_eq_true h3
    have c0 := HR2.out.cell 0 _ rfl
    have c1 := HR2.out.cell 1 _ rfl
    have c2 := HR2.out.cell 2 _ rfl
    have c3 := HR2.out.cell 3 _ rfl
    have f0 := HR2.out.froz 0
    have f1 := HR2.out.froz 1
    have f2 := HR2.out.froz 2
    have f3 := HR2.out.froz 3
    have pc0 := HB2.out.cell 0 _ rfl
    have qc0 := HC2.out.cell 0 _ rfl
    have qc1 := HC2.out.cell 1 _ rfl
    have qc2 := HC2.out.cell 2 _ rfl
    have qc3 := HC2.out.cell 3 _ rfl
    go_wp2_with fail
    refine bodyPost_ret (results_rtt (P := Tryd.prog) (fn := Tryd.f14) Tryd.results14 _ _ (w.heap.size + 1) 26 _ _ _ _ rfl rfl rfl (HR2.out.set4 _ _ _ _) Tryd.underlying26 rfl (by kernel_rfl)) rfl ?_
    exact ⟨_, rfl, ⟨_, rfl, sk_out HV2.out HR2.out (nb4 _ _ _ _ _ _) (Out.set4 _ _ _ _ _ _)⟩, later_set4 HG2.out (by omega) _ _ _ _⟩
  · subst h1
    have t3 : decide (rb.g > ra.g) = false := decide_eq_false (by omega)
    have c0 := HR2.out.cell 0 _ rfl
    have c1 := HR2.out.cell 1 _ rfl
    have c2 := HR2.out.cell 2 _ rfl
    have c3 := HR2.out.cell 3 _ rfl
    have f0 := HR2.out.froz 0
    have f1 := HR2.out.froz 1
    have f2 := HR2.out.froz 2
    have f3 := HR2.out.froz 3
    have pc0 := HB2.out.cell 0 _ rfl
    have pc1 := HB2.out.cell 1 _ rfl
    have pc2 := HB2.out.cell 2 _ rfl
    have pc3 := HB2.out.cell 3 _ rfl
    have qc0 := HC2.out.cell 0 _ rfl
    go_wp2_with fail
    refine bodyPost_ret (results_rtt (P := Tryd.prog) (fn := Tryd.f14) Tryd.results14 _ _ (w.heap.size + 1) 26 _ _ _ _ rfl rfl rfl (HR2.out.set4 _ _ _ _) Tryd.underlying26 rfl (by kernel_rfl)) rfl ?_
    exact ⟨_, rfl, ⟨_, rfl, sk_out HV1.out HR2.out (nb4 _ _ _ _ _ _) (Out.set4 _ _ _ _ _ _)⟩, later_set4 HG2.out (by omega) _ _ _ _⟩

end Go.Proofs.YtdljmpaabpkmkaaDoor.Fls
