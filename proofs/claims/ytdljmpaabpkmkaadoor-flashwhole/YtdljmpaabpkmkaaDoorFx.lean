/-
  The latest record of both slots, by the document's reckoning. Conditions: the bytes are bytes, and at most 20000 each.
-/
import Derived.Test.YtdljmpaabpkmkaaDoorFr
import Derived.Test.YtdljmpaabpkmkaaDoorFt
namespace Go.Proofs.YtdljmpaabpkmkaaDoor.Fls
set_option maxRecDepth 100000
open Go.ChangeShapes Go.WideShapes Go.ChangeAt Go.RowKit
open Go.Proofs.YtdljmpaabpkmkaaDoor.Divs Go.Proofs.YtdljmpaabpkmkaaDoor.Grow Go.Proofs.YtdljmpaabpkmkaaDoor.By Go.Proofs.YtdljmpaabpkmkaaDoor.Wi Go.Proofs.YtdljmpaabpkmkaaDoor.Fa

/-- What the reference tells of a flash. -/
def Lv (W : World) (v : Value) (L : Rc × Bool × Bool) : Prop := ∃ u, v = .agg #[.int .i64 L.1.g, .int .i64 L.1.c, .int .i64 L.1.m, u, .bool L.2.1, .bool L.2.2] ∧ Sk .u8 W u L.1.b

theorem Lv.later {W W' : World} {v : Value} {L : Rc × Bool × Bool} (h : Lv W v L) (g : Later W W') : Lv W' v L := by
  obtain ⟨u, rfl, hu⟩ := h
  exact ⟨u, rfl, hu.later g⟩

theorem nb6 (a b c : Int) (ad : Option Addr) (l k : Nat) (p q : Bool) : Nb #[.int .i64 a, .int .i64 b, .int .i64 c, .slice ad l k, .bool p, .bool q] := by
  intro i x
  match i with
  | 0 => simp
  | 1 => simp
  | 2 => simp
  | 3 => simp
  | 4 => simp
  | 5 => simp
  | n + 6 => simp

theorem RA.set6 {W : World} {g : Nat} {t : TypeId} {u0 u1 u2 u3 u4 u5 : Value} (h : RA W g #[u0, u1, u2, u3, u4, u5] t) (v0 v1 v2 v3 v4 v5 : Value) :
    RA ((((((W.setCell ⟨g, 0, none⟩ v0).setCell ⟨g, 1, none⟩ v1).setCell ⟨g, 2, none⟩ v2).setCell ⟨g, 3, none⟩ v3).setCell ⟨g, 4, none⟩ v4).setCell ⟨g, 5, none⟩ v5) g #[v0, v1, v2, v3, v4, v5] t := by
  have := (((((h.set 0 v0).set 1 v1).set 2 v2).set 3 v3).set 4 v4).set 5 v5
  simpa using this

theorem later_set6 {w W : World} (h : Later w W) {g : Nat} (hg : w.heap.size ≤ g) (v0 v1 v2 v3 v4 v5 : Value) : Later w ((((((W.setCell ⟨g, 0, none⟩ v0).setCell ⟨g, 1, none⟩ v1).setCell ⟨g, 2, none⟩ v2).setCell ⟨g, 3, none⟩ v3).setCell ⟨g, 4, none⟩ v4).setCell ⟨g, 5, none⟩ v5) :=
  later_set (later_set5 h hg v0 v1 v2 v3 v4) hg _ _

theorem Out.set6 (g : Nat) (W : World) (v0 v1 v2 v3 v4 v5 : Value) : Out g W ((((((W.setCell ⟨g, 0, none⟩ v0).setCell ⟨g, 1, none⟩ v1).setCell ⟨g, 2, none⟩ v2).setCell ⟨g, 3, none⟩ v3).setCell ⟨g, 4, none⟩ v4).setCell ⟨g, 5, none⟩ v5) :=
  ((((((Out.refl g W).set 0 v0).set 1 v1).set 2 v2).set 3 v3).set 4 v4).set 5 v5

theorem rrec_split (a b : List Int) :
    ((rd a).2 = 0 ∧ (rd b).2 ≠ 0 ∧ lt a b = ((rd a).1, false, true)) ∨ ((rd a).2 = 0 ∧ (rd b).2 = 0 ∧ (rd b).1.g ≤ (rd a).1.g ∧ lt a b = ((rd a).1, false, true)) ∨
    ((rd a).2 = 0 ∧ (rd b).2 = 0 ∧ (rd a).1.g < (rd b).1.g ∧ lt a b = ((rd b).1, true, true)) ∨ ((rd a).2 ≠ 0 ∧ (rd b).2 = 0 ∧ lt a b = ((rd b).1, true, true)) ∨ ((rd a).2 ≠ 0 ∧ (rd b).2 ≠ 0 ∧ lt a b = (r0, false, false)) := by
  unfold lt
  by_cases h1 : (rd a).2 = 0
  · by_cases h2 : (rd b).2 = 0
    · by_cases h3 : (rd b).1.g ≤ (rd a).1.g
      · right; left
        exact ⟨h1, h2, h3, by rw [if_pos ⟨h1, .inr h3⟩]⟩
      · right; right; left
        exact ⟨h1, h2, by omega, by rw [if_neg (by rintro ⟨_, k | k⟩; exact k h2; exact h3 k), if_pos h2]⟩
    · left
      exact ⟨h1, h2, by rw [if_pos ⟨h1, .inl h2⟩]⟩
  · by_cases h2 : (rd b).2 = 0
    · right; right; right; left
      exact ⟨h1, h2, by rw [if_neg (fun k => h1 k.1), if_pos h2]⟩
    · right; right; right; right
      exact ⟨h1, h2, by rw [if_neg (fun k => h1 k.1), if_neg h2]⟩

set_option maxHeartbeats 1000000 in
theorem rrecover_any (a b : List Int) (ha : By a) (hb : By b) (na : a.length ≤ 20000) (nb : b.length ≤ 20000) (v : Value) (w : World) (hs : Fv w v a b) :
    Calls Tryd.prog 15 #[v] w fun e w' => ∃ u, e = .returned u ∧ Lv w' u (lt a b) ∧ Later w w' := by
  obtain ⟨u, x, rfl, hu, hx⟩ := hs
  obtain ⟨a1, k1, rfl, _⟩ := hu.len
  obtain ⟨a2, k2, rfl, _⟩ := hx.len
  have K1 := Lib.hid (fun W (g : Later w W) => rread_any a ha na _ W (hu.later g))
  have K2 := Lib.hid (fun W (g : Later w W) => rread_any b hb nb _ W (hx.later g))
  have T := rrec_split a b
  obtain ⟨D, hD⟩ : ∃ D, lt a b = D := ⟨_, rfl⟩
  obtain ⟨ra, hra⟩ : ∃ r, (rd a).1 = r := ⟨_, rfl⟩
  obtain ⟨rb, hrb⟩ : ∃ r, (rd b).1 = r := ⟨_, rfl⟩
  obtain ⟨Ea, hEa⟩ : ∃ r, (rd a).2 = r := ⟨_, rfl⟩
  obtain ⟨Eb, hEb⟩ : ∃ r, (rd b).2 = r := ⟨_, rfl⟩
  simp only [hD, hra, hrb, hEa, hEb] at T K1 K2 ⊢
  have HT := Lib.hid T
  clear hu hx ha hb na nb hD hra hrb hEa hEb T
  generalize a.length = la at *
  generalize b.length = lb at *
  have HL0 : Hid (Later w ((w.alloc (.cells #[.slice a1 la k1, .slice a2 lb k2] 24)).alloc (.cells #[.int .i64 0, .int .i64 0, .int .i64 0, .slice none 0 0, .bool false, .bool false] 39))) := Lib.hid (((Later.refl w).put _).put _)
  have HF0 : Hid (RA ((w.alloc (.cells #[.slice a1 la k1, .slice a2 lb k2] 24)).alloc (.cells #[.int .i64 0, .int .i64 0, .int .i64 0, .slice none 0 0, .bool false, .bool false] 39)) w.heap.size #[.slice a1 la k1, .slice a2 lb k2] 24) := Lib.hid ((RA.new w _ _).later ((Later.refl _).put _))
  have HR0 : Hid (RA ((w.alloc (.cells #[.slice a1 la k1, .slice a2 lb k2] 24)).alloc (.cells #[.int .i64 0, .int .i64 0, .int .i64 0, .slice none 0 0, .bool false, .bool false] 39)) (w.heap.size + 1) #[.int .i64 0, .int .i64 0, .int .i64 0, .slice none 0 0, .bool false, .bool false] 39) := Lib.hid (by
    have := RA.new (w.alloc (.cells #[.slice a1 la k1, .slice a2 lb k2] 24)) #[.int .i64 0, .int .i64 0, .int .i64 0, .slice none 0 0, .bool false, .bool false] 39
    rwa [World.size_alloc] at this)
  go_enter Tryd.func15, Tryd.ntmps15
  go_wp2_with fail
  refine (K1.out _ HL0.out).mono ?_
  rintro e w1 ⟨u1, rfl, ⟨v1, rfl, hv1⟩, hg1⟩
  obtain ⟨b1, j1, rfl, _⟩ := hv1.len
  generalize ra.b.length = n1 at *
  have HP1 : Hid (Later w1 (w1.alloc (.cells #[.int .i64 ra.g, .int .i64 ra.c, .int .i64 ra.m, .slice b1 n1 j1, .int .i64 Ea] 63))) := Lib.hid ((Later.refl _).put _)
  have HL1 := Lib.hid (gtrans HL0.out (gtrans hg1 HP1.out))
  have HF1 := HF0.out.later (gtrans hg1 HP1.out)
  have HR1 := Lib.hid (HR0.out.later (gtrans hg1 HP1.out))
  have HB1 : Hid (RA (w1.alloc (.cells #[.int .i64 ra.g, .int .i64 ra.c, .int .i64 ra.m, .slice b1 n1 j1, .int .i64 Ea] 63)) w1.heap.size #[.int .i64 ra.g, .int .i64 ra.c, .int .i64 ra.m, .slice b1 n1 j1, .int .i64 Ea] 63) := Lib.hid (RA.new w1 _ _)
  have HV1 := Lib.hid (hv1.later HP1.out)
  have c1 := HF1.cell 1 _ rfl
  clear hv1 hg1 HF1
  go_wp2_with fail
  clear c1
  refine (K2.out _ HL1.out).mono ?_
  rintro e w2 ⟨u2, rfl, ⟨v2, rfl, hv2⟩, hg2⟩
  obtain ⟨b2, j2, rfl, _⟩ := hv2.len
  generalize rb.b.length = n2 at *
  have HP2 : Hid (Later w2 (w2.alloc (.cells #[.int .i64 rb.g, .int .i64 rb.c, .int .i64 rb.m, .slice b2 n2 j2, .int .i64 Eb] 63))) := Lib.hid ((Later.refl _).put _)
  have HG2 := Lib.hid (gtrans HL1.out (gtrans hg2 HP2.out))
  have HR2 := Lib.hid (HR1.out.later (gtrans hg2 HP2.out))
  have HB2 := Lib.hid (HB1.out.later (gtrans hg2 HP2.out))
  have HC2 : Hid (RA (w2.alloc (.cells #[.int .i64 rb.g, .int .i64 rb.c, .int .i64 rb.m, .slice b2 n2 j2, .int .i64 Eb] 63)) w2.heap.size #[.int .i64 rb.g, .int .i64 rb.c, .int .i64 rb.m, .slice b2 n2 j2, .int .i64 Eb] 63) := Lib.hid (RA.new w2 _ _)
  have HV2 := Lib.hid (hv2.later HP2.out)
  have HV3 := Lib.hid (HV1.out.later (gtrans hg2 HP2.out))
  clear HV1
  clear hv2 hg2
  rcases HT.out with ⟨rfl, h2, rfl⟩ | ⟨rfl, rfl, h3, rfl⟩ | ⟨rfl, rfl, h3, rfl⟩ | ⟨h1, rfl, rfl⟩ | ⟨h1, h2, rfl⟩
  · have t2 : (Eb != 0) = true := by simpa using h2
    have c0 := HR2.out.cell 0 _ rfl
    have c1 := HR2.out.cell 1 _ rfl
    have c2 := HR2.out.cell 2 _ rfl
    have c3 := HR2.out.cell 3 _ rfl
    have c4 := HR2.out.cell 4 _ rfl
    have c5 := HR2.out.cell 5 _ rfl
    have f0 := HR2.out.froz 0
    have f1 := HR2.out.froz 1
    have f2 := HR2.out.froz 2
    have f3 := HR2.out.froz 3
    have f4 := HR2.out.froz 4
    have f5 := HR2.out.froz 5
    have pc0 := HB2.out.cell 0 _ rfl
    have pc1 := HB2.out.cell 1 _ rfl
    have pc2 := HB2.out.cell 2 _ rfl
    have pc3 := HB2.out.cell 3 _ rfl
    have pc4 := HB2.out.cell 4 _ rfl
    have qc4 := HC2.out.cell 4 _ rfl
    go_wp2_with fail
    refine bodyPost_ret (results_r (P := Tryd.prog) (fn := Tryd.f15) Tryd.results15 _ _ (w.heap.size + 1) 39 _ _ rfl (HR2.out.set6 _ _ _ _ _ _) Tryd.underlying39 rfl (by kernel_rfl)) rfl ?_
    exact ⟨_, rfl, ⟨_, rfl, sk_out HV3.out HR2.out (nb6 _ _ _ _ _ _ _ _) (Out.set6 _ _ _ _ _ _ _ _)⟩, later_set6 HG2.out (by omega) _ _ _ _ _ _⟩
  · have t3 : decide (ra.g ≥ rb.g) = true := decide_eq_true h3
    have c0 := HR2.out.cell 0 _ rfl
    have c1 := HR2.out.cell 1 _ rfl
    have c2 := HR2.out.cell 2 _ rfl
    have c3 := HR2.out.cell 3 _ rfl
    have c4 := HR2.out.cell 4 _ rfl
    have c5 := HR2.out.cell 5 _ rfl
    have f0 := HR2.out.froz 0
    have f1 := HR2.out.froz 1
    have f2 := HR2.out.froz 2
    have f3 := HR2.out.froz 3
    have f4 := HR2.out.froz 4
    have f5 := HR2.out.froz 5
    have pc0 := HB2.out.cell 0 _ rfl
    have pc1 := HB2.out.cell 1 _ rfl
    have pc2 := HB2.out.cell 2 _ rfl
    have pc3 := HB2.out.cell 3 _ rfl
    have pc4 := HB2.out.cell 4 _ rfl
    have qc0 := HC2.out.cell 0 _ rfl
    have qc4 := HC2.out.cell 4 _ rfl
    go_wp2_with fail
    refine bodyPost_ret (results_r (P := Tryd.prog) (fn := Tryd.f15) Tryd.results15 _ _ (w.heap.size + 1) 39 _ _ rfl (HR2.out.set6 _ _ _ _ _ _) Tryd.underlying39 rfl (by kernel_rfl)) rfl ?_
    exact ⟨_, rfl, ⟨_, rfl, sk_out HV3.out HR2.out (nb6 _ _ _ _ _ _ _ _) (Out.set6 _ _ _ _ _ _ _ _)⟩, later_set6 HG2.out (by omega) _ _ _ _ _ _⟩
  · have t3 : decide (ra.g ≥ rb.g) = false := decide_eq_false (by omega)
    have c0 := HR2.out.cell 0 _ rfl
    have c1 := HR2.out.cell 1 _ rfl
    have c2 := HR2.out.cell 2 _ rfl
    have c3 := HR2.out.cell 3 _ rfl
    have c4 := HR2.out.cell 4 _ rfl
    have c5 := HR2.out.cell 5 _ rfl
    have f0 := HR2.out.froz 0
    have f1 := HR2.out.froz 1
    have f2 := HR2.out.froz 2
    have f3 := HR2.out.froz 3
    have f4 := HR2.out.froz 4
    have f5 := HR2.out.froz 5
    have pc0 := HB2.out.cell 0 _ rfl
    have pc4 := HB2.out.cell 4 _ rfl
    have qc0 := HC2.out.cell 0 _ rfl
    have qc1 := HC2.out.cell 1 _ rfl
    have qc2 := HC2.out.cell 2 _ rfl
    have qc3 := HC2.out.cell 3 _ rfl
    have qc4 := HC2.out.cell 4 _ rfl
    go_wp2_with fail
    refine bodyPost_ret (results_r (P := Tryd.prog) (fn := Tryd.f15) Tryd.results15 _ _ (w.heap.size + 1) 39 _ _ rfl (HR2.out.set6 _ _ _ _ _ _) Tryd.underlying39 rfl (by kernel_rfl)) rfl ?_
    exact ⟨_, rfl, ⟨_, rfl, sk_out HV2.out HR2.out (nb6 _ _ _ _ _ _ _ _) (Out.set6 _ _ _ _ _ _ _ _)⟩, later_set6 HG2.out (by omega) _ _ _ _ _ _⟩
  · have t1 : (Ea == 0) = false := by simpa using h1
    have c0 := HR2.out.cell 0 _ rfl
    have c1 := HR2.out.cell 1 _ rfl
    have c2 := HR2.out.cell 2 _ rfl
    have c3 := HR2.out.cell 3 _ rfl
    have c4 := HR2.out.cell 4 _ rfl
    have c5 := HR2.out.cell 5 _ rfl
    have f0 := HR2.out.froz 0
    have f1 := HR2.out.froz 1
    have f2 := HR2.out.froz 2
    have f3 := HR2.out.froz 3
    have f4 := HR2.out.froz 4
    have f5 := HR2.out.froz 5
    have pc4 := HB2.out.cell 4 _ rfl
    have qc0 := HC2.out.cell 0 _ rfl
    have qc1 := HC2.out.cell 1 _ rfl
    have qc2 := HC2.out.cell 2 _ rfl
    have qc3 := HC2.out.cell 3 _ rfl
    have qc4 := HC2.out.cell 4 _ rfl
    go_wp2_with fail
    refine bodyPost_ret (results_r (P := Tryd.prog) (fn := Tryd.f15) Tryd.results15 _ _ (w.heap.size + 1) 39 _ _ rfl (HR2.out.set6 _ _ _ _ _ _) Tryd.underlying39 rfl (by kernel_rfl)) rfl ?_
    exact ⟨_, rfl, ⟨_, rfl, sk_out HV2.out HR2.out (nb6 _ _ _ _ _ _ _ _) (Out.set6 _ _ _ _ _ _ _ _)⟩, later_set6 HG2.out (by omega) _ _ _ _ _ _⟩
  · have t1 : (Ea == 0) = false := by simpa using h1
    have t2 : (Eb == 0) = false := by simpa using h2
    have c0 := HR2.out.cell 0 _ rfl
    have c1 := HR2.out.cell 1 _ rfl
    have c2 := HR2.out.cell 2 _ rfl
    have c3 := HR2.out.cell 3 _ rfl
    have c4 := HR2.out.cell 4 _ rfl
    have c5 := HR2.out.cell 5 _ rfl
    have f0 := HR2.out.froz 0
    have f1 := HR2.out.froz 1
    have f2 := HR2.out.froz 2
    have f3 := HR2.out.froz 3
    have f4 := HR2.out.froz 4
    have f5 := HR2.out.froz 5
    have pc4 := HB2.out.cell 4 _ rfl
    have qc4 := HC2.out.cell 4 _ rfl
    go_wp2_with fail
    refine bodyPost_ret (results_r (P := Tryd.prog) (fn := Tryd.f15) Tryd.results15 _ _ (w.heap.size + 1) 39 _ _ rfl (HR2.out.set6 _ _ _ _ _ _) Tryd.underlying39 rfl (by kernel_rfl)) rfl ?_
    exact ⟨_, rfl, ⟨_, rfl, sk_nil _ _⟩, later_set6 HG2.out (by omega) _ _ _ _ _ _⟩

end Go.Proofs.YtdljmpaabpkmkaaDoor.Fls
