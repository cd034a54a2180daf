/-
  What Write makes of a flash, by the program. Conditions: the table lies where the program lays it; the bytes are bytes, and at most 20000 each.
-/
import Derived.Test.YtdljmpaabpkmkaaDoorFv
namespace Go.Proofs.YtdljmpaabpkmkaaDoor.Fls
set_option maxRecDepth 100000
open Go.ChangeShapes Go.WideShapes Go.ChangeAt Go.RowKit
open Go.Proofs.YtdljmpaabpkmkaaDoor.Divs Go.Proofs.YtdljmpaabpkmkaaDoor.Grow Go.Proofs.YtdljmpaabpkmkaaDoor.By Go.Proofs.YtdljmpaabpkmkaaDoor.Wi Go.Proofs.YtdljmpaabpkmkaaDoor.Fa Go.Proofs.YtdljmpaabpkmkaaDoor.Each
open Go.Proofs.YtdljmpaabpkmkaaDoor.Crc (Laid)

theorem pwrite_no (a b : List Int) (r : Rc) (cut : Int) (u v : Value) (w : World) (hs : Fv w u a b) (hr : Rk w v r) (hm : may r = false) :
    Calls Tryd.prog 11 #[u, v, .int .i64 cut] w fun e w' => e = .returned (.tuple #[.agg #[.slice none 0 0, .slice none 0 0], .bool false, .int .i64 120]) ∧ Later w w' := by
  obtain ⟨x, y, rfl, hx1, hy1⟩ := hs
  obtain ⟨z, rfl, hz1⟩ := hr
  obtain ⟨a1, k1, rfl, _⟩ := hx1.len
  obtain ⟨a2, k2, rfl, _⟩ := hy1.len
  obtain ⟨a3, k3, rfl, _⟩ := hz1.len
  have K := Lib.hid (fun W (g : Later w W) => pcode_no r _ W ⟨_, rfl, hz1.later g⟩ hm)
  clear hx1 hy1 hz1 hm
  generalize a.length = la at *
  generalize b.length = lb at *
  generalize r.b.length = ln at *
  have HL0 : Hid (Later w (((w.alloc (.cells #[.slice a1 la k1, .slice a2 lb k2] 24)).alloc (.cells #[.int .i64 r.g, .int .i64 r.c, .int .i64 r.m, .slice a3 ln k3] 26)).alloc (.cells #[.slice none 0 0, .slice none 0 0] 24))) := Lib.hid ((((Later.refl w).put _).put _).put _)
  have HF0 : Hid (RA (((w.alloc (.cells #[.slice a1 la k1, .slice a2 lb k2] 24)).alloc (.cells #[.int .i64 r.g, .int .i64 r.c, .int .i64 r.m, .slice a3 ln k3] 26)).alloc (.cells #[.slice none 0 0, .slice none 0 0] 24)) w.heap.size #[.slice a1 la k1, .slice a2 lb k2] 24) := Lib.hid ((RA.new w _ _).later (((Later.refl _).put _).put _))
  have HB0 : Hid (RA (((w.alloc (.cells #[.slice a1 la k1, .slice a2 lb k2] 24)).alloc (.cells #[.int .i64 r.g, .int .i64 r.c, .int .i64 r.m, .slice a3 ln k3] 26)).alloc (.cells #[.slice none 0 0, .slice none 0 0] 24)) (w.heap.size + 1) #[.int .i64 r.g, .int .i64 r.c, .int .i64 r.m, .slice a3 ln k3] 26) := Lib.hid (by
    have := (RA.new (w.alloc (.cells #[.slice a1 la k1, .slice a2 lb k2] 24)) #[.int .i64 r.g, .int .i64 r.c, .int .i64 r.m, .slice a3 ln k3] 26).later ((Later.refl _).put (.cells #[.slice none 0 0, .slice none 0 0] 24))
    rwa [World.size_alloc] at this)
  have HR0 : Hid (RA (((w.alloc (.cells #[.slice a1 la k1, .slice a2 lb k2] 24)).alloc (.cells #[.int .i64 r.g, .int .i64 r.c, .int .i64 r.m, .slice a3 ln k3] 26)).alloc (.cells #[.slice none 0 0, .slice none 0 0] 24)) (w.heap.size + 1 + 1) #[.slice none 0 0, .slice none 0 0] 24) := Lib.hid (by
    have := RA.new ((w.alloc (.cells #[.slice a1 la k1, .slice a2 lb k2] 24)).alloc (.cells #[.int .i64 r.g, .int .i64 r.c, .int .i64 r.m, .slice a3 ln k3] 26)) #[.slice none 0 0, .slice none 0 0] 24
    rwa [World.size_alloc, World.size_alloc] at this)
  go_enter Tryd.func11, Tryd.ntmps11
  go_wp2_with fail
  refine (K.out _ HL0.out).mono ?_
  rintro e w1 ⟨rfl, hg1⟩
  have HR1 := Lib.hid (HR0.out.later hg1)
  have c0 := HR1.out.cell 0 _ rfl
  have c1 := HR1.out.cell 1 _ rfl
  have f0 := HR1.out.froz 0
  have f1 := HR1.out.froz 1
  go_wp2_with fail
  refine bodyPost_ret (results_rtt (P := Tryd.prog) (fn := Tryd.f11) Tryd.results11 _ _ (w.heap.size + 1 + 1) 24 _ _ _ _ rfl rfl rfl (HR1.out.set2 _ _) Tryd.underlying24 rfl (by kernel_rfl)) rfl ?_
  exact ⟨rfl, later_set2 (gtrans HL0.out hg1) (by omega) _ _⟩

set_option maxHeartbeats 2000000 in
theorem pwrite_yes (a b : List Int) (r : Rc) (cut : Int) (u v : Value) (w : World) (hs : Fv w u a b) (hr : Rk w v r) (hm : may r = true) (hf : Fit r) (ha : By a) (hb : By b) (na : a.length ≤ 20000) (nb : b.length ≤ 20000) (hL : Laid w) :
    Calls Tryd.prog 11 #[u, v, .int .i64 cut] w fun e w' => ∃ q, e = .returned (.tuple #[q, .bool (decide (wE a b r = 0) && al r cut), .int .i64 (wE a b r)]) ∧ Fv w' q (if wE a b r = 0 then wa a b r cut else []) (if wE a b r = 0 then wb a b r cut else []) ∧ Later w w' := by
  obtain ⟨x, y, rfl, hx1, hy1⟩ := hs
  obtain ⟨z, rfl, hz1⟩ := hr
  obtain ⟨a1, k1, rfl, _⟩ := hx1.len
  obtain ⟨a2, k2, rfl, _⟩ := hy1.len
  obtain ⟨a3, k3, rfl, _⟩ := hz1.len
  have K := Lib.hid (fun W (g : Later w W) => pcode_yes r _ W ⟨_, rfl, hz1.later g⟩ hm hf (hL.grown g))
  have KR := Lib.hid (fun W (g : Later w W) => precover_any a b ha hb na nb _ W ⟨_, _, rfl, hx1.later g, hy1.later g⟩ (hL.grown g))
  have hcl := co_len hm
  have hcp : 2 ≤ (co r).length := by unfold co; rw [Cr.se_len]; omega
  have KW := Lib.hid (fun k o (hk : Chose k o) (ho : o = 0 ∨ o = 1) c W (g : Later w W) (hc : Sk .u8 W c (co r)) => writeslot_any k o hk a b (co r) cut na nb (by omega) _ c W ⟨_, _, rfl, hx1.later g, hy1.later g⟩ hc ho)
  have HAL : Hid (((((co r).take cut.toNat).length : Int) == ((co r).length : Int)) = al r cut) := Lib.hid (by
    unfold al
    rw [List.length_take]
    by_cases h : ((co r).length : Int) ≤ cut
    · rw [decide_eq_true h]
      simp
      omega
    · rw [decide_eq_false h]
      simp
      omega)
  have HWA : Hid (wE a b r = if (lt a b).2.2 = true ∧ r.g ≤ (lt a b).1.g then 124 else 0) := Lib.hid (by unfold wE; rw [if_pos hm])
  have HWW : Hid (wa a b r cut = (if fi a b = true then (co r).take cut.toNat else a) ∧ wb a b r cut = (if fi a b = true then b else (co r).take cut.toNat)) := Lib.hid ⟨rfl, rfl⟩
  have HFI : Hid (fi a b = !((lt a b).2.2 && !(lt a b).2.1)) := Lib.hid rfl
  have HLN : Hid ((lt a b).2.2 = false → (lt a b).2.1 = false) := Lib.hid (fun h => by rw [lt_none h])
  obtain ⟨E, hE⟩ : ∃ E, wE a b r = E := ⟨_, rfl⟩
  obtain ⟨X, hX⟩ : ∃ X, (if wE a b r = 0 then wa a b r cut else []) = X := ⟨_, rfl⟩
  obtain ⟨Y, hY⟩ : ∃ Y, (if wE a b r = 0 then wb a b r cut else []) = Y := ⟨_, rfl⟩
  obtain ⟨D, hD⟩ : ∃ D, (decide (wE a b r = 0) && al r cut) = D := ⟨_, rfl⟩
  rw [hX, hY, hD, hE]
  have HE := Lib.hid hE
  have HXX := Lib.hid hX
  have HYY := Lib.hid hY
  have HDD := Lib.hid hD
  obtain ⟨L, hLL⟩ : ∃ L, lt a b = L := ⟨_, rfl⟩
  rw [hLL] at HWA HFI HLN
  simp only [hLL] at KR
  obtain ⟨lr, S, H⟩ := L
  simp only at KR HWA HFI HLN
  clear hx1 hy1 hz1 hm hf ha hb na nb hL hcl hcp hLL hE hX hY hD
  generalize a.length = la at *
  generalize b.length = lb at *
  generalize r.b.length = ln at *
  generalize ((co r).take cut.toNat).length = M at *
  have HL0 : Hid (Later w (((w.alloc (.cells #[.slice a1 la k1, .slice a2 lb k2] 24)).alloc (.cells #[.int .i64 r.g, .int .i64 r.c, .int .i64 r.m, .slice a3 ln k3] 26)).alloc (.cells #[.slice none 0 0, .slice none 0 0] 24))) := Lib.hid ((((Later.refl w).put _).put _).put _)
  have HF0 : Hid (RA (((w.alloc (.cells #[.slice a1 la k1, .slice a2 lb k2] 24)).alloc (.cells #[.int .i64 r.g, .int .i64 r.c, .int .i64 r.m, .slice a3 ln k3] 26)).alloc (.cells #[.slice none 0 0, .slice none 0 0] 24)) w.heap.size #[.slice a1 la k1, .slice a2 lb k2] 24) := Lib.hid ((RA.new w _ _).later (((Later.refl _).put _).put _))
  have HB0 : Hid (RA (((w.alloc (.cells #[.slice a1 la k1, .slice a2 lb k2] 24)).alloc (.cells #[.int .i64 r.g, .int .i64 r.c, .int .i64 r.m, .slice a3 ln k3] 26)).alloc (.cells #[.slice none 0 0, .slice none 0 0] 24)) (w.heap.size + 1) #[.int .i64 r.g, .int .i64 r.c, .int .i64 r.m, .slice a3 ln k3] 26) := Lib.hid (by
    have := (RA.new (w.alloc (.cells #[.slice a1 la k1, .slice a2 lb k2] 24)) #[.int .i64 r.g, .int .i64 r.c, .int .i64 r.m, .slice a3 ln k3] 26).later ((Later.refl _).put (.cells #[.slice none 0 0, .slice none 0 0] 24))
    rwa [World.size_alloc] at this)
  have HR0 : Hid (RA (((w.alloc (.cells #[.slice a1 la k1, .slice a2 lb k2] 24)).alloc (.cells #[.int .i64 r.g, .int .i64 r.c, .int .i64 r.m, .slice a3 ln k3] 26)).alloc (.cells #[.slice none 0 0, .slice none 0 0] 24)) (w.heap.size + 1 + 1) #[.slice none 0 0, .slice none 0 0] 24) := Lib.hid (by
    have := RA.new ((w.alloc (.cells #[.slice a1 la k1, .slice a2 lb k2] 24)).alloc (.cells #[.int .i64 r.g, .int .i64 r.c, .int .i64 r.m, .slice a3 ln k3] 26)) #[.slice none 0 0, .slice none 0 0] 24
    rwa [World.size_alloc, World.size_alloc] at this)
  go_enter Tryd.func11, Tryd.ntmps11
  go_wp2_with fail
  refine (K.out _ HL0.out).mono ?_
  rintro e w1 ⟨c, rfl, hc, hg1⟩
  obtain ⟨ac, kc, rfl, _⟩ := hc.len
  generalize (co r).length = lc at *
  have HG1 := Lib.hid (gtrans HL0.out hg1)
  have HF1 := Lib.hid (HF0.out.later hg1)
  have HB1 := Lib.hid (HB0.out.later hg1)
  have HR1 := Lib.hid (HR0.out.later hg1)
  have HC1 := Lib.hid hc
  have c0 := HF1.out.cell 0 _ rfl
  have c1 := HF1.out.cell 1 _ rfl
  have f0 := HF1.out.froz 0
  have f1 := HF1.out.froz 1
  clear hg1 hc
  go_wp2_with fail
  clear c0 c1 f0 f1
  refine (KR.out _ HG1.out).mono ?_
  rintro e w2 ⟨q, rfl, ⟨y, rfl, hy⟩, hg2⟩
  obtain ⟨b1, j1, rfl, _⟩ := hy.len
  generalize lr.b.length = n1 at *
  have HP2 : Hid (Later w2 (w2.alloc (.cells #[.int .i64 lr.g, .int .i64 lr.c, .int .i64 lr.m, .slice b1 n1 j1] 26))) := Lib.hid ((Later.refl _).put _)
  have HG2 := Lib.hid (gtrans HG1.out (gtrans hg2 HP2.out))
  have HF2 := Lib.hid (HF1.out.later (gtrans hg2 HP2.out))
  have HB2 := Lib.hid (HB1.out.later (gtrans hg2 HP2.out))
  have HR2 := Lib.hid (HR1.out.later (gtrans hg2 HP2.out))
  have HC2 := Lib.hid (HC1.out.later (gtrans hg2 HP2.out))
  have HX2 : Hid (RA (w2.alloc (.cells #[.int .i64 lr.g, .int .i64 lr.c, .int .i64 lr.m, .slice b1 n1 j1] 26)) w2.heap.size #[.int .i64 lr.g, .int .i64 lr.c, .int .i64 lr.m, .slice b1 n1 j1] 26) := Lib.hid (RA.new w2 _ _)
  clear hy hg2
  cases H with
  | false =>
    obtain rfl := HLN.out rfl
    have c0 := HF2.out.cell 0 _ rfl
    have c1 := HF2.out.cell 1 _ rfl
    have f0 := HF2.out.froz 0
    have f1 := HF2.out.froz 1
    go_wp2_with fail
    refine (KW.out _ _ chose_first (.inl rfl) _ _ HG2.out HC2.out).mono ?_
    rintro e w3 ⟨q3, rfl, ⟨v1, v2, rfl, hv1, hv2⟩, hg3⟩
    obtain ⟨e1, f1, rfl, _⟩ := hv1.len
    obtain ⟨e2, f2, rfl, _⟩ := hv2.len
    have HV1 := Lib.hid hv1
    have HV2 := Lib.hid hv2
    generalize (if 0 = 0 then List.take cut.toNat (co r) else a).length = m1 at *
    generalize (if 0 = 0 then b else List.take cut.toNat (co r)).length = m2 at *
    have HP3 : Hid (Later w3 (w3.alloc (.cells #[.slice e1 m1 f1, .slice e2 m2 f2] 24))) := Lib.hid ((Later.refl _).put _)
    have HG3 := Lib.hid (gtrans HG2.out (gtrans hg3 HP3.out))
    have HR3 := Lib.hid (HR2.out.later (gtrans hg3 HP3.out))
    have c0 := HR3.out.cell 0 _ rfl
    have c1 := HR3.out.cell 1 _ rfl
    have f0 := HR3.out.froz 0
    have f1 := HR3.out.froz 1
    clear hv1 hv2 hg3
    go_wp2_with fail
    refine bodyPost_ret (results_rtt (P := Tryd.prog) (fn := Tryd.f11) Tryd.results11 _ _ (w.heap.size + 1 + 1) 24 _ _ _ _ rfl rfl rfl (HR3.out.set2 _ _) Tryd.underlying24 rfl (by kernel_rfl)) rfl ?_
    have hW : wE a b r = 0 := by rw [HWA.out]; simp
    have eE : E = 0 := HE.out.symm.trans hW
    have eX : X = (co r).take cut.toNat := by rw [← HXX.out, if_pos hW, HWW.out.1, HFI.out]; rfl
    have eY : Y = b := by rw [← HYY.out, if_pos hW, HWW.out.2, HFI.out]; rfl
    have eD : D = ((M : Int) == (lc : Int)) := by rw [← HDD.out, hW, HAL.out]; rfl
    rw [eE, eX, eY, eD]
    refine ⟨_, rfl, ⟨_, _, rfl, ?_, ?_⟩, later_set2 HG3.out (by omega) _ _⟩
    · exact sk_out (HV1.out.later HP3.out) HR3.out (nb2 _ _ _ _ _ _) (Out.set2 _ _ _ _)
    · exact sk_out (HV2.out.later HP3.out) HR3.out (nb2 _ _ _ _ _ _) (Out.set2 _ _ _ _)
  | true =>
    by_cases hg : r.g ≤ lr.g
    · have pc0 := HB2.out.cell 0 _ rfl
      have qc0 := HX2.out.cell 0 _ rfl
      have c0 := HR2.out.cell 0 _ rfl
      have c1 := HR2.out.cell 1 _ rfl
      have f0 := HR2.out.froz 0
      have f1 := HR2.out.froz 1
      have HGG := Lib.hid hg
      go_wp2_with fail
      refine bodyPost_ret (results_rtt (P := Tryd.prog) (fn := Tryd.f11) Tryd.results11 _ _ (w.heap.size + 1 + 1) 24 _ _ _ _ rfl rfl rfl (HR2.out.set2 _ _) Tryd.underlying24 rfl (by kernel_rfl)) rfl ?_
      have hW : wE a b r = 124 := by rw [HWA.out]; have := HGG.out; simp [this]
      have eE : E = 124 := HE.out.symm.trans hW
      have eX : X = [] := by rw [← HXX.out, hW]; rfl
      have eY : Y = [] := by rw [← HYY.out, hW]; rfl
      have eD : D = false := by rw [← HDD.out, hW]; rfl
      rw [eE, eX, eY, eD]
      exact ⟨_, rfl, ⟨_, _, rfl, sk_nil _ _, sk_nil _ _⟩, later_set2 HG2.out (by omega) _ _⟩
    · have HGG := Lib.hid hg
      have pc0 := HB2.out.cell 0 _ rfl
      have qc0 := HX2.out.cell 0 _ rfl
      cases S with
      | true =>
        have c0 := HF2.out.cell 0 _ rfl
        have c1 := HF2.out.cell 1 _ rfl
        have f0 := HF2.out.froz 0
        have f1 := HF2.out.froz 1
        go_wp2_with fail
        refine (KW.out _ _ chose_first (.inl rfl) _ _ HG2.out HC2.out).mono ?_
        rintro e w3 ⟨q3, rfl, ⟨v1, v2, rfl, hv1, hv2⟩, hg3⟩
        obtain ⟨e1, f1, rfl, _⟩ := hv1.len
        obtain ⟨e2, f2, rfl, _⟩ := hv2.len
        have HV1 := Lib.hid hv1
        have HV2 := Lib.hid hv2
        generalize (if 0 = 0 then List.take cut.toNat (co r) else a).length = m1 at *
        generalize (if 0 = 0 then b else List.take cut.toNat (co r)).length = m2 at *
        have HP3 : Hid (Later w3 (w3.alloc (.cells #[.slice e1 m1 f1, .slice e2 m2 f2] 24))) := Lib.hid ((Later.refl _).put _)
        have HG3 := Lib.hid (gtrans HG2.out (gtrans hg3 HP3.out))
        have HR3 := Lib.hid (HR2.out.later (gtrans hg3 HP3.out))
        have c0 := HR3.out.cell 0 _ rfl
        have c1 := HR3.out.cell 1 _ rfl
        have f0 := HR3.out.froz 0
        have f1 := HR3.out.froz 1
        clear hv1 hv2 hg3
        go_wp2_with fail
        refine bodyPost_ret (results_rtt (P := Tryd.prog) (fn := Tryd.f11) Tryd.results11 _ _ (w.heap.size + 1 + 1) 24 _ _ _ _ rfl rfl rfl (HR3.out.set2 _ _) Tryd.underlying24 rfl (by kernel_rfl)) rfl ?_
        have hW : wE a b r = 0 := by rw [HWA.out]; simp; omega
        have eE : E = 0 := HE.out.symm.trans hW
        have eX : X = (co r).take cut.toNat := by rw [← HXX.out, if_pos hW, HWW.out.1, HFI.out]; rfl
        have eY : Y = b := by rw [← HYY.out, if_pos hW, HWW.out.2, HFI.out]; rfl
        have eD : D = ((M : Int) == (lc : Int)) := by rw [← HDD.out, hW, HAL.out]; rfl
        rw [eE, eX, eY, eD]
        refine ⟨_, rfl, ⟨_, _, rfl, ?_, ?_⟩, later_set2 HG3.out (by omega) _ _⟩
        · exact sk_out (HV1.out.later HP3.out) HR3.out (nb2 _ _ _ _ _ _) (Out.set2 _ _ _ _)
        · exact sk_out (HV2.out.later HP3.out) HR3.out (nb2 _ _ _ _ _ _) (Out.set2 _ _ _ _)
      | false =>
        have c0 := HF2.out.cell 0 _ rfl
        have c1 := HF2.out.cell 1 _ rfl
        have f0 := HF2.out.froz 0
        have f1 := HF2.out.froz 1
        go_wp2_with fail
        refine (KW.out _ _ chose_second (.inr rfl) _ _ HG2.out HC2.out).mono ?_
        rintro e w3 ⟨q3, rfl, ⟨v1, v2, rfl, hv1, hv2⟩, hg3⟩
        obtain ⟨e1, f1, rfl, _⟩ := hv1.len
        obtain ⟨e2, f2, rfl, _⟩ := hv2.len
        have HV1 := Lib.hid hv1
        have HV2 := Lib.hid hv2
        generalize (if 1 = 0 then List.take cut.toNat (co r) else a).length = m1 at *
        generalize (if 1 = 0 then b else List.take cut.toNat (co r)).length = m2 at *
        have HP3 : Hid (Later w3 (w3.alloc (.cells #[.slice e1 m1 f1, .slice e2 m2 f2] 24))) := Lib.hid ((Later.refl _).put _)
        have HG3 := Lib.hid (gtrans HG2.out (gtrans hg3 HP3.out))
        have HR3 := Lib.hid (HR2.out.later (gtrans hg3 HP3.out))
        have c0 := HR3.out.cell 0 _ rfl
        have c1 := HR3.out.cell 1 _ rfl
        have f0 := HR3.out.froz 0
        have f1 := HR3.out.froz 1
        clear hv1 hv2 hg3
        go_wp2_with fail
        refine bodyPost_ret (results_rtt (P := Tryd.prog) (fn := Tryd.f11) Tryd.results11 _ _ (w.heap.size + 1 + 1) 24 _ _ _ _ rfl rfl rfl (HR3.out.set2 _ _) Tryd.underlying24 rfl (by kernel_rfl)) rfl ?_
        have hW : wE a b r = 0 := by rw [HWA.out]; simp; omega
        have eE : E = 0 := HE.out.symm.trans hW
        have eX : X = a := by rw [← HXX.out, if_pos hW, HWW.out.1, HFI.out]; rfl
        have eY : Y = (co r).take cut.toNat := by rw [← HYY.out, if_pos hW, HWW.out.2, HFI.out]; rfl
        have eD : D = ((M : Int) == (lc : Int)) := by rw [← HDD.out, hW, HAL.out]; rfl
        rw [eE, eX, eY, eD]
        refine ⟨_, rfl, ⟨_, _, rfl, ?_, ?_⟩, later_set2 HG3.out (by omega) _ _⟩
        · exact sk_out (HV1.out.later HP3.out) HR3.out (nb2 _ _ _ _ _ _) (Out.set2 _ _ _ _)
        · exact sk_out (HV2.out.later HP3.out) HR3.out (nb2 _ _ _ _ _ _) (Out.set2 _ _ _ _)

end Go.Proofs.YtdljmpaabpkmkaaDoor.Fls
