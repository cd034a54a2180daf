/-
  What Write makes of a flash, by the document's reckoning. Conditions: the bytes are bytes, and at most 20000 each.
-/
import Derived.Test.YtdljmpaabpkmkaaDoorFx
import Derived.Test.YtdljmpaabpkmkaaDoorFe
namespace Go.Proofs.YtdljmpaabpkmkaaDoor.Fls
set_option maxRecDepth 100000
open Go.ChangeShapes Go.WideShapes Go.ChangeAt Go.RowKit
open Go.Proofs.YtdljmpaabpkmkaaDoor.Divs Go.Proofs.YtdljmpaabpkmkaaDoor.Grow Go.Proofs.YtdljmpaabpkmkaaDoor.By Go.Proofs.YtdljmpaabpkmkaaDoor.Wi Go.Proofs.YtdljmpaabpkmkaaDoor.Fa

/-- What the reference tells of a write. -/
def Wv (W : World) (v : Value) (X Y : List Int) (D : Bool) (E : Int) : Prop := ∃ x y, v = .agg #[x, y, .bool D, .int .i64 E] ∧ Sk .u8 W x X ∧ Sk .u8 W y Y

theorem nb4w (ad ad' : Option Addr) (l k l' k' : Nat) (p : Bool) (E : Int) : Nb #[.slice ad l k, .slice ad' l' k', .bool p, .int .i64 E] := by
  intro i x
  match i with
  | 0 => simp
  | 1 => simp
  | 2 => simp
  | 3 => simp
  | n + 4 => simp

theorem rwrite_no (a b : List Int) (r : Rc) (cut : Int) (u v : Value) (w : World) (hs : Fv w u a b) (hr : Rk w v r) (hm : may r = false) :
    Calls Tryd.prog 13 #[u, v, .int .i64 cut] w fun e w' => ∃ q, e = .returned q ∧ Wv w' q [] [] false 120 ∧ Later w w' := by
  obtain ⟨x, y, rfl, hx1, hy1⟩ := hs
  obtain ⟨z, rfl, hz1⟩ := hr
  obtain ⟨a1, k1, rfl, _⟩ := hx1.len
  obtain ⟨a2, k2, rfl, _⟩ := hy1.len
  obtain ⟨a3, k3, rfl, _⟩ := hz1.len
  have K := Lib.hid (fun W (g : Later w W) => rmay_any r _ W ⟨_, rfl, hz1.later g⟩)
  rw [hm] at K
  clear hx1 hy1 hz1 hm
  generalize a.length = la at *
  generalize b.length = lb at *
  generalize r.b.length = ln at *
  have HL0 : Hid (Later w (((w.alloc (.cells #[.slice a1 la k1, .slice a2 lb k2] 24)).alloc (.cells #[.int .i64 r.g, .int .i64 r.c, .int .i64 r.m, .slice a3 ln k3] 26)).alloc (.cells #[.slice none 0 0, .slice none 0 0, .bool false, .int .i64 0] 34))) := Lib.hid ((((Later.refl w).put _).put _).put _)
  have HF0 : Hid (RA (((w.alloc (.cells #[.slice a1 la k1, .slice a2 lb k2] 24)).alloc (.cells #[.int .i64 r.g, .int .i64 r.c, .int .i64 r.m, .slice a3 ln k3] 26)).alloc (.cells #[.slice none 0 0, .slice none 0 0, .bool false, .int .i64 0] 34)) w.heap.size #[.slice a1 la k1, .slice a2 lb k2] 24) := Lib.hid ((RA.new w _ _).later (((Later.refl _).put _).put _))
  have HB0 : Hid (RA (((w.alloc (.cells #[.slice a1 la k1, .slice a2 lb k2] 24)).alloc (.cells #[.int .i64 r.g, .int .i64 r.c, .int .i64 r.m, .slice a3 ln k3] 26)).alloc (.cells #[.slice none 0 0, .slice none 0 0, .bool false, .int .i64 0] 34)) (w.heap.size + 1) #[.int .i64 r.g, .int .i64 r.c, .int .i64 r.m, .slice a3 ln k3] 26) := Lib.hid (by
    have := (RA.new (w.alloc (.cells #[.slice a1 la k1, .slice a2 lb k2] 24)) #[.int .i64 r.g, .int .i64 r.c, .int .i64 r.m, .slice a3 ln k3] 26).later ((Later.refl _).put (.cells #[.slice none 0 0, .slice none 0 0, .bool false, .int .i64 0] 34))
    rwa [World.size_alloc] at this)
  have HR0 : Hid (RA (((w.alloc (.cells #[.slice a1 la k1, .slice a2 lb k2] 24)).alloc (.cells #[.int .i64 r.g, .int .i64 r.c, .int .i64 r.m, .slice a3 ln k3] 26)).alloc (.cells #[.slice none 0 0, .slice none 0 0, .bool false, .int .i64 0] 34)) (w.heap.size + 1 + 1) #[.slice none 0 0, .slice none 0 0, .bool false, .int .i64 0] 34) := Lib.hid (by
    have := RA.new ((w.alloc (.cells #[.slice a1 la k1, .slice a2 lb k2] 24)).alloc (.cells #[.int .i64 r.g, .int .i64 r.c, .int .i64 r.m, .slice a3 ln k3] 26)) #[.slice none 0 0, .slice none 0 0, .bool false, .int .i64 0] 34
    rwa [World.size_alloc, World.size_alloc] at this)
  go_enter Tryd.func13, Tryd.ntmps13
  go_wp2_with fail
  refine (K.out _ HL0.out).mono ?_
  rintro e w1 ⟨rfl, hg1⟩
  have HR1 := Lib.hid (HR0.out.later hg1)
  have c0 := HR1.out.cell 0 _ rfl
  have c1 := HR1.out.cell 1 _ rfl
  have c2 := HR1.out.cell 2 _ rfl
  have c3 := HR1.out.cell 3 _ rfl
  have f0 := HR1.out.froz 0
  have f1 := HR1.out.froz 1
  have f2 := HR1.out.froz 2
  have f3 := HR1.out.froz 3
  go_wp2_with fail
  refine bodyPost_ret (results_r (P := Tryd.prog) (fn := Tryd.f13) Tryd.results13 _ _ (w.heap.size + 1 + 1) 34 _ _ rfl (HR1.out.set4 _ _ _ _) Tryd.underlying34 rfl (by kernel_rfl)) rfl ?_
  exact ⟨_, rfl, ⟨_, _, rfl, sk_nil _ _, sk_nil _ _⟩, later_set4 (gtrans HL0.out hg1) (by omega) _ _ _ _⟩

set_option maxHeartbeats 2000000 in
theorem rwrite_yes (a b : List Int) (r : Rc) (cut : Int) (u v : Value) (w : World) (hs : Fv w u a b) (hr : Rk w v r) (hm : may r = true) (hf : Fit r) (ha : By a) (hb : By b) (na : a.length ≤ 20000) (nb : b.length ≤ 20000) :
    Calls Tryd.prog 13 #[u, v, .int .i64 cut] w fun e w' => ∃ q, e = .returned q ∧ Wv w' q (if wE a b r = 0 then wa a b r cut else []) (if wE a b r = 0 then wb a b r cut else []) (decide (wE a b r = 0) && al r cut) (wE a b r) ∧ Later w w' := by
  obtain ⟨x, y, rfl, hx1, hy1⟩ := hs
  obtain ⟨z, rfl, hz1⟩ := hr
  obtain ⟨a1, k1, rfl, _⟩ := hx1.len
  obtain ⟨a2, k2, rfl, _⟩ := hy1.len
  obtain ⟨a3, k3, rfl, _⟩ := hz1.len
  have K := Lib.hid (fun W (g : Later w W) => rmay_any r _ W ⟨_, rfl, hz1.later g⟩)
  rw [hm] at K
  have KC := Lib.hid (fun W (g : Later w W) => rcode_any r _ W ⟨_, rfl, hz1.later g⟩ hm hf)
  have KR := Lib.hid (fun W (g : Later w W) => rrecover_any a b ha hb na nb _ W ⟨_, _, rfl, hx1.later g, hy1.later g⟩)
  have hcl := co_len hm
  have hcp : 2 ≤ (co r).length := by unfold co; rw [Cr.se_len]; omega
  have HCL := Lib.hid hcl
  have HCP := Lib.hid hcp
  have HX := Lib.hid hx1
  have HY := Lib.hid hy1
  have HWA : Hid (wE a b r = if (lt a b).2.2 = true ∧ r.g ≤ (lt a b).1.g then 124 else 0) := Lib.hid (by unfold wE; rw [if_pos hm])
  have HWW : Hid (wa a b r cut = (if fi a b = true then (co r).take cut.toNat else a) ∧ wb a b r cut = (if fi a b = true then b else (co r).take cut.toNat)) := Lib.hid ⟨rfl, rfl⟩
  have HFI : Hid (fi a b = !((lt a b).2.2 && !(lt a b).2.1)) := Lib.hid rfl
  have HAL : Hid (al r cut = decide (((co r).length : Int) ≤ cut)) := Lib.hid rfl
  obtain ⟨E, hE⟩ : ∃ E, wE a b r = E := ⟨_, rfl⟩
  obtain ⟨X, hX⟩ : ∃ X, (if wE a b r = 0 then wa a b r cut else []) = X := ⟨_, rfl⟩
  obtain ⟨Y, hY⟩ : ∃ Y, (if wE a b r = 0 then wb a b r cut else []) = Y := ⟨_, rfl⟩
  obtain ⟨D, hD⟩ : ∃ D, (decide (wE a b r = 0) && al r cut) = D := ⟨_, rfl⟩
  rw [hX, hY, hD, hE]
  have HE := Lib.hid hE
  have HXX := Lib.hid hX
  have HYY := Lib.hid hY
  have HDD := Lib.hid hD
  obtain ⟨L, hLL⟩ : ∃ L, lt a b = L := ⟨_, rfl⟩
  rw [hLL] at HWA HFI
  simp only [hLL] at KR
  obtain ⟨lr, S, H⟩ := L
  simp only at KR HWA HFI
  clear hx1 hy1 hz1 hm hf ha hb na nb hcl hcp hLL hE hX hY hD
  generalize a.length = la at *
  generalize b.length = lb at *
  generalize r.b.length = ln at *
  have HL0 : Hid (Later w (((w.alloc (.cells #[.slice a1 la k1, .slice a2 lb k2] 24)).alloc (.cells #[.int .i64 r.g, .int .i64 r.c, .int .i64 r.m, .slice a3 ln k3] 26)).alloc (.cells #[.slice none 0 0, .slice none 0 0, .bool false, .int .i64 0] 34))) := Lib.hid ((((Later.refl w).put _).put _).put _)
  have HF0 : Hid (RA (((w.alloc (.cells #[.slice a1 la k1, .slice a2 lb k2] 24)).alloc (.cells #[.int .i64 r.g, .int .i64 r.c, .int .i64 r.m, .slice a3 ln k3] 26)).alloc (.cells #[.slice none 0 0, .slice none 0 0, .bool false, .int .i64 0] 34)) w.heap.size #[.slice a1 la k1, .slice a2 lb k2] 24) := Lib.hid ((RA.new w _ _).later (((Later.refl _).put _).put _))
  have HB0 : Hid (RA (((w.alloc (.cells #[.slice a1 la k1, .slice a2 lb k2] 24)).alloc (.cells #[.int .i64 r.g, .int .i64 r.c, .int .i64 r.m, .slice a3 ln k3] 26)).alloc (.cells #[.slice none 0 0, .slice none 0 0, .bool false, .int .i64 0] 34)) (w.heap.size + 1) #[.int .i64 r.g, .int .i64 r.c, .int .i64 r.m, .slice a3 ln k3] 26) := Lib.hid (by
    have := (RA.new (w.alloc (.cells #[.slice a1 la k1, .slice a2 lb k2] 24)) #[.int .i64 r.g, .int .i64 r.c, .int .i64 r.m, .slice a3 ln k3] 26).later ((Later.refl _).put (.cells #[.slice none 0 0, .slice none 0 0, .bool false, .int .i64 0] 34))
    rwa [World.size_alloc] at this)
  have HR0 : Hid (RA (((w.alloc (.cells #[.slice a1 la k1, .slice a2 lb k2] 24)).alloc (.cells #[.int .i64 r.g, .int .i64 r.c, .int .i64 r.m, .slice a3 ln k3] 26)).alloc (.cells #[.slice none 0 0, .slice none 0 0, .bool false, .int .i64 0] 34)) (w.heap.size + 1 + 1) #[.slice none 0 0, .slice none 0 0, .bool false, .int .i64 0] 34) := Lib.hid (by
    have := RA.new ((w.alloc (.cells #[.slice a1 la k1, .slice a2 lb k2] 24)).alloc (.cells #[.int .i64 r.g, .int .i64 r.c, .int .i64 r.m, .slice a3 ln k3] 26)) #[.slice none 0 0, .slice none 0 0, .bool false, .int .i64 0] 34
    rwa [World.size_alloc, World.size_alloc] at this)
  go_enter Tryd.func13, Tryd.ntmps13
  go_wp2_with fail
  refine (K.out _ HL0.out).mono ?_
  rintro e w1 ⟨rfl, hg1⟩
  have HG1 := Lib.hid (gtrans HL0.out hg1)
  have HF1 := Lib.hid (HF0.out.later hg1)
  have HB1 := Lib.hid (HB0.out.later hg1)
  have HR1 := Lib.hid (HR0.out.later hg1)
  have c0 := HF1.out.cell 0 _ rfl
  have c1 := HF1.out.cell 1 _ rfl
  clear hg1
  go_wp2_with fail
  clear c0 c1
  refine (KR.out _ HG1.out).mono ?_
  rintro e w2 ⟨q, rfl, ⟨y, rfl, hy⟩, hg2⟩
  obtain ⟨b1, j1, rfl, _⟩ := hy.len
  simp only
  generalize lr.b.length = n1 at *
  have HP2 : Hid (Later w2 (w2.alloc (.cells #[.int .i64 lr.g, .int .i64 lr.c, .int .i64 lr.m, .slice b1 n1 j1, .bool S, .bool H] 39))) := Lib.hid ((Later.refl _).put _)
  have HG2 := Lib.hid (gtrans HG1.out (gtrans hg2 HP2.out))
  have HF2 := Lib.hid (HF1.out.later (gtrans hg2 HP2.out))
  have HB2 := Lib.hid (HB1.out.later (gtrans hg2 HP2.out))
  have HR2 := Lib.hid (HR1.out.later (gtrans hg2 HP2.out))
  have HX2 : Hid (RA (w2.alloc (.cells #[.int .i64 lr.g, .int .i64 lr.c, .int .i64 lr.m, .slice b1 n1 j1, .bool S, .bool H] 39)) w2.heap.size #[.int .i64 lr.g, .int .i64 lr.c, .int .i64 lr.m, .slice b1 n1 j1, .bool S, .bool H] 39) := Lib.hid (RA.new w2 _ _)
  clear hy hg2
  by_cases hno : H = true ∧ r.g ≤ lr.g
  · obtain ⟨rfl, hg⟩ := hno
    have HGG := Lib.hid hg
    have pc0 := HB2.out.cell 0 _ rfl
    have qc0 := HX2.out.cell 0 _ rfl
    have qc5 := HX2.out.cell 5 _ rfl
    have c0 := HR2.out.cell 0 _ rfl
    have c1 := HR2.out.cell 1 _ rfl
    have c2 := HR2.out.cell 2 _ rfl
    have c3 := HR2.out.cell 3 _ rfl
    have f0 := HR2.out.froz 0
    have f1 := HR2.out.froz 1
    have f2 := HR2.out.froz 2
    have f3 := HR2.out.froz 3
    go_wp2_with fail
    refine bodyPost_ret (results_r (P := Tryd.prog) (fn := Tryd.f13) Tryd.results13 _ _ (w.heap.size + 1 + 1) 34 _ _ rfl (HR2.out.set4 _ _ _ _) Tryd.underlying34 rfl (by kernel_rfl)) rfl ?_
    have hW : wE a b r = 124 := by rw [HWA.out]; have := HGG.out; simp [this]
    have eE : E = 124 := HE.out.symm.trans hW
    have eX : X = [] := by rw [← HXX.out, hW]; rfl
    have eY : Y = [] := by rw [← HYY.out, hW]; rfl
    have eD : D = false := by rw [← HDD.out, hW]; rfl
    rw [eE, eX, eY, eD]
    exact ⟨_, rfl, ⟨_, _, rfl, sk_nil _ _, sk_nil _ _⟩, later_set4 HG2.out (by omega) _ _ _ _⟩
  · have HNO := Lib.hid hno
    have hcase : (H = false) ∨ (H = true ∧ ¬ r.g ≤ lr.g) := by
      cases H with
      | false => exact .inl rfl
      | true => exact .inr ⟨rfl, fun h => hno ⟨rfl, h⟩⟩
    have hW : wE a b r = 0 := by rw [HWA.out, if_neg hno]
    have HW := Lib.hid hW
    clear hno hW
    rcases hcase with rfl | ⟨rfl, hg⟩
    · have pc0 := HB2.out.cell 0 _ rfl
      have pc1 := HB2.out.cell 1 _ rfl
      have pc2 := HB2.out.cell 2 _ rfl
      have pc3 := HB2.out.cell 3 _ rfl
      have qc5 := HX2.out.cell 5 _ rfl
      go_wp2_with fail
      refine (KC.out _ HG2.out).mono ?_
      rintro e w3 ⟨c, rfl, hc, hg3⟩
      have hM0 : ∃ M, M = min cut.toNat (co r).length := ⟨_, rfl⟩
      obtain ⟨M, hM⟩ := hM0
      have htk : (co r).take M = (co r).take cut.toNat := by
        rw [hM]
        rcases Nat.le_total cut.toNat (co r).length with h | h
        · rw [Nat.min_eq_left h]
        · rw [Nat.min_eq_right h, List.take_of_length_le (Nat.le_refl _), List.take_of_length_le h]
      obtain ⟨ac, kc, u3, rfl, sl, hu3⟩ := cut_h hc M (by omega)
      rw [htk] at hu3
      obtain ⟨au, ku, rfl, _⟩ := hu3.len
      have HU3 := Lib.hid hu3
      have hcp := HCP.out
      have HG3 := Lib.hid (gtrans HG2.out hg3)
      have HF3 := Lib.hid (HF2.out.later hg3)
      have HP3 := Lib.hid (fun cs => (Later.refl w3).put (.cells cs 34))
      have HR3 := Lib.hid (fun cs => HR2.out.later (gtrans hg3 (HP3.out cs)))
      have HX3 := Lib.hid (fun cs => HX2.out.later (gtrans hg3 (HP3.out cs)))
      clear hc hg3 hu3 htk
      generalize (co r).length = lc at *
      generalize ((co r).take cut.toNat).length = lu at *
      obtain ⟨Dd, hDd⟩ : ∃ Dd, decide ((lc : Int) ≤ cut) = Dd := ⟨_, rfl⟩
      have HDL := Lib.hid hDd
      by_cases hc1 : cut < 0
      · have eM : M = 0 := by omega
        clear hM
        subst eM
        rw [show ((0 : Nat) : Int) = 0 from rfl] at sl
        have c0 := HF3.out.cell 0 _ rfl
        have c1 := HF3.out.cell 1 _ rfl
        have qc5 := (HX3.out #[.slice a1 la k1, .slice a2 lb k2, .bool Dd, .int .i64 0]).cell 5 _ rfl
        have rc0 := (HR3.out #[.slice au lu ku, .slice a2 lb k2, .bool Dd, .int .i64 0]).cell 0 _ rfl
        have rc1 := (HR3.out #[.slice au lu ku, .slice a2 lb k2, .bool Dd, .int .i64 0]).cell 1 _ rfl
        have rc2 := (HR3.out #[.slice au lu ku, .slice a2 lb k2, .bool Dd, .int .i64 0]).cell 2 _ rfl
        have rc3 := (HR3.out #[.slice au lu ku, .slice a2 lb k2, .bool Dd, .int .i64 0]).cell 3 _ rfl
        have rf0 := (HR3.out #[.slice au lu ku, .slice a2 lb k2, .bool Dd, .int .i64 0]).froz 0
        have rf1 := (HR3.out #[.slice au lu ku, .slice a2 lb k2, .bool Dd, .int .i64 0]).froz 1
        have rf2 := (HR3.out #[.slice au lu ku, .slice a2 lb k2, .bool Dd, .int .i64 0]).froz 2
        have rf3 := (HR3.out #[.slice au lu ku, .slice a2 lb k2, .bool Dd, .int .i64 0]).froz 3
        go_wp2_with fail
        refine bodyPost_ret (results_r (P := Tryd.prog) (fn := Tryd.f13) Tryd.results13 _ _ (w.heap.size + 1 + 1) 34 _ _ rfl ((HR3.out #[.slice au lu ku, .slice a2 lb k2, .bool Dd, .int .i64 0]).set4 _ _ _ _) Tryd.underlying34 rfl (by kernel_rfl)) rfl ?_
        have eX : X = (co r).take cut.toNat := by rw [← HXX.out, if_pos HW.out, HWW.out.1, HFI.out]; rfl
        have eY : Y = b := by rw [← HYY.out, if_pos HW.out, HWW.out.2, HFI.out]; rfl
        have eD : D = Dd := by rw [← HDD.out, HW.out, HAL.out, HDL.out]; rfl
        rw [HE.out.symm.trans HW.out, eX, eY, eD]
        exact ⟨_, rfl, ⟨_, _, rfl, sk_out (HU3.out.later (HP3.out _)) (HR3.out _) (nb4w _ _ _ _ _ _ _ _) (Out.set4 _ _ _ _ _ _), HY.out.later (later_set4 (gtrans HG3.out (HP3.out _)) (by omega) _ _ _ _)⟩, later_set4 (gtrans HG3.out (HP3.out _)) (by omega) _ _ _ _⟩
      · by_cases hc2 : cut > (lc : Int)
        · have eM : M = lc := by omega
          clear hM
          subst eM
          have c0 := HF3.out.cell 0 _ rfl
          have c1 := HF3.out.cell 1 _ rfl
          have qc5 := (HX3.out #[.slice a1 la k1, .slice a2 lb k2, .bool Dd, .int .i64 0]).cell 5 _ rfl
          have rc0 := (HR3.out #[.slice au lu ku, .slice a2 lb k2, .bool Dd, .int .i64 0]).cell 0 _ rfl
          have rc1 := (HR3.out #[.slice au lu ku, .slice a2 lb k2, .bool Dd, .int .i64 0]).cell 1 _ rfl
          have rc2 := (HR3.out #[.slice au lu ku, .slice a2 lb k2, .bool Dd, .int .i64 0]).cell 2 _ rfl
          have rc3 := (HR3.out #[.slice au lu ku, .slice a2 lb k2, .bool Dd, .int .i64 0]).cell 3 _ rfl
          have rf0 := (HR3.out #[.slice au lu ku, .slice a2 lb k2, .bool Dd, .int .i64 0]).froz 0
          have rf1 := (HR3.out #[.slice au lu ku, .slice a2 lb k2, .bool Dd, .int .i64 0]).froz 1
          have rf2 := (HR3.out #[.slice au lu ku, .slice a2 lb k2, .bool Dd, .int .i64 0]).froz 2
          have rf3 := (HR3.out #[.slice au lu ku, .slice a2 lb k2, .bool Dd, .int .i64 0]).froz 3
          go_wp2_with fail
          refine bodyPost_ret (results_r (P := Tryd.prog) (fn := Tryd.f13) Tryd.results13 _ _ (w.heap.size + 1 + 1) 34 _ _ rfl ((HR3.out #[.slice au lu ku, .slice a2 lb k2, .bool Dd, .int .i64 0]).set4 _ _ _ _) Tryd.underlying34 rfl (by kernel_rfl)) rfl ?_
          have eX : X = (co r).take cut.toNat := by rw [← HXX.out, if_pos HW.out, HWW.out.1, HFI.out]; rfl
          have eY : Y = b := by rw [← HYY.out, if_pos HW.out, HWW.out.2, HFI.out]; rfl
          have eD : D = Dd := by rw [← HDD.out, HW.out, HAL.out, HDL.out]; rfl
          rw [HE.out.symm.trans HW.out, eX, eY, eD]
          exact ⟨_, rfl, ⟨_, _, rfl, sk_out (HU3.out.later (HP3.out _)) (HR3.out _) (nb4w _ _ _ _ _ _ _ _) (Out.set4 _ _ _ _ _ _), HY.out.later (later_set4 (gtrans HG3.out (HP3.out _)) (by omega) _ _ _ _)⟩, later_set4 (gtrans HG3.out (HP3.out _)) (by omega) _ _ _ _⟩
        · have eM : (M : Int) = cut := by omega
          clear hM
          rw [eM] at sl
          clear eM
          have c0 := HF3.out.cell 0 _ rfl
          have c1 := HF3.out.cell 1 _ rfl
          have qc5 := (HX3.out #[.slice a1 la k1, .slice a2 lb k2, .bool Dd, .int .i64 0]).cell 5 _ rfl
          have rc0 := (HR3.out #[.slice au lu ku, .slice a2 lb k2, .bool Dd, .int .i64 0]).cell 0 _ rfl
          have rc1 := (HR3.out #[.slice au lu ku, .slice a2 lb k2, .bool Dd, .int .i64 0]).cell 1 _ rfl
          have rc2 := (HR3.out #[.slice au lu ku, .slice a2 lb k2, .bool Dd, .int .i64 0]).cell 2 _ rfl
          have rc3 := (HR3.out #[.slice au lu ku, .slice a2 lb k2, .bool Dd, .int .i64 0]).cell 3 _ rfl
          have rf0 := (HR3.out #[.slice au lu ku, .slice a2 lb k2, .bool Dd, .int .i64 0]).froz 0
          have rf1 := (HR3.out #[.slice au lu ku, .slice a2 lb k2, .bool Dd, .int .i64 0]).froz 1
          have rf2 := (HR3.out #[.slice au lu ku, .slice a2 lb k2, .bool Dd, .int .i64 0]).froz 2
          have rf3 := (HR3.out #[.slice au lu ku, .slice a2 lb k2, .bool Dd, .int .i64 0]).froz 3
          go_wp2_with fail
          refine bodyPost_ret (results_r (P := Tryd.prog) (fn := Tryd.f13) Tryd.results13 _ _ (w.heap.size + 1 + 1) 34 _ _ rfl ((HR3.out #[.slice au lu ku, .slice a2 lb k2, .bool Dd, .int .i64 0]).set4 _ _ _ _) Tryd.underlying34 rfl (by kernel_rfl)) rfl ?_
          have eX : X = (co r).take cut.toNat := by rw [← HXX.out, if_pos HW.out, HWW.out.1, HFI.out]; rfl
          have eY : Y = b := by rw [← HYY.out, if_pos HW.out, HWW.out.2, HFI.out]; rfl
          have eD : D = Dd := by rw [← HDD.out, HW.out, HAL.out, HDL.out]; rfl
          rw [HE.out.symm.trans HW.out, eX, eY, eD]
          exact ⟨_, rfl, ⟨_, _, rfl, sk_out (HU3.out.later (HP3.out _)) (HR3.out _) (nb4w _ _ _ _ _ _ _ _) (Out.set4 _ _ _ _ _ _), HY.out.later (later_set4 (gtrans HG3.out (HP3.out _)) (by omega) _ _ _ _)⟩, later_set4 (gtrans HG3.out (HP3.out _)) (by omega) _ _ _ _⟩
    · have t9 : decide (r.g ≤ lr.g) = false := decide_eq_false hg
      have pc0 := HB2.out.cell 0 _ rfl
      have pc1 := HB2.out.cell 1 _ rfl
      have pc2 := HB2.out.cell 2 _ rfl
      have pc3 := HB2.out.cell 3 _ rfl
      have qc0 := HX2.out.cell 0 _ rfl
      have qc5 := HX2.out.cell 5 _ rfl
      cases S with
      | true =>
        go_wp2_with fail
        refine (KC.out _ HG2.out).mono ?_
        rintro e w3 ⟨c, rfl, hc, hg3⟩
        have hM0 : ∃ M, M = min cut.toNat (co r).length := ⟨_, rfl⟩
        obtain ⟨M, hM⟩ := hM0
        have htk : (co r).take M = (co r).take cut.toNat := by
          rw [hM]
          rcases Nat.le_total cut.toNat (co r).length with h | h
          · rw [Nat.min_eq_left h]
          · rw [Nat.min_eq_right h, List.take_of_length_le (Nat.le_refl _), List.take_of_length_le h]
        obtain ⟨ac, kc, u3, rfl, sl, hu3⟩ := cut_h hc M (by omega)
        rw [htk] at hu3
        obtain ⟨au, ku, rfl, _⟩ := hu3.len
        have HU3 := Lib.hid hu3
        have hcp := HCP.out
        have HG3 := Lib.hid (gtrans HG2.out hg3)
        have HF3 := Lib.hid (HF2.out.later hg3)
        have HP3 := Lib.hid (fun cs => (Later.refl w3).put (.cells cs 34))
        have HR3 := Lib.hid (fun cs => HR2.out.later (gtrans hg3 (HP3.out cs)))
        have HX3 := Lib.hid (fun cs => HX2.out.later (gtrans hg3 (HP3.out cs)))
        clear hc hg3 hu3 htk
        generalize (co r).length = lc at *
        generalize ((co r).take cut.toNat).length = lu at *
        obtain ⟨Dd, hDd⟩ : ∃ Dd, decide ((lc : Int) ≤ cut) = Dd := ⟨_, rfl⟩
        have HDL := Lib.hid hDd
        by_cases hc1 : cut < 0
        · have eM : M = 0 := by omega
          clear hM
          subst eM
          rw [show ((0 : Nat) : Int) = 0 from rfl] at sl
          have c0 := HF3.out.cell 0 _ rfl
          have c1 := HF3.out.cell 1 _ rfl
          have qc4 := (HX3.out #[.slice a1 la k1, .slice a2 lb k2, .bool Dd, .int .i64 0]).cell 4 _ rfl
          have qc5 := (HX3.out #[.slice a1 la k1, .slice a2 lb k2, .bool Dd, .int .i64 0]).cell 5 _ rfl
          have rc0 := (HR3.out #[.slice au lu ku, .slice a2 lb k2, .bool Dd, .int .i64 0]).cell 0 _ rfl
          have rc1 := (HR3.out #[.slice au lu ku, .slice a2 lb k2, .bool Dd, .int .i64 0]).cell 1 _ rfl
          have rc2 := (HR3.out #[.slice au lu ku, .slice a2 lb k2, .bool Dd, .int .i64 0]).cell 2 _ rfl
          have rc3 := (HR3.out #[.slice au lu ku, .slice a2 lb k2, .bool Dd, .int .i64 0]).cell 3 _ rfl
          have rf0 := (HR3.out #[.slice au lu ku, .slice a2 lb k2, .bool Dd, .int .i64 0]).froz 0
          have rf1 := (HR3.out #[.slice au lu ku, .slice a2 lb k2, .bool Dd, .int .i64 0]).froz 1
          have rf2 := (HR3.out #[.slice au lu ku, .slice a2 lb k2, .bool Dd, .int .i64 0]).froz 2
          have rf3 := (HR3.out #[.slice au lu ku, .slice a2 lb k2, .bool Dd, .int .i64 0]).froz 3
          go_wp2_with fail
          refine bodyPost_ret (results_r (P := Tryd.prog) (fn := Tryd.f13) Tryd.results13 _ _ (w.heap.size + 1 + 1) 34 _ _ rfl ((HR3.out #[.slice au lu ku, .slice a2 lb k2, .bool Dd, .int .i64 0]).set4 _ _ _ _) Tryd.underlying34 rfl (by kernel_rfl)) rfl ?_
          have eX : X = (co r).take cut.toNat := by rw [← HXX.out, if_pos HW.out, HWW.out.1, HFI.out]; rfl
          have eY : Y = b := by rw [← HYY.out, if_pos HW.out, HWW.out.2, HFI.out]; rfl
          have eD : D = Dd := by rw [← HDD.out, HW.out, HAL.out, HDL.out]; rfl
          rw [HE.out.symm.trans HW.out, eX, eY, eD]
          exact ⟨_, rfl, ⟨_, _, rfl, sk_out (HU3.out.later (HP3.out _)) (HR3.out _) (nb4w _ _ _ _ _ _ _ _) (Out.set4 _ _ _ _ _ _), HY.out.later (later_set4 (gtrans HG3.out (HP3.out _)) (by omega) _ _ _ _)⟩, later_set4 (gtrans HG3.out (HP3.out _)) (by omega) _ _ _ _⟩
        · by_cases hc2 : cut > (lc : Int)
          · have eM : M = lc := by omega
            clear hM
            subst eM
            have c0 := HF3.out.cell 0 _ rfl
            have c1 := HF3.out.cell 1 _ rfl
            have qc4 := (HX3.out #[.slice a1 la k1, .slice a2 lb k2, .bool Dd, .int .i64 0]).cell 4 _ rfl
            have qc5 := (HX3.out #[.slice a1 la k1, .slice a2 lb k2, .bool Dd, .int .i64 0]).cell 5 _ rfl
            have rc0 := (HR3.out #[.slice au lu ku, .slice a2 lb k2, .bool Dd, .int .i64 0]).cell 0 _ rfl
            have rc1 := (HR3.out #[.slice au lu ku, .slice a2 lb k2, .bool Dd, .int .i64 0]).cell 1 _ rfl
            have rc2 := (HR3.out #[.slice au lu ku, .slice a2 lb k2, .bool Dd, .int .i64 0]).cell 2 _ rfl
            have rc3 := (HR3.out #[.slice au lu ku, .slice a2 lb k2, .bool Dd, .int .i64 0]).cell 3 _ rfl
            have rf0 := (HR3.out #[.slice au lu ku, .slice a2 lb k2, .bool Dd, .int .i64 0]).froz 0
            have rf1 := (HR3.out #[.slice au lu ku, .slice a2 lb k2, .bool Dd, .int .i64 0]).froz 1
            have rf2 := (HR3.out #[.slice au lu ku, .slice a2 lb k2, .bool Dd, .int .i64 0]).froz 2
            have rf3 := (HR3.out #[.slice au lu ku, .slice a2 lb k2, .bool Dd, .int .i64 0]).froz 3
            go_wp2_with fail
            refine bodyPost_ret (results_r (P := Tryd.prog) (fn := Tryd.f13) Tryd.results13 _ _ (w.heap.size + 1 + 1) 34 _ _ rfl ((HR3.out #[.slice au lu ku, .slice a2 lb k2, .bool Dd, .int .i64 0]).set4 _ _ _ _) Tryd.underlying34 rfl (by kernel_rfl)) rfl ?_
            have eX : X = (co r).take cut.toNat := by rw [← HXX.out, if_pos HW.out, HWW.out.1, HFI.out]; rfl
            have eY : Y = b := by rw [← HYY.out, if_pos HW.out, HWW.out.2, HFI.out]; rfl
            have eD : D = Dd := by rw [← HDD.out, HW.out, HAL.out, HDL.out]; rfl
            rw [HE.out.symm.trans HW.out, eX, eY, eD]
            exact ⟨_, rfl, ⟨_, _, rfl, sk_out (HU3.out.later (HP3.out _)) (HR3.out _) (nb4w _ _ _ _ _ _ _ _) (Out.set4 _ _ _ _ _ _), HY.out.later (later_set4 (gtrans HG3.out (HP3.out _)) (by omega) _ _ _ _)⟩, later_set4 (gtrans HG3.out (HP3.out _)) (by omega) _ _ _ _⟩
          · have eM : (M : Int) = cut := by omega
            clear hM
            rw [eM] at sl
            clear eM
            have c0 := HF3.out.cell 0 _ rfl
            have c1 := HF3.out.cell 1 _ rfl
            have qc4 := (HX3.out #[.slice a1 la k1, .slice a2 lb k2, .bool Dd, .int .i64 0]).cell 4 _ rfl
            have qc5 := (HX3.out #[.slice a1 la k1, .slice a2 lb k2, .bool Dd, .int .i64 0]).cell 5 _ rfl
            have rc0 := (HR3.out #[.slice au lu ku, .slice a2 lb k2, .bool Dd, .int .i64 0]).cell 0 _ rfl
            have rc1 := (HR3.out #[.slice au lu ku, .slice a2 lb k2, .bool Dd, .int .i64 0]).cell 1 _ rfl
            have rc2 := (HR3.out #[.slice au lu ku, .slice a2 lb k2, .bool Dd, .int .i64 0]).cell 2 _ rfl
            have rc3 := (HR3.out #[.slice au lu ku, .slice a2 lb k2, .bool Dd, .int .i64 0]).cell 3 _ rfl
            have rf0 := (HR3.out #[.slice au lu ku, .slice a2 lb k2, .bool Dd, .int .i64 0]).froz 0
            have rf1 := (HR3.out #[.slice au lu ku, .slice a2 lb k2, .bool Dd, .int .i64 0]).froz 1
            have rf2 := (HR3.out #[.slice au lu ku, .slice a2 lb k2, .bool Dd, .int .i64 0]).froz 2
            have rf3 := (HR3.out #[.slice au lu ku, .slice a2 lb k2, .bool Dd, .int .i64 0]).froz 3
            go_wp2_with fail
            refine bodyPost_ret (results_r (P := Tryd.prog) (fn := Tryd.f13) Tryd.results13 _ _ (w.heap.size + 1 + 1) 34 _ _ rfl ((HR3.out #[.slice au lu ku, .slice a2 lb k2, .bool Dd, .int .i64 0]).set4 _ _ _ _) Tryd.underlying34 rfl (by kernel_rfl)) rfl ?_
            have eX : X = (co r).take cut.toNat := by rw [← HXX.out, if_pos HW.out, HWW.out.1, HFI.out]; rfl
            have eY : Y = b := by rw [← HYY.out, if_pos HW.out, HWW.out.2, HFI.out]; rfl
            have eD : D = Dd := by rw [← HDD.out, HW.out, HAL.out, HDL.out]; rfl
            rw [HE.out.symm.trans HW.out, eX, eY, eD]
            exact ⟨_, rfl, ⟨_, _, rfl, sk_out (HU3.out.later (HP3.out _)) (HR3.out _) (nb4w _ _ _ _ _ _ _ _) (Out.set4 _ _ _ _ _ _), HY.out.later (later_set4 (gtrans HG3.out (HP3.out _)) (by omega) _ _ _ _)⟩, later_set4 (gtrans HG3.out (HP3.out _)) (by omega) _ _ _ _⟩
      | false =>
        go_wp2_with fail
        refine (KC.out _ HG2.out).mono ?_
        rintro e w3 ⟨c, rfl, hc, hg3⟩
        have hM0 : ∃ M, M = min cut.toNat (co r).length := ⟨_, rfl⟩
        obtain ⟨M, hM⟩ := hM0
        have htk : (co r).take M = (co r).take cut.toNat := by
          rw [hM]
          rcases Nat.le_total cut.toNat (co r).length with h | h
          · rw [Nat.min_eq_left h]
          · rw [Nat.min_eq_right h, List.take_of_length_le (Nat.le_refl _), List.take_of_length_le h]
        obtain ⟨ac, kc, u3, rfl, sl, hu3⟩ := cut_h hc M (by omega)
        rw [htk] at hu3
        obtain ⟨au, ku, rfl, _⟩ := hu3.len
        have HU3 := Lib.hid hu3
        have hcp := HCP.out
        have HG3 := Lib.hid (gtrans HG2.out hg3)
        have HF3 := Lib.hid (HF2.out.later hg3)
        have HP3 := Lib.hid (fun cs => (Later.refl w3).put (.cells cs 34))
        have HR3 := Lib.hid (fun cs => HR2.out.later (gtrans hg3 (HP3.out cs)))
        have HX3 := Lib.hid (fun cs => HX2.out.later (gtrans hg3 (HP3.out cs)))
        clear hc hg3 hu3 htk
        generalize (co r).length = lc at *
        generalize ((co r).take cut.toNat).length = lu at *
        obtain ⟨Dd, hDd⟩ : ∃ Dd, decide ((lc : Int) ≤ cut) = Dd := ⟨_, rfl⟩
        have HDL := Lib.hid hDd
        by_cases hc1 : cut < 0
        · have eM : M = 0 := by omega
          clear hM
          subst eM
          rw [show ((0 : Nat) : Int) = 0 from rfl] at sl
          have c0 := HF3.out.cell 0 _ rfl
          have c1 := HF3.out.cell 1 _ rfl
          have qc4 := (HX3.out #[.slice a1 la k1, .slice a2 lb k2, .bool Dd, .int .i64 0]).cell 4 _ rfl
          have qc5 := (HX3.out #[.slice a1 la k1, .slice a2 lb k2, .bool Dd, .int .i64 0]).cell 5 _ rfl
          have rc0 := (HR3.out #[.slice a1 la k1, .slice au lu ku, .bool Dd, .int .i64 0]).cell 0 _ rfl
          have rc1 := (HR3.out #[.slice a1 la k1, .slice au lu ku, .bool Dd, .int .i64 0]).cell 1 _ rfl
          have rc2 := (HR3.out #[.slice a1 la k1, .slice au lu ku, .bool Dd, .int .i64 0]).cell 2 _ rfl
          have rc3 := (HR3.out #[.slice a1 la k1, .slice au lu ku, .bool Dd, .int .i64 0]).cell 3 _ rfl
          have rf0 := (HR3.out #[.slice a1 la k1, .slice au lu ku, .bool Dd, .int .i64 0]).froz 0
          have rf1 := (HR3.out #[.slice a1 la k1, .slice au lu ku, .bool Dd, .int .i64 0]).froz 1
          have rf2 := (HR3.out #[.slice a1 la k1, .slice au lu ku, .bool Dd, .int .i64 0]).froz 2
          have rf3 := (HR3.out #[.slice a1 la k1, .slice au lu ku, .bool Dd, .int .i64 0]).froz 3
          go_wp2_with fail
          refine bodyPost_ret (results_r (P := Tryd.prog) (fn := Tryd.f13) Tryd.results13 _ _ (w.heap.size + 1 + 1) 34 _ _ rfl ((HR3.out #[.slice a1 la k1, .slice au lu ku, .bool Dd, .int .i64 0]).set4 _ _ _ _) Tryd.underlying34 rfl (by kernel_rfl)) rfl ?_
          have eX : X = a := by rw [← HXX.out, if_pos HW.out, HWW.out.1, HFI.out]; rfl
          have eY : Y = (co r).take cut.toNat := by rw [← HYY.out, if_pos HW.out, HWW.out.2, HFI.out]; rfl
          have eD : D = Dd := by rw [← HDD.out, HW.out, HAL.out, HDL.out]; rfl
          rw [HE.out.symm.trans HW.out, eX, eY, eD]
          exact ⟨_, rfl, ⟨_, _, rfl, HX.out.later (later_set4 (gtrans HG3.out (HP3.out _)) (by omega) _ _ _ _), sk_out (HU3.out.later (HP3.out _)) (HR3.out _) (nb4w _ _ _ _ _ _ _ _) (Out.set4 _ _ _ _ _ _)⟩, later_set4 (gtrans HG3.out (HP3.out _)) (by omega) _ _ _ _⟩
        · by_cases hc2 : cut > (lc : Int)
          · have eM : M = lc := by omega
            clear hM
            subst eM
            have c0 := HF3.out.cell 0 _ rfl
            have c1 := HF3.out.cell 1 _ rfl
            have qc4 := (HX3.out #[.slice a1 la k1, .slice a2 lb k2, .bool Dd, .int .i64 0]).cell 4 _ rfl
            have qc5 := (HX3.out #[.slice a1 la k1, .slice a2 lb k2, .bool Dd, .int .i64 0]).cell 5 _ rfl
            have rc0 := (HR3.out #[.slice a1 la k1, .slice au lu ku, .bool Dd, .int .i64 0]).cell 0 _ rfl
            have rc1 := (HR3.out #[.slice a1 la k1, .slice au lu ku, .bool Dd, .int .i64 0]).cell 1 _ rfl
            have rc2 := (HR3.out #[.slice a1 la k1, .slice au lu ku, .bool Dd, .int .i64 0]).cell 2 _ rfl
            have rc3 := (HR3.out #[.slice a1 la k1, .slice au lu ku, .bool Dd, .int .i64 0]).cell 3 _ rfl
            have rf0 := (HR3.out #[.slice a1 la k1, .slice au lu ku, .bool Dd, .int .i64 0]).froz 0
            have rf1 := (HR3.out #[.slice a1 la k1, .slice au lu ku, .bool Dd, .int .i64 0]).froz 1
            have rf2 := (HR3.out #[.slice a1 la k1, .slice au lu ku, .bool Dd, .int .i64 0]).froz 2
            have rf3 := (HR3.out #[.slice a1 la k1, .slice au lu ku, .bool Dd, .int .i64 0]).froz 3
            go_wp2_with fail
            refine bodyPost_ret (results_r (P := Tryd.prog) (fn := Tryd.f13) Tryd.results13 _ _ (w.heap.size + 1 + 1) 34 _ _ rfl ((HR3.out #[.slice a1 la k1, .slice au lu ku, .bool Dd, .int .i64 0]).set4 _ _ _ _) Tryd.underlying34 rfl (by kernel_rfl)) rfl ?_
            have eX : X = a := by rw [← HXX.out, if_pos HW.out, HWW.out.1, HFI.out]; rfl
            have eY : Y = (co r).take cut.toNat := by rw [← HYY.out, if_pos HW.out, HWW.out.2, HFI.out]; rfl
            have eD : D = Dd := by rw [← HDD.out, HW.out, HAL.out, HDL.out]; rfl
            rw [HE.out.symm.trans HW.out, eX, eY, eD]
            exact ⟨_, rfl, ⟨_, _, rfl, HX.out.later (later_set4 (gtrans HG3.out (HP3.out _)) (by omega) _ _ _ _), sk_out (HU3.out.later (HP3.out _)) (HR3.out _) (nb4w _ _ _ _ _ _ _ _) (Out.set4 _ _ _ _ _ _)⟩, later_set4 (gtrans HG3.out (HP3.out _)) (by omega) _ _ _ _⟩
          · have eM : (M : Int) = cut := by omega
            clear hM
            rw [eM] at sl
            clear eM
            have c0 := HF3.out.cell 0 _ rfl
            have c1 := HF3.out.cell 1 _ rfl
            have qc4 := (HX3.out #[.slice a1 la k1, .slice a2 lb k2, .bool Dd, .int .i64 0]).cell 4 _ rfl
            have qc5 := (HX3.out #[.slice a1 la k1, .slice a2 lb k2, .bool Dd, .int .i64 0]).cell 5 _ rfl
            have rc0 := (HR3.out #[.slice a1 la k1, .slice au lu ku, .bool Dd, .int .i64 0]).cell 0 _ rfl
            have rc1 := (HR3.out #[.slice a1 la k1, .slice au lu ku, .bool Dd, .int .i64 0]).cell 1 _ rfl
            have rc2 := (HR3.out #[.slice a1 la k1, .slice au lu ku, .bool Dd, .int .i64 0]).cell 2 _ rfl
            have rc3 := (HR3.out #[.slice a1 la k1, .slice au lu ku, .bool Dd, .int .i64 0]).cell 3 _ rfl
            have rf0 := (HR3.out #[.slice a1 la k1, .slice au lu ku, .bool Dd, .int .i64 0]).froz 0
            have rf1 := (HR3.out #[.slice a1 la k1, .slice au lu ku, .bool Dd, .int .i64 0]).froz 1
            have rf2 := (HR3.out #[.slice a1 la k1, .slice au lu ku, .bool Dd, .int .i64 0]).froz 2
            have rf3 := (HR3.out #[.slice a1 la k1, .slice au lu ku, .bool Dd, .int .i64 0]).froz 3
            go_wp2_with fail
            refine bodyPost_ret (results_r (P := Tryd.prog) (fn := Tryd.f13) Tryd.results13 _ _ (w.heap.size + 1 + 1) 34 _ _ rfl ((HR3.out #[.slice a1 la k1, .slice au lu ku, .bool Dd, .int .i64 0]).set4 _ _ _ _) Tryd.underlying34 rfl (by kernel_rfl)) rfl ?_
            have eX : X = a := by rw [← HXX.out, if_pos HW.out, HWW.out.1, HFI.out]; rfl
            have eY : Y = (co r).take cut.toNat := by rw [← HYY.out, if_pos HW.out, HWW.out.2, HFI.out]; rfl
            have eD : D = Dd := by rw [← HDD.out, HW.out, HAL.out, HDL.out]; rfl
            rw [HE.out.symm.trans HW.out, eX, eY, eD]
            exact ⟨_, rfl, ⟨_, _, rfl, HX.out.later (later_set4 (gtrans HG3.out (HP3.out _)) (by omega) _ _ _ _), sk_out (HU3.out.later (HP3.out _)) (HR3.out _) (nb4w _ _ _ _ _ _ _ _) (Out.set4 _ _ _ _ _ _)⟩, later_set4 (gtrans HG3.out (HP3.out _)) (by omega) _ _ _ _⟩

end Go.Proofs.YtdljmpaabpkmkaaDoor.Fls
