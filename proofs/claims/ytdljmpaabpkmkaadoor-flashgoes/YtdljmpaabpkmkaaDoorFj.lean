/-
  What the document's GetRow answers, by the reference, where there is a row's length. Conditions: the bytes are bytes, and at most 20000; at most so many numbers as 1000 are asked for.
-/
import Derived.Test.YtdljmpaabpkmkaaDoorFi
namespace Go.Proofs.YtdljmpaabpkmkaaDoor.Fls
set_option maxRecDepth 100000
open Go.ChangeShapes Go.WideShapes Go.ChangeAt Go.RowKit
open Go.Proofs.YtdljmpaabpkmkaaDoor.Divs Go.Proofs.YtdljmpaabpkmkaaDoor.Grow Go.Proofs.YtdljmpaabpkmkaaDoor.By Go.Proofs.YtdljmpaabpkmkaaDoor.Wi Go.Proofs.YtdljmpaabpkmkaaDoor.Fa
open Go.Proofs.YtdljmpaabpkmkaaDoor.Wire (cg cg_nil cg_on cg_err gn_err)

theorem sl_out {k : IntKind} {e : TypeId} {W W' : World} {b g' : Nat} {v : Value} {xs : List Int} (h : SL k e W b v xs) (hb : g' < b) (o : Out g' W W') : Sk k W' v xs := by
  have s := h.sk
  rcases h.2 with ⟨rfl, h0⟩ | ⟨g, cap, cur, rfl, hbg, _⟩
  · obtain rfl : xs = [] := List.length_eq_zero_iff.1 h0
    exact sk_nil _ _
  · obtain ⟨ad, cap', e, h1, h2, h3, h4⟩ := s
    simp only [Value.slice.injEq] at e
    obtain ⟨rfl, _, rfl⟩ := e
    refine ⟨_, _, rfl, h1, h2, h3, fun i x hx => ?_⟩
    obtain ⟨b', off, e, c⟩ := h4 i x hx
    simp only [Option.some.injEq, Addr.mk.injEq, and_true] at e
    obtain ⟨rfl, rfl⟩ := e
    exact ⟨g, 0, rfl, by rw [o g _ (by omega)]; exact c⟩

set_option maxHeartbeats 2000000 in
theorem rgetrow_yes (bs : List Int) (p m : Int) (v : Value) (w : World) (hs : Sk .u8 w v bs) (hb : By bs) (hn : bs.length ≤ 20000) (hm : m ≤ 1000) (h : gE bs p = 0 ∧ 0 ≤ gN bs p ∧ gN bs p ≤ m) :
    Calls Tryd.prog 41 #[v, .int .i64 p, .int .i64 m] w fun e w' => ∃ u, e = .returned u ∧ Gr w' u (grow bs p m) ∧ Later w w' := by
  have K := Lib.hid (fun q W (g : Later w W) => rget_any bs q v W (hs.later g) hb hn)
  obtain ⟨he, h0, h1⟩ := h
  have e : grow bs p m = gn bs (gN bs p).toNat (gP bs p) := by
    unfold grow
    rw [if_pos he, if_pos ⟨h0, h1⟩]
  obtain ⟨C, hC⟩ : ∃ C : Nat, gN bs p = C := ⟨(gN bs p).toNat, by omega⟩
  have K1 := Lib.hid (K.out p)
  rw [hC, he] at K1
  rw [hC, Int.toNat_natCast] at e
  obtain ⟨R, hR⟩ : ∃ R, grow bs p m = R := ⟨_, rfl⟩
  rw [hR] at e ⊢
  obtain ⟨P, hP⟩ : ∃ P, gP bs p = P := ⟨_, rfl⟩
  rw [hP] at e K1
  have HR := Lib.hid e
  have c0 : decide ((C : Int) < 0) = false := by simp
  have c1 : decide ((C : Int) > m) = false := by simp; omega
  have hCm : (C : Int) ≤ m := by omega
  obtain ⟨i0, hi, hz0, hz1, hz2⟩ := info_parts info_int
  have HI := Lib.hid hi
  have HZ0 := Lib.hid hz0
  have HZ1 := Lib.hid hz1
  have HZ2 := Lib.hid hz2
  obtain ⟨ad, cap, rfl, _⟩ := hs.len
  clear hi hz0 hz1 hz2 e hR he h0 h1 hC hs hb hn hP
  go_enter Tryd.func41, Tryd.ntmps41
  go_wp2_with fail
  refine (K1.out _ ((Later.refl w).put _)).mono ?_
  rintro e w1 ⟨rfl, hg1⟩
  obtain ⟨B, hB⟩ : ∃ B, w1.alloc (.cells #[.int .i64 (C : Int), .int .i64 P, .int .i64 0] 80) = B := ⟨_, rfl⟩
  have HL := Lib.hid (gtrans hg1 ((Later.refl w1).put (.cells #[.int .i64 (C : Int), .int .i64 P, .int .i64 0] 80)))
  have HN7 : Hid (RA (w1.alloc (.cells #[.int .i64 (C : Int), .int .i64 P, .int .i64 0] 80)) w1.heap.size _ _) := Lib.hid (RA.new w1 _ _)
  have HS : Hid (w.heap.size < (w1.alloc (.cells #[.int .i64 (C : Int), .int .i64 P, .int .i64 0] 80)).heap.size) := Lib.hid (by
    have := HL.out.size
    rw [World.size_alloc] at this
    omega)
  rw [hB] at HL HN7 HS
  have HR0 := Lib.hid ((RA.new w _ _).later HL.out)
  have HB := Lib.hid hB
  clear hB hg1
  go_wp2_with fail
  rw [HB.out]
  go_loopw [1, 8, 9] (fun q l i wr => RR bs C R B q l i wr) (fun _ _ i _ => C - (intOf i).toNat)
  case atStart => exact ⟨0, [], P, by omega, rfl, rfl, rfl, SL.nil _ _ _ _, by rw [HR.out]; exact cg_nil _ _ _, Later.refl _⟩
  case round =>
    obtain ⟨j, acc, a, hj, rfl, rfl, hl, hS, hc, hg⟩ := hrel
    have HSL := Lib.hid hS
    have HC := Lib.hid hc
    have HG := Lib.hid hg
    have HN := Lib.hid hl
    have HLw := Lib.hid (gtrans (gtrans ((Later.refl w).put _) HL.out) hg)
    have d0 := (HN7.out.later hg).cell 0 _ rfl
    have d1 := (HN7.out.later hg).cell 1 _ rfl
    have d2 := (HN7.out.later hg).cell 2 _ rfl
    have HRr := Lib.hid (HR0.out.later hg)
    clear hS hc hg hl
    by_cases hlt : j < C
    · have hCj : C - j = C - (j + 1) + 1 := by omega
      have HJ := Lib.hid hCj
      clear hCj
      by_cases he : gE bs a = 0
      · have t1 : (gE bs a != 0) = false := by simpa using he
        have HE := Lib.hid he
        clear he
        go_wp2_with fail
        refine (K.out a _ HLw.out).mono ?_
        rintro e w3 ⟨rfl, hg3⟩
        rw [HE.out]
        have HG3 := Lib.hid (gtrans HG.out (gtrans hg3 ((Later.refl w3).put (.cells #[.int .i64 (gN bs a), .int .i64 (gP bs a), .int .i64 0] 80))))
        have HSL3 := Lib.hid (HSL.out.later (gtrans hg3 ((Later.refl w3).put (.cells #[.int .i64 (gN bs a), .int .i64 (gP bs a), .int .i64 0] 80))))
        have HW := Lib.hid hg3.size
        have HOne : Hid (∀ j u, [Value.int .i64 (gN bs a)][j]? = some u → ((w3.alloc (.cells #[.int .i64 (gN bs a), .int .i64 (gP bs a), .int .i64 0] 80)).alloc (.cells #[.int .i64 (gN bs a)] 3)).cell? ((⟨w3.heap.size + 1, 0, none⟩ : Addr).add j) = some u) := by
          have h := cell_one_new (w3.alloc (.cells #[.int .i64 (gN bs a), .int .i64 (gP bs a), .int .i64 0] 80)) (.int .i64 (gN bs a)) 3
          rw [World.size_alloc] at h
          exact h
        clear hg3 d0 d1 d2
        go_wp2_with (at_builtin; go_loud (refine wpList_append_own _ rfl _ _ 52 rfl B.heap.size 3 i0 (.int .i64 0) 1 8 Tryd.underlying52 HI.out HZ0.out HZ1.out HZ2.out rfl (by decide) _ _ _ rfl (World.ownsRow.alloc HSL3.out _) ⟨w3.heap.size + 1, 0, none⟩ 1 1 [.int .i64 (gN bs a)] rfl rfl HOne.out (by simp [Value.oneCell']) (by have := HN.out; simp only [maxLen]; omega) (by have := HN.out; omega) (by have := HG3.out.size; simp only [World.size_alloc] at this ⊢; omega) ?_); go_loud (intro v' w4 hown' hgrow _; have HG4 := Lib.hid (later_grown (HG3.out.put _) (HSL3.out.later ((Later.refl _).put _)) hgrow); have HO4 : Hid (SL .i64 3 w4 B.heap.size v' (acc ++ [gN bs a])) := Lib.hid (by unfold SL; rw [List.length_append, List.map_append]; exact hown'); have R10 : RA w4 w3.heap.size _ _ := (hgrow.block w3.heap.size (by simp only [World.size_alloc]; omega) (fun e => by have := (World.ownsRow.lt HSL.out w3.heap.size e.symm).2; have := HW.out; omega)).trans (((RA.new w3 _ _).later ((Later.refl _).put _))); have d0 := R10.cell 0 _ rfl; have d1 := R10.cell 1 _ rfl; have d2 := R10.cell 2 _ rfl; clear hown' hgrow R10))
        go_roundw
        case rel => exact ⟨j + 1, acc ++ [gN bs a], gP bs a, by omega, by go_num, rfl, by have := HN.out; simp; omega, HO4.out, by rw [HC.out, HJ.out]; exact cg_on _ _ _ _ HE.out, HG4.out⟩
        case measure => simp [intOf]; omega
      · have t1 : (gE bs a != 0) = true := by simpa using he
        have HE := Lib.hid (cg_err bs acc (C - (j + 1)) a he)
        clear he
        go_wp2_with fail
        refine (K.out a _ HLw.out).mono ?_
        rintro e w3 ⟨rfl, hg3⟩
        have HR3 := Lib.hid (HRr.out.later (gtrans hg3 ((Later.refl w3).put (.cells #[.int .i64 (gN bs a), .int .i64 (gP bs a), .int .i64 (gE bs a)] 80))))
        have HLw3 := Lib.hid (gtrans HLw.out (gtrans hg3 ((Later.refl w3).put (.cells #[.int .i64 (gN bs a), .int .i64 (gP bs a), .int .i64 (gE bs a)] 80))))
        have c0 := HR3.out.cell 0 _ rfl
        have c1 := HR3.out.cell 1 _ rfl
        have c2 := HR3.out.cell 2 _ rfl
        have f0 := HR3.out.froz 0
        have f1 := HR3.out.froz 1
        have f2 := HR3.out.froz 2
        clear hg3 d0 d1 d2
        go_wp2_with fail
        refine bodyPost_ret (results_r (P := Tryd.prog) (fn := Tryd.f41) Tryd.results41 _ _ w.heap.size 77 _ _ rfl (HR3.out.set3 _ _ _) Tryd.underlying77 rfl (by kernel_rfl)) rfl ?_
        refine ⟨_, rfl, ⟨.slice none 0 0, ?_, ?_⟩, later_set3 HLw3.out (Nat.le_refl _) _ _ _⟩
        · rw [HC.out, HJ.out, HE.out]
        · rw [HC.out, HJ.out, HE.out]; exact sk_nil _ _
    · have hJ : C - j = 0 := by omega
      have HJ := Lib.hid hJ
      have c0 := HRr.out.cell 0 _ rfl
      have c1 := HRr.out.cell 1 _ rfl
      have c2 := HRr.out.cell 2 _ rfl
      have f0 := HRr.out.froz 0
      have f1 := HRr.out.froz 1
      have f2 := HRr.out.froz 2
      obtain ⟨a2, k2, rfl, _⟩ := HSL.out.sk.len
      have F : R = (acc, a, 0) := by rw [HC.out, HJ.out]; simp [gn, cg]
      have HF := Lib.hid F
      clear hJ F
      go_wp2
      refine bodyPost_ret (results_r (P := Tryd.prog) (fn := Tryd.f41) Tryd.results41 _ _ w.heap.size 77 _ _ rfl (HRr.out.set3 _ _ _) Tryd.underlying77 rfl (by kernel_rfl)) rfl ?_
      refine ⟨_, rfl, ⟨.slice a2 acc.length k2, ?_, ?_⟩, later_set3 HLw.out (Nat.le_refl _) _ _ _⟩
      · rw [HF.out]
      · rw [HF.out]; exact sl_out HSL.out HS.out (Out.set3 _ _ _ _ _)

theorem rgetrow_any (bs : List Int) (p m : Int) (v : Value) (w : World) (hs : Sk .u8 w v bs) (hb : By bs) (hn : bs.length ≤ 20000) (hm : m ≤ 1000) :
    Calls Tryd.prog 41 #[v, .int .i64 p, .int .i64 m] w fun e w' => ∃ u, e = .returned u ∧ Gr w' u (grow bs p m) ∧ Later w w' := by
  by_cases h : gE bs p = 0 ∧ 0 ≤ gN bs p ∧ gN bs p ≤ m
  · exact rgetrow_yes bs p m v w hs hb hn hm h
  · exact rgetrow_no bs p m v w hs hb hn h

end Go.Proofs.YtdljmpaabpkmkaaDoor.Fls
