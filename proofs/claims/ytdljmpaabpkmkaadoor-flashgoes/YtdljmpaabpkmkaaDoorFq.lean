/-
  What the document's Read answers, by the reference. Conditions: the bytes are bytes, and at most 20000.
-/
import Derived.Test.YtdljmpaabpkmkaaDoorFj
import Derived.Test.YtdljmpaabpkmkaaDoorFo
import Derived.Test.YtdljmpaabpkmkaaDoorFg
namespace Go.Proofs.YtdljmpaabpkmkaaDoor.Fls
set_option maxRecDepth 100000
open Go.ChangeShapes Go.WideShapes Go.ChangeAt Go.RowKit
open Go.Proofs.YtdljmpaabpkmkaaDoor.Divs Go.Proofs.YtdljmpaabpkmkaaDoor.Grow Go.Proofs.YtdljmpaabpkmkaaDoor.By Go.Proofs.YtdljmpaabpkmkaaDoor.Wi Go.Proofs.YtdljmpaabpkmkaaDoor.Fa
open Go.Proofs.YtdljmpaabpkmkaaDoor.Crc (Laid ropen_any)

/-- What the reference tells of a slot. -/
def Gt (W : World) (v : Value) (r : Rc) (E : Int) : Prop := ∃ u, v = .agg #[.int .i64 r.g, .int .i64 r.c, .int .i64 r.m, u, .int .i64 E] ∧ Sk .u8 W u r.b

theorem Gt.later {W W' : World} {v : Value} {r : Rc} {E : Int} (h : Gt W v r E) (g : Later W W') : Gt W' v r E := by
  obtain ⟨u, rfl, hu⟩ := h
  exact ⟨u, rfl, hu.later g⟩

theorem gt_zero (W : World) (E : Int) : Gt W (.agg #[.int .i64 0, .int .i64 0, .int .i64 0, .slice none 0 0, .int .i64 E]) r0 E := ⟨_, rfl, sk_nil _ _⟩

theorem RA.set5 {W : World} {g : Nat} {t : TypeId} {u0 u1 u2 u3 u4 : Value} (h : RA W g #[u0, u1, u2, u3, u4] t) (v0 v1 v2 v3 v4 : Value) :
    RA (((((W.setCell ⟨g, 0, none⟩ v0).setCell ⟨g, 1, none⟩ v1).setCell ⟨g, 2, none⟩ v2).setCell ⟨g, 3, none⟩ v3).setCell ⟨g, 4, none⟩ v4) g #[v0, v1, v2, v3, v4] t := by
  have := ((((h.set 0 v0).set 1 v1).set 2 v2).set 3 v3).set 4 v4
  simpa using this

theorem later_set5 {w W : World} (h : Later w W) {g : Nat} (hg : w.heap.size ≤ g) (v0 v1 v2 v3 v4 : Value) : Later w (((((W.setCell ⟨g, 0, none⟩ v0).setCell ⟨g, 1, none⟩ v1).setCell ⟨g, 2, none⟩ v2).setCell ⟨g, 3, none⟩ v3).setCell ⟨g, 4, none⟩ v4) :=
  later_set (later_set4 h hg v0 v1 v2 v3) hg _ _

theorem rread_err (bs : List Int) (hb : By bs) (hn : bs.length ≤ 20000) (E : Int) (he : (grow bs 0 3).2.2 = E) (h0 : E ≠ 0) (v : Value) (w : World) (hs : Sk .u8 w v bs) :
    Calls Tryd.prog 27 #[v] w fun e w' => ∃ u, e = .returned u ∧ Gt w' u r0 E ∧ Later w w' := by
  have K := Lib.hid (fun W (g : Later w W) => rgetrow_any bs 0 3 v W (hs.later g) hb hn (by omega))
  have t : (E != 0) = true := by simpa using h0
  obtain ⟨ad, cap, rfl, _⟩ := hs.len
  have HE := Lib.hid he
  clear hs hb h0 hn he
  go_enter Tryd.func27, Tryd.ntmps27
  go_wp2_with fail
  refine (K.out _ ((Later.refl w).put _)).mono ?_
  rintro e w1 ⟨u, rfl, ⟨l, rfl, hl⟩, hg1⟩
  rw [HE.out]
  obtain ⟨a1, k1, rfl, _⟩ := hl.len
  generalize (grow bs 0 3).2.1 = P at *
  generalize (grow bs 0 3).1.length = n at *
  clear hl
  have R := (RA.new w _ _).later (gtrans hg1 ((Later.refl w1).put (.cells #[.slice a1 n k1, .int .i64 P, .int .i64 E] 77)))
  have c0 := R.cell 0 _ rfl
  have c1 := R.cell 1 _ rfl
  have c2 := R.cell 2 _ rfl
  have c3 := R.cell 3 _ rfl
  have c4 := R.cell 4 _ rfl
  have f0 := R.froz 0
  have f1 := R.froz 1
  have f2 := R.froz 2
  have f3 := R.froz 3
  have f4 := R.froz 4
  go_wp2_with fail
  refine bodyPost_ret (results_r (P := Tryd.prog) (fn := Tryd.f27) Tryd.results27 _ _ w.heap.size 63 _ _ rfl (R.set5 _ _ _ _ _) Tryd.underlying63 rfl (by kernel_rfl)) rfl ?_
  exact ⟨_, rfl, gt_zero _ _, later_set5 (gtrans (gtrans ((Later.refl w).put _) hg1) ((Later.refl w1).put _)) (Nat.le_refl _) _ _ _ _ _⟩

theorem rread_len (bs : List Int) (hb : By bs) (hn : bs.length ≤ 20000) (he : (grow bs 0 3).2.2 = 0) (hl3 : (grow bs 0 3).1.length ≠ 3) (v : Value) (w : World) (hs : Sk .u8 w v bs) :
    Calls Tryd.prog 27 #[v] w fun e w' => ∃ u, e = .returned u ∧ Gt w' u r0 120 ∧ Later w w' := by
  have K := Lib.hid (fun W (g : Later w W) => rgetrow_any bs 0 3 v W (hs.later g) hb hn (by omega))
  obtain ⟨ad, cap, rfl, _⟩ := hs.len
  have HE := Lib.hid he
  have t : (((grow bs 0 3).1.length : Int) != 3) = true := by
    simp
    omega
  clear hs hb hn he hl3
  go_enter Tryd.func27, Tryd.ntmps27
  go_wp2_with fail
  refine (K.out _ ((Later.refl w).put _)).mono ?_
  rintro e w1 ⟨u, rfl, ⟨l, rfl, hl⟩, hg1⟩
  rw [HE.out]
  obtain ⟨a1, k1, rfl, _⟩ := hl.len
  generalize (grow bs 0 3).2.1 = P at *
  generalize (grow bs 0 3).1.length = n at *
  clear hl
  have R := (RA.new w _ _).later (gtrans hg1 ((Later.refl w1).put (.cells #[.slice a1 n k1, .int .i64 P, .int .i64 0] 77)))
  have c0 := R.cell 0 _ rfl
  have c1 := R.cell 1 _ rfl
  have c2 := R.cell 2 _ rfl
  have c3 := R.cell 3 _ rfl
  have c4 := R.cell 4 _ rfl
  have f0 := R.froz 0
  have f1 := R.froz 1
  have f2 := R.froz 2
  have f3 := R.froz 3
  have f4 := R.froz 4
  go_wp2_with fail
  refine bodyPost_ret (results_r (P := Tryd.prog) (fn := Tryd.f27) Tryd.results27 _ _ w.heap.size 63 _ _ rfl (R.set5 _ _ _ _ _) Tryd.underlying63 rfl (by kernel_rfl)) rfl ?_
  exact ⟨_, rfl, gt_zero _ _, later_set5 (gtrans (gtrans ((Later.refl w).put _) hg1) ((Later.refl w1).put _)) (Nat.le_refl _) _ _ _ _ _⟩

end Go.Proofs.YtdljmpaabpkmkaaDoor.Fls
