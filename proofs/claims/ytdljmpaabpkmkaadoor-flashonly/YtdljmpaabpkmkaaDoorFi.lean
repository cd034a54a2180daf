/-
  What the document's Get and GetRow answer, by the reference. Conditions: the bytes are bytes, and at most 20000; at most so many numbers as 1000 are asked for.
-/
import Derived.Test.YtdljmpaabpkmkaaDoorFh
namespace Go.Proofs.YtdljmpaabpkmkaaDoor.Fls
set_option maxRecDepth 100000
open Go.ChangeShapes Go.WideShapes Go.ChangeAt Go.RowKit
open Go.Proofs.YtdljmpaabpkmkaaDoor.Divs Go.Proofs.YtdljmpaabpkmkaaDoor.Grow Go.Proofs.YtdljmpaabpkmkaaDoor.By Go.Proofs.YtdljmpaabpkmkaaDoor.Wi Go.Proofs.YtdljmpaabpkmkaaDoor.Fa
open Go.Proofs.YtdljmpaabpkmkaaDoor.Wire (cg cg_nil cg_on cg_err gn_err)

theorem rget_any (bs : List Int) (p : Int) (v : Value) (w : World) (hs : Sk .u8 w v bs) (hb : By bs) (hn : bs.length ≤ 20000) :
    Calls Tryd.prog 42 #[v, .int .i64 p] w fun e w' => e = .returned (.agg #[.int .i64 (gN bs p), .int .i64 (gP bs p), .int .i64 (gE bs p)]) ∧ Later w w' := by
  by_cases h : 0 ≤ p ∧ p ≤ bs.length
  · obtain ⟨k, rfl⟩ := Int.eq_ofNat_of_zero_le h.1
    refine rget_in bs k v w hs (by omega) hn hb _ rfl _ _ _ (Lib.hid ?_)
    rintro r rfl
    unfold gN gP gE
    rw [if_pos h, if_pos h, if_pos h, Int.toNat_natCast]
    exact ⟨rfl, rfl, rfl⟩
  · unfold gN gP gE
    rw [if_neg h, if_neg h, if_neg h]
    exact rget_far bs p v w hs h

theorem RA.set3 {W : World} {g : Nat} {t : TypeId} {u0 u1 u2 : Value} (h : RA W g #[u0, u1, u2] t) (v0 v1 v2 : Value) :
    RA (((W.setCell ⟨g, 0, none⟩ v0).setCell ⟨g, 1, none⟩ v1).setCell ⟨g, 2, none⟩ v2) g #[v0, v1, v2] t := by
  have := ((h.set 0 v0).set 1 v1).set 2 v2
  simpa using this

theorem later_set3 {w W : World} (h : Later w W) {g : Nat} (hg : w.heap.size ≤ g) (v0 v1 v2 : Value) : Later w (((W.setCell ⟨g, 0, none⟩ v0).setCell ⟨g, 1, none⟩ v1).setCell ⟨g, 2, none⟩ v2) :=
  later_set (later_set (later_set h hg _ _) hg _ _) hg _ _

theorem Out.set3 (g : Nat) (W : World) (v0 v1 v2 : Value) : Out g W (((W.setCell ⟨g, 0, none⟩ v0).setCell ⟨g, 1, none⟩ v1).setCell ⟨g, 2, none⟩ v2) :=
  (((Out.refl g W).set 0 v0).set 1 v1).set 2 v2

/-- What the reference tells of a row. -/
def Gr (W : World) (u : Value) (r : List Int × Int × Int) : Prop := ∃ l, u = .agg #[l, .int .i64 r.2.1, .int .i64 r.2.2] ∧ Sk .i64 W l r.1

set_option maxHeartbeats 1000000 in
theorem rgetrow_no (bs : List Int) (p m : Int) (v : Value) (w : World) (hs : Sk .u8 w v bs) (hb : By bs) (hn : bs.length ≤ 20000) (h : ¬ (gE bs p = 0 ∧ 0 ≤ gN bs p ∧ gN bs p ≤ m)) :
    Calls Tryd.prog 41 #[v, .int .i64 p, .int .i64 m] w fun e w' => ∃ u, e = .returned u ∧ Gr w' u (grow bs p m) ∧ Later w w' := by
  have K := Lib.hid (fun W (g : Later w W) => rget_any bs p v W (hs.later g) hb hn)
  have e0 : gE bs p ≠ 0 → grow bs p m = ([], 0, gE bs p) := fun h => by unfold grow; rw [if_neg h]
  have e1 : gE bs p = 0 → ¬ (0 ≤ gN bs p ∧ gN bs p ≤ m) → grow bs p m = ([], 0, 83) := fun h k => by unfold grow; rw [if_pos h, if_neg k]
  obtain ⟨ad, cap, rfl, _⟩ := hs.len
  clear hs hb hn
  generalize gP bs p = P at *
  generalize gN bs p = N at *
  by_cases he : gE bs p = 0
  · have hk : ¬ (0 ≤ N ∧ N ≤ m) := fun k => h ⟨he, k⟩
    rw [e1 he hk]
    rw [he] at K
    clear e0 e1 h he
    by_cases h0 : N < 0
    · clear hk
      go_enter Tryd.func41, Tryd.ntmps41
      go_wp2_with fail
      refine (K.out _ ((Later.refl w).put _)).mono ?_
      rintro e w1 ⟨rfl, hg1⟩
      have R := (RA.new w _ _).later (gtrans hg1 ((Later.refl w1).put (.cells #[.int .i64 N, .int .i64 P, .int .i64 0] 80)))
      have c0 := R.cell 0 _ rfl
      have c1 := R.cell 1 _ rfl
      have c2 := R.cell 2 _ rfl
      have f0 := R.froz 0
      have f1 := R.froz 1
      have f2 := R.froz 2
      go_wp2_with fail
      refine bodyPost_ret (results_r (P := Tryd.prog) (fn := Tryd.f41) Tryd.results41 _ _ w.heap.size 77 _ _ rfl (R.set3 _ _ _) Tryd.underlying77 rfl (by kernel_rfl)) rfl ?_
      exact ⟨_, rfl, ⟨_, rfl, sk_nil _ _⟩, later_set3 (gtrans (gtrans ((Later.refl w).put _) hg1) ((Later.refl w1).put _)) (Nat.le_refl _) _ _ _⟩
    · have h1 : m < N := by omega
      clear hk
      go_enter Tryd.func41, Tryd.ntmps41
      go_wp2_with fail
      refine (K.out _ ((Later.refl w).put _)).mono ?_
      rintro e w1 ⟨rfl, hg1⟩
      have R := (RA.new w _ _).later (gtrans hg1 ((Later.refl w1).put (.cells #[.int .i64 N, .int .i64 P, .int .i64 0] 80)))
      have c0 := R.cell 0 _ rfl
      have c1 := R.cell 1 _ rfl
      have c2 := R.cell 2 _ rfl
      have f0 := R.froz 0
      have f1 := R.froz 1
      have f2 := R.froz 2
      go_wp2_with fail
      refine bodyPost_ret (results_r (P := Tryd.prog) (fn := Tryd.f41) Tryd.results41 _ _ w.heap.size 77 _ _ rfl (R.set3 _ _ _) Tryd.underlying77 rfl (by kernel_rfl)) rfl ?_
      exact ⟨_, rfl, ⟨_, rfl, sk_nil _ _⟩, later_set3 (gtrans (gtrans ((Later.refl w).put _) hg1) ((Later.refl w1).put _)) (Nat.le_refl _) _ _ _⟩
  · rw [e0 he]
    generalize gE bs p = E at *
    have t : (E != 0) = true := by simpa using he
    clear e0 e1 h he
    go_enter Tryd.func41, Tryd.ntmps41
    go_wp2_with fail
    refine (K.out _ ((Later.refl w).put _)).mono ?_
    rintro e w1 ⟨rfl, hg1⟩
    have R := (RA.new w _ _).later (gtrans hg1 ((Later.refl w1).put (.cells #[.int .i64 N, .int .i64 P, .int .i64 E] 80)))
    have c0 := R.cell 0 _ rfl
    have c1 := R.cell 1 _ rfl
    have c2 := R.cell 2 _ rfl
    have f0 := R.froz 0
    have f1 := R.froz 1
    have f2 := R.froz 2
    go_wp2_with fail
    refine bodyPost_ret (results_r (P := Tryd.prog) (fn := Tryd.f41) Tryd.results41 _ _ w.heap.size 77 _ _ rfl (R.set3 _ _ _) Tryd.underlying77 rfl (by kernel_rfl)) rfl ?_
    exact ⟨_, rfl, ⟨_, rfl, sk_nil _ _⟩, later_set3 (gtrans (gtrans ((Later.refl w).put _) hg1) ((Later.refl w1).put _)) (Nat.le_refl _) _ _ _⟩

def RR (bs : List Int) (C : Nat) (R : List Int × Int × Int) (w : World) (q l i : Value) (wr : World) : Prop :=
  ∃ (j : Nat) (acc : List Int) (a : Int), j ≤ C ∧ i = .int .i64 (j : Int) ∧ q = .int .i64 a ∧ acc.length = j ∧ SL .i64 3 wr w.heap.size l acc ∧ R = cg acc (gn bs (C - j) a) ∧ Later w wr

end Go.Proofs.YtdljmpaabpkmkaaDoor.Fls
