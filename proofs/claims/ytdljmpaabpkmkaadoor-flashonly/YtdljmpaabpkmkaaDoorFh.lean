/-
  What the document's Get answers, by the reference. Conditions: the bytes are bytes, and at most 20000.
-/
import Derived.Test.YtdljmpaabpkmkaaDoorFy
namespace Go.Proofs.YtdljmpaabpkmkaaDoor.Fls
set_option maxRecDepth 100000
open Go.ChangeShapes Go.WideShapes Go.ChangeAt Go.RowKit
open Go.Proofs.YtdljmpaabpkmkaaDoor.Divs Go.Proofs.YtdljmpaabpkmkaaDoor.Grow Go.Proofs.YtdljmpaabpkmkaaDoor.By Go.Proofs.YtdljmpaabpkmkaaDoor.Wi Go.Proofs.YtdljmpaabpkmkaaDoor.Fa
open Go.Proofs.YtdljmpaabpkmkaaDoor.Wire (cb cb_zero cb_long cb_end cb_on or_lt pow_bd sp)

/-- The code that digits tell, the lowest first. -/
def vl : List Int → Int
  | [] => 0
  | x :: r => x % 128 + 128 * vl r

theorem vl_nn (l : List Int) : 0 ≤ vl l := by
  induction l with
  | nil => simp [vl]
  | cons x r ih => rw [vl]; omega

theorem vl_drop (l : List Int) (j : Nat) : vl (l.drop j) ≤ vl l := by
  induction l generalizing j with
  | nil => simp [vl]
  | cons x r ih =>
    cases j with
    | zero => exact Int.le_refl _
    | succ j =>
      rw [List.drop_succ_cons, vl]
      have := ih j
      have := vl_nn r
      omega

theorem vl_snoc (l : List Int) (x : Int) : vl (l ++ [x]) = vl l + x % 128 * 2 ^ (l.length * 7) := by
  induction l with
  | nil => simp [vl]
  | cons y r ih =>
    rw [List.cons_append, vl, ih, vl, List.length_cons, show (r.length + 1) * 7 = r.length * 7 + 7 by omega, Int.pow_add]
    rw [show (2 : Int) ^ 7 = 128 by decide]
    generalize (2 : Int) ^ (r.length * 7) = P
    rw [Int.mul_add, ← Int.mul_assoc, Int.mul_comm P 128, ← Int.mul_assoc, Int.mul_comm (x % 128) 128, Int.add_assoc]

theorem vl_step (l : List Int) (j : Nat) (x : Int) (h : l[j]? = some x) : vl (l.drop j) = x % 128 + 128 * vl (l.drop (j + 1)) := by
  have hj := (List.getElem?_eq_some_iff.1 h).1
  rw [List.drop_eq_getElem_cons hj, vl]
  rw [List.getElem?_eq_getElem hj] at h
  rw [Option.some.inj h]

def VRel (ds : List Int) (c i : Value) : Prop := (∃ j : Nat, j < ds.length ∧ i = .int .i64 (j : Int) ∧ c = .int .u64 (vl (ds.drop (j + 1)))) ∨ (i = .int .i64 (-1) ∧ c = .int .u64 (vl ds))

theorem nu_ret {c : Int} {V : Value} (h : V = .int .i64 (nu c)) : Ending.returned V = .returned (.int .i64 (nu c)) := by rw [h]

set_option maxHeartbeats 1000000 in
theorem rvalue_any (ds : List Int) (v : Value) (w : World) (hs : Sk .u8 w v ds) (hp : 0 < ds.length) (hl : ds.length ≤ 100) (hb : By ds) (hv : vl ds < 18446744073709551616) :
    Calls Tryd.prog 54 #[v] w fun e w' => e = .returned (.int .i64 (nu (vl ds))) ∧ w = w' := by
  obtain ⟨b, off, cap, rfl, _, _, _, hc⟩ := hs.has hp
  have HC := Lib.hid hc
  have HB := Lib.hid hb
  have HV := Lib.hid hv
  have HD := Lib.hid (vl_drop ds)
  have HT := Lib.hid (vl_step ds)
  have HN := Lib.hid vl_nn
  clear hs hc hb hv
  go_enter Tryd.func54, Tryd.ntmps54
  go_wp2
  go_loop [3, 4] (fun c i => VRel ds c i) (fun _ i => (intOf i + 1).toNat)
  case atStart => exact .inl ⟨ds.length - 1, by omega, by go_num, by rw [show ds.length - 1 + 1 = ds.length by omega, List.drop_length]; rfl⟩
  case round =>
    rcases hrel with ⟨j, hj, rfl, rfl⟩ | ⟨rfl, rfl⟩
    · obtain ⟨x, hx⟩ : ∃ x, ds[j]? = some x := ⟨_, List.getElem?_eq_getElem hj⟩
      obtain ⟨x0, x1⟩ := HB.out x (List.mem_of_getElem? hx)
      have c := HC.out j hj
      rw [List.getD_eq_getElem?_getD, hx, Option.getD_some] at c
      have e1 := HT.out j x hx
      have e2 := HD.out j
      have e3 := HN.out (ds.drop (j + 1))
      have e4 := HV.out
      generalize vl (ds.drop (j + 1)) = C at *
      have q1 : IntKind.u64.wrap (C * 128) = C * 128 := IntWalk.u64_in _ ⟨by omega, by omega⟩
      have q2 : IntKind.u64.wrap (C * 128 + x % 128) = C * 128 + x % 128 := IntWalk.u64_in _ ⟨by omega, by omega⟩
      have q3 : x.tmod 128 = x % 128 := Int.tmod_eq_emod_of_nonneg x0
      have HE : Hid (C * 128 + x % 128 = vl (ds.drop j)) := Lib.hid (by omega)
      clear e1 e2 e4 hx
      go_wp2
      go_round
      case rel =>
        cases j with
        | zero => exact .inr ⟨by go_num, by rw [HE.out]; rfl⟩
        | succ m => exact .inl ⟨m, by omega, by go_num, by rw [HE.out]⟩
      case measure => first | (simp [intOf]; done) | (simp [intOf]; omega)
    · have e3 := HN.out ds
      have e4 := HV.out
      generalize hC : vl ds = C at *
      have HE : Hid (nu C = if C % 2 = 1 then -1 - C / 2 else C / 2) := Lib.hid rfl
      have HK := Lib.hid hC
      clear hC
      by_cases h : C % 2 = 1
      · have H := Lib.hid h
        go_wp2
        go_ret
        exact ⟨by rw [HK.out, HE.out, if_pos H.out]; rfl, rfl⟩
      · have H := Lib.hid h
        go_wp2
        go_ret
        exact ⟨by rw [HK.out, HE.out, if_neg H.out]; rfl, rfl⟩

theorem rget_far (bs : List Int) (p : Int) (v : Value) (w : World) (hs : Sk .u8 w v bs) (h : ¬ (0 ≤ p ∧ p ≤ bs.length)) :
    Calls Tryd.prog 42 #[v, .int .i64 p] w fun e w' => e = .returned (.agg #[.int .i64 0, .int .i64 0, .int .i64 80]) ∧ Later w w' := by
  obtain ⟨ad, cap, rfl, _⟩ := hs.len
  clear hs
  generalize bs.length = n at *
  by_cases h0 : p < 0
  · clear h
    go_enter Tryd.func42, Tryd.ntmps42
    go_wp2
    refine bodyPost_ret (results_r (P := Tryd.prog) (fn := Tryd.f42) Tryd.results42 _ _ w.heap.size 80 _ _ rfl (RA.new w _ _) Tryd.underlying80 rfl (by kernel_rfl)) rfl ?_
    exact ⟨rfl, (Later.refl w).put _⟩
  · have h1 : (n : Int) < p := by omega
    clear h
    go_enter Tryd.func42, Tryd.ntmps42
    go_wp2
    refine bodyPost_ret (results_r (P := Tryd.prog) (fn := Tryd.f42) Tryd.results42 _ _ w.heap.size 80 _ _ rfl (RA.new w _ _) Tryd.underlying80 rfl (by kernel_rfl)) rfl ?_
    exact ⟨rfl, (Later.refl w).put _⟩

def GR (rs : List Int) (i : Value) : Prop := ∃ j : Nat, j ≤ rs.length ∧ j ≤ 9 ∧ i = .int .i64 (j : Int) ∧ vl (rs.take j) < 2 ^ (j * 7) ∧ gc 9 rs = cb j (vl (rs.take j)) (gc (9 - j) (rs.drop j))

theorem vl_take (rs : List Int) (j : Nat) (x : Int) (h : rs[j]? = some x) : vl (rs.take (j + 1)) = vl (rs.take j) + x % 128 * 2 ^ (j * 7) := by
  have hj := (List.getElem?_eq_some_iff.1 h).1
  rw [List.take_add_one, h, Option.toList_some, vl_snoc, List.length_take, Nat.min_eq_left (by omega)]

theorem sp_of (j : Nat) (x : Int) : (j = 9 ∧ 1 < x ∧ sp j x = 2) ∨ (¬ (j = 9 ∧ 1 < x) ∧ 128 ≤ x ∧ sp j x = 0) ∨ (¬ (j = 9 ∧ 1 < x) ∧ ¬ 128 ≤ x ∧ 0 < j ∧ x = 0 ∧ sp j x = 2) ∨ (¬ (j = 9 ∧ 1 < x) ∧ ¬ 128 ≤ x ∧ ¬ (0 < j ∧ x = 0) ∧ sp j x = 1) := by
  unfold sp
  by_cases h1 : j = 9 ∧ 1 < x
  · left
    exact ⟨h1.1, h1.2, if_pos ⟨by omega, h1.2⟩⟩
  · rw [if_neg (by omega)]
    by_cases h2 : 128 ≤ x
    · right; left
      exact ⟨h1, h2, if_pos h2⟩
    · rw [if_neg h2]
      by_cases h3 : 0 < j ∧ x = 0
      · right; right; left
        exact ⟨h1, h2, h3.1, h3.2, if_pos ⟨by omega, h3.2⟩⟩
      · right; right; right
        exact ⟨h1, h2, h3, if_neg (by omega)⟩

set_option maxHeartbeats 2000000 in
theorem rget_in (bs : List Int) (k : Nat) (v : Value) (w : World) (hs : Sk .u8 w v bs) (hk : k ≤ bs.length) (hn : bs.length ≤ 20000) (hb : By bs) (rs : List Int) (hr : rs = bs.drop k) (N P E : Int)
    (HF : Hid (∀ r, gc 9 rs = r → N = (if r.2.2 = 0 then nu r.1 else 0) ∧ P = (if r.2.2 = 0 then (k : Int) + (r.2.1 : Int) else 0) ∧ E = r.2.2)) :
    Calls Tryd.prog 42 #[v, .int .i64 (k : Int)] w fun e w' => e = .returned (.agg #[.int .i64 N, .int .i64 P, .int .i64 E]) ∧ Later w w' := by
  have HS := Lib.hid hs
  have hl : rs.length = bs.length - k := by rw [hr, List.length_drop]
  have HCell : Hid (∀ i x, bs[i]? = some x → ∃ b off cap, v = .slice (some ⟨b, off, none⟩) bs.length cap ∧ b < w.heap.size ∧ w.cell? ⟨b, off + i, none⟩ = some (.int .u8 x)) := Lib.hid (fun i x hx => by
    have hi := (List.getElem?_eq_some_iff.1 hx).1
    obtain ⟨b, off, cap, e, _, _, hlt, hc⟩ := hs.has (by omega)
    refine ⟨b, off, cap, e, hlt, ?_⟩
    have := hc i hi
    rwa [List.getD_eq_getElem?_getD, hx] at this)
  have HR := Lib.hid hr
  have HB := Lib.hid hb
  have k0 : decide ((k : Int) < 0) = false := by simp
  have k1 : decide ((k : Int) > (bs.length : Int)) = false := by simp; omega
  obtain ⟨ad, cap, rfl, _⟩ := hs.len
  clear hr hb hs
  go_enter Tryd.func42, Tryd.ntmps42
  go_wp2
  go_loop [5] (fun i => GR rs i) (fun i => rs.length - (intOf i).toNat)
  case atStart => exact ⟨0, by omega, by omega, rfl, by simp [vl], by rw [List.drop_zero, List.take_zero]; exact cb_zero rs⟩
  case round =>
    obtain ⟨j, hj, hj9, rfl, a1, hg⟩ := hrel
    have HG := Lib.hid hg
    have HA := Lib.hid a1
    clear hg a1
    by_cases hlt : j < rs.length
    · obtain ⟨x, hx⟩ : ∃ x, rs[j]? = some x := ⟨_, List.getElem?_eq_getElem hlt⟩
      have hx' := hx
      rw [HR.out, List.getElem?_drop] at hx'
      obtain ⟨x0, x1⟩ := HB.out x (List.mem_of_getElem? hx')
      obtain ⟨b, off, cap', e, hbl, c⟩ := HCell.out _ _ hx'
      simp only [Value.slice.injEq] at e
      obtain ⟨rfl, _, rfl⟩ := e
      have t : (k : Int) + (j : Int) < (bs.length : Int) := by omega
      have q : wrap64 ((k : Int) + (j : Int)) = (k : Int) + (j : Int) := by unfold wrap64; omega
      have HX : Hid (rs.drop j = x :: rs.drop (j + 1)) := by
        have : rs.drop j = x :: rs.drop (j + 1) := by
          rw [List.drop_eq_getElem_cons hlt]
          congr 1
          rw [List.getElem?_eq_getElem hlt] at hx
          exact Option.some.inj hx
        exact this
      have HVT := Lib.hid (vl_take rs j x hx)
      clear hx hx'
      rcases sp_of j x with ⟨h1, h2, hsp⟩ | ⟨h1, h2, hsp⟩ | ⟨h1, h2, h3, h4, hsp⟩ | ⟨h1, h2, h3, hsp⟩
      · have HV := Lib.hid (cb_long j (vl (rs.take j)) x (rs.drop (j + 1)) hj9 hsp)
        subst h1
        clear hsp
        go_wp2_with fail
        refine bodyPost_ret (results_r (P := Tryd.prog) (fn := Tryd.f42) Tryd.results42 _ _ w.heap.size 80 _ _ rfl (RA.new w _ _) Tryd.underlying80 rfl (by kernel_rfl)) rfl ?_
        obtain ⟨f1, f2, f3⟩ := HF.out _ (by rw [HG.out, HX.out, HV.out])
        rw [f1, f2, f3]
        exact ⟨rfl, (Later.refl w).put _⟩
      · obtain ⟨hv, hjl⟩ := cb_on j (vl (rs.take j)) x (rs.drop (j + 1)) hj9 x1 hsp
        have HV := Lib.hid hv
        have HT := Lib.hid (or_lt (vl (rs.take j)) (x % 128) j HA.out (by omega))
        have u1 : (j = 9 ∧ 1 < x) = False := eq_false h1
        have u2 : ¬ j = 9 := by omega
        clear hsp hv
        go_wp2_with fail
        go_round
        case rel => exact ⟨j + 1, by omega, by omega, by go_num, by rw [HVT.out]; exact HT.out, by rw [HG.out, HX.out, HV.out, HVT.out]⟩
        case measure => simp [intOf]; omega
      · have HV := Lib.hid (cb_long j (vl (rs.take j)) x (rs.drop (j + 1)) hj9 hsp)
        subst h4
        clear hsp h1 h2
        by_cases z1 : j = 9
        · have zz : ((j : Int) == 9) = true := by simp; omega
          clear z1
          go_wp2_with fail
          refine bodyPost_ret (results_r (P := Tryd.prog) (fn := Tryd.f42) Tryd.results42 _ _ w.heap.size 80 _ _ rfl (RA.new w _ _) Tryd.underlying80 rfl (by kernel_rfl)) rfl ?_
          obtain ⟨f1, f2, f3⟩ := HF.out _ (by rw [HG.out, HX.out, HV.out])
          rw [f1, f2, f3]
          exact ⟨rfl, (Later.refl w).put _⟩
        · have zz : ((j : Int) == 9) = false := by simp; omega
          clear z1
          go_wp2_with fail
          refine bodyPost_ret (results_r (P := Tryd.prog) (fn := Tryd.f42) Tryd.results42 _ _ w.heap.size 80 _ _ rfl (RA.new w _ _) Tryd.underlying80 rfl (by kernel_rfl)) rfl ?_
          obtain ⟨f1, f2, f3⟩ := HF.out _ (by rw [HG.out, HX.out, HV.out])
          rw [f1, f2, f3]
          exact ⟨rfl, (Later.refl w).put _⟩
      · obtain ⟨hv, hx1, hx9⟩ := cb_end j (vl (rs.take j)) x (rs.drop (j + 1)) hj9 x0 hsp
        have HV := Lib.hid hv
        have hb2 : vl (rs.take (j + 1)) < 18446744073709551616 := by
          rw [HVT.out]
          have h0 := vl_nn (rs.take j)
          have h1 := HA.out
          by_cases h9 : j = 9
          · subst h9
            rw [show (2 : Int) ^ (9 * 7) = 9223372036854775808 by decide] at h1 ⊢
            have := hx9 rfl
            omega
          · have h2 := or_lt (vl (rs.take j)) (x % 128) j h1 (by omega)
            have h3 := (pow_bd (j + 1) (by omega)).1
            omega
        obtain ⟨ad, cap, u, e, sl, hu⟩ := cut_lh HS.out k (k + j + 1) (by omega) (by omega)
        simp only [Value.slice.injEq] at e
        obtain ⟨rfl, _, rfl⟩ := e
        rw [← HR.out, show k + j + 1 - k = j + 1 by omega] at hu
        rw [show ((k + j + 1 : Nat) : Int) = (k : Int) + (j : Int) + 1 by omega] at sl
        have V := Lib.hid (fun W (g : Later w W) => rvalue_any (rs.take (j + 1)) u W (hu.later g) (by rw [List.length_take]; omega) (by rw [List.length_take]; omega) (fun y hy => HB.out y (by rw [HR.out] at hy; exact List.mem_of_mem_drop (List.mem_of_mem_take hy))) hb2)
        have q2 : wrap64 ((k : Int) + (j : Int) + 1) = (k : Int) + (j : Int) + 1 := by unfold wrap64; omega
        clear hsp hv hb2 hu
        have w1 : ¬ (128 ≤ x) := h2
        by_cases z1 : j = 9
        · have zz : ((j : Int) == 9) = true := by simp; omega
          have z2 : ¬ 1 < x := by omega
          have z3 : ¬ x = 0 := by omega
          have z4 : 0 < j := by omega
          clear z1 h1 h3
          go_wp2_with fail
          refine (V.out _ ((Later.refl w).put _)).mono ?_
          rintro e w2 ⟨rfl, rfl⟩
          go_wp2_with fail
          refine bodyPost_ret (results_r (P := Tryd.prog) (fn := Tryd.f42) Tryd.results42 _ _ w.heap.size 80 _ _ rfl (RA.new w _ _) Tryd.underlying80 rfl (by kernel_rfl)) rfl ?_
          obtain ⟨f1, f2, f3⟩ := HF.out _ (by rw [HG.out, HX.out, HV.out])
          rw [f1, f2, f3, HVT.out]
          exact ⟨by simp; omega, (Later.refl w).put _⟩
        · have zz : ((j : Int) == 9) = false := by simp; omega
          clear z1 h1
          by_cases z2 : 0 < j
          · have z3 : ¬ x = 0 := by omega
            clear h3
            go_wp2_with fail
            refine (V.out _ ((Later.refl w).put _)).mono ?_
            rintro e w2 ⟨rfl, rfl⟩
            go_wp2_with fail
            refine bodyPost_ret (results_r (P := Tryd.prog) (fn := Tryd.f42) Tryd.results42 _ _ w.heap.size 80 _ _ rfl (RA.new w _ _) Tryd.underlying80 rfl (by kernel_rfl)) rfl ?_
            obtain ⟨f1, f2, f3⟩ := HF.out _ (by rw [HG.out, HX.out, HV.out])
            rw [f1, f2, f3, HVT.out]
            exact ⟨by simp; omega, (Later.refl w).put _⟩
          · go_wp2_with fail
            refine (V.out _ ((Later.refl w).put _)).mono ?_
            rintro e w2 ⟨rfl, rfl⟩
            go_wp2_with fail
            refine bodyPost_ret (results_r (P := Tryd.prog) (fn := Tryd.f42) Tryd.results42 _ _ w.heap.size 80 _ _ rfl (RA.new w _ _) Tryd.underlying80 rfl (by kernel_rfl)) rfl ?_
            obtain ⟨f1, f2, f3⟩ := HF.out _ (by rw [HG.out, HX.out, HV.out])
            rw [f1, f2, f3, HVT.out]
            exact ⟨by simp; omega, (Later.refl w).put _⟩
    · have HV : Hid (gc 9 rs = (0, 0, 81)) := by
        have : gc 9 rs = (0, 0, 81) := by
          rw [HG.out, List.drop_eq_nil_of_le (by omega), gc]
          rfl
        exact this
      have t : ¬ (k : Int) + (j : Int) < (bs.length : Int) := by omega
      have q : wrap64 ((k : Int) + (j : Int)) = (k : Int) + (j : Int) := by unfold wrap64; omega
      go_wp2
      refine bodyPost_ret (results_r (P := Tryd.prog) (fn := Tryd.f42) Tryd.results42 _ _ w.heap.size 80 _ _ rfl (RA.new w _ _) Tryd.underlying80 rfl (by kernel_rfl)) rfl ?_
      obtain ⟨f1, f2, f3⟩ := HF.out _ HV.out
      rw [f1, f2, f3]
      exact ⟨rfl, (Later.refl w).put _⟩

end Go.Proofs.YtdljmpaabpkmkaaDoor.Fls
