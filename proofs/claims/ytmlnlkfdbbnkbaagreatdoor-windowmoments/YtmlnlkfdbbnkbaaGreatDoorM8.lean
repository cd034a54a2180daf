/-
  Texts of mine, merged: each part says what it holds. Conditions: as each theorem states.
-/
import Derived.Test.YtmlnlkfdbbnkbaaGreatDoorRows
import Derived.ProofKit
import Derived.OpenShut
import Derived.ShutString
import Derived.ChangeOld
import Derived.Below
import Derived.Carry
import Derived.Lib.SmallJoins
import Derived.Test.YtmlnlkfdbbnkbaaGreatDoorM7

/- Whether a configuration's stops may be, by the reckoning. No condition but those that each theorem states. -/
namespace Go.Proofs.YtmlnlkfdbbnkbaaGreatDoor.Conf
set_option maxRecDepth 100000
set_option maxRecDepth 100000
open Go.ChangeShapes Go.WideShapes Go.ChangeAt Go.RowKit
open Go.Proofs.YtmlnlkfdbbnkbaaGreatDoor.Divs Go.Proofs.YtmlnlkfdbbnkbaaGreatDoor.Grow Go.Proofs.YtmlnlkfdbbnkbaaGreatDoor.Zone
open Go.Proofs.YtmlnlkfdbbnkbaaGreatDoor.By (Sk SL bool_no bool_yes)
open Go.Proofs.YtmlnlkfdbbnkbaaGreatDoor.Each
open Go.Proofs.YtmlnlkfdbbnkbaaGreatDoor.Zo Go.Proofs.YtmlnlkfdbbnkbaaGreatDoor.Su Go.Proofs.YtmlnlkfdbbnkbaaGreatDoor.Cf

theorem to_small (c : Cg) (h : c.st.length < 2) : to c = false := by
  cases e : to c with
  | false => rfl
  | true => have := (to_iff c).1 e; omega

theorem to_not (c : Cg) (k : Nat) (hk : k < c.st.length) (h : ¬ sg c.f c.st k) : to c = false := by
  cases e : to c with
  | false => rfl
  | true => exact absurd (((to_iff c).1 e).2 k hk) h

/-- The first k stops may be. -/
def TRel (c : Cg) (W : World) (i : Value) (wr : World) : Prop := ∃ k j : Nat, k ≤ c.st.length ∧ i = .int .i64 (k : Int) ∧ su c.f c.st k ∧ wr = W.drewN j

set_option maxHeartbeats 2000000 in
theorem rstops_any (c : Cg) (u v : Value) (w : World) (hu : Sk .i64 w u c.st) : Calls Tryz.prog 47 #[.agg (cc c u v)] w fun e w' => e = .returned (.bool (to c)) ∧ Later w w' := by
  have HS : Hid (c.st.length < 2 → to c = false) := Lib.hid (to_small c)
  have HN : Hid (∀ k, k < c.st.length → ¬ sg c.f c.st k → to c = false) := Lib.hid (to_not c)
  have HY : Hid (2 ≤ c.st.length → su c.f c.st c.st.length → to c = true) := Lib.hid (fun a b => (to_iff c).2 ⟨a, b⟩)
  generalize to c = R at *
  obtain ⟨C, hC⟩ : ∃ C, C = cc c u v := ⟨_, rfl⟩
  rw [← hC]
  have f0 : C[0]? = some (.int .i64 c.f) := by rw [hC]; rfl
  have f3 : C[3]? = some u := by rw [hC]; rfl
  clear hC
  have HL := Lib.hid ((Later.refl w).alloc C 33)
  rcases Nat.eq_zero_or_pos c.st.length with h0 | h0
  · have HV := Lib.hid (HS.out (by omega))
    obtain ⟨ad, cap, rfl, _⟩ := hu.len
    rw [h0] at f3
    clear hu h0
    go_enter Tryz.func47, Tryz.ntmps47
    go_wp2_with fail
    refine wp_loop_rounds 1 ?_
    rw [rounds_succ]
    go_wp2
    go_ret
    exact ⟨retb HV.out.symm, HL.out⟩
  · obtain ⟨B, off, cap, rfl, _, m1, hB, hc⟩ := hu.has h0
    have hm : c.st.length ≤ 9223372036854775807 := by omega
    have HC : Hid (∀ i, i < c.st.length → (w.alloc (.cells C 33)).cell? ⟨B, off + i, none⟩ = some (.int .i64 (c.st.getD i 0))) := Lib.hid (fun i hi => gsome HL.out (hc i hi))
    have HA := Lib.hid (At.new w C 33)
    obtain ⟨F, hF⟩ : ∃ F, c.f = F := ⟨_, rfl⟩
    rw [hF] at f0
    have HF := Lib.hid hF
    clear hF
    have c0 := HA.out 0 _ f0
    have c3 := HA.out 3 _ f3
    clear hu hc m1 f0 f3 hB HA
    obtain ⟨n, hn⟩ : ∃ n, c.st.length = n := ⟨_, rfl⟩
    rw [hn] at hm h0 c3
    have HX := Lib.hid hn
    clear hn
    go_enter Tryz.func47, Tryz.ntmps47
    go_wp2_with fail
    generalize w.alloc (.cells C 33) = W0 at *
    go_loopw [3] (fun i wr => TRel c W0 i wr) (fun i _ => (n - intOf i).toNat)
    case atStart => exact ⟨0, 0, by omega, rfl, su_zero _ _, rfl⟩
    case round =>
      obtain ⟨k, j, hk, rfl, hs, rfl⟩ := hrel
      rw [HX.out] at hk
      have HU := Lib.hid hs
      clear hs
      by_cases hlt : k < n
      · have hx := HC.out k (by rw [HX.out]; exact hlt)
        obtain ⟨x, ex⟩ : ∃ x, c.st.getD k 0 = x := ⟨_, rfl⟩
        rw [ex] at hx
        have EX := Lib.hid ex
        clear ex
        by_cases h1 : x < 0
        · have HV := Lib.hid (HN.out k (by rw [HX.out]; exact hlt) (fun h => by
            have a := lo_pos HU.out
            have b := h.1
            rw [EX.out] at b
            omega))
          have t1 : decide (x < 0) = true := by simpa using h1
          clear h1
          go_wp2_with fail
          go_quiet (fail)
          go_wp2_with fail
          go_ret
          exact ⟨retb HV.out.symm, HL.out⟩
        · by_cases h2 : x ≥ F
          · have HV := Lib.hid (HN.out k (by rw [HX.out]; exact hlt) (fun h => by
              have b := h.2
              rw [EX.out, HF.out] at b
              omega))
            have t1 : decide (x < 0) = false := by simpa using h1
            have t2 : decide (x ≥ F) = true := by simpa using h2
            clear h1 h2
            go_wp2_with fail
            go_quiet (fail)
            go_wp2_with fail
            go_ret
            exact ⟨retb HV.out.symm, HL.out⟩
          · rcases Nat.eq_zero_or_pos k with hz | hz
            · have HT : Hid (su c.f c.st (k + 1)) := Lib.hid (su_on HU.out (by rw [sg, EX.out, HF.out, hz]; simp only [lo, if_true]; omega))
              have t1 : decide (x < 0) = false := by simpa using h1
              have t2 : decide (x ≥ F) = false := by simpa using h2
              have t3 : decide ((k : Int) > 0) = false := by simp; omega
              have t4 : decide (0 < k) = false := by simp; omega
              clear h1 h2 hz
              go_wp2_with fail
              go_quiet (fail)
              go_wp2_with fail
              go_roundw
              case rel => exact ⟨k + 1, _, by rw [HX.out]; omega, by go_num, HT.out, rfl⟩
              case measure => simp [intOf]; omega
            · obtain ⟨i, rfl⟩ : ∃ i, k = i + 1 := ⟨k - 1, by omega⟩
              clear hz
              have hy := HC.out i (by rw [HX.out]; omega)
              obtain ⟨y, ey⟩ : ∃ y, c.st.getD i 0 = y := ⟨_, rfl⟩
              rw [ey] at hy
              have EY := Lib.hid ey
              clear ey
              have hp : decide (((i + 1 : Nat) : Int) > 0) = true := by simp
              have hs : ((i + 1 : Nat) : Int) - 1 = (i : Int) := by omega
              by_cases h3 : x ≤ y
              · have HV := Lib.hid (HN.out (i + 1) (by rw [HX.out]; exact hlt) (fun h => by
                  have b := h.1
                  rw [EX.out, lo_succ, EY.out] at b
                  omega))
                have t1 : decide (x < 0) = false := by simpa using h1
                have t2 : decide (x ≥ F) = false := by simpa using h2
                have t3 : decide (x ≤ y) = true := by simpa using h3
                clear h1 h2 h3
                go_wp2_with fail
                go_quiet (fail)
                go_wp2_with fail
                go_ret
                exact ⟨retb HV.out.symm, HL.out⟩
              · have HT := Lib.hid (su_on HU.out (show sg c.f c.st (i + 1) by rw [sg, EX.out, lo_succ, EY.out, HF.out]; omega))
                have t1 : decide (x < 0) = false := by simpa using h1
                have t2 : decide (x ≥ F) = false := by simpa using h2
                have t3 : decide (x ≤ y) = false := by simpa using h3
                clear h1 h2 h3
                go_wp2_with fail
                go_quiet (fail)
                go_wp2_with fail
                go_roundw
                case rel => exact ⟨i + 2, _, by rw [HX.out]; omega, by go_num, HT.out, rfl⟩
                case measure => simp [intOf]; omega
      · obtain rfl : k = n := by omega
        by_cases h2 : k < 2
        · have HV := Lib.hid (HS.out (by rw [HX.out]; exact h2))
          go_wp2_with fail
          go_ret
          exact ⟨retb (by rw [HV.out]; simp; omega), gtrans HL.out (later_drewN W0 _)⟩
        · have HV := Lib.hid (HY.out (by rw [HX.out]; omega) (by rw [HX.out]; exact HU.out))
          go_wp2_with fail
          go_ret
          exact ⟨retb (by rw [HV.out]; simp; omega), gtrans HL.out (later_drewN W0 _)⟩

end Go.Proofs.YtmlnlkfdbbnkbaaGreatDoor.Conf

/- Whether a configuration may be, by the reckoning. No condition but those that each theorem states. -/
namespace Go.Proofs.YtmlnlkfdbbnkbaaGreatDoor.Conf
set_option maxRecDepth 100000
set_option maxRecDepth 100000
open Go.ChangeShapes Go.WideShapes Go.ChangeAt Go.RowKit
open Go.Proofs.YtmlnlkfdbbnkbaaGreatDoor.Divs Go.Proofs.YtmlnlkfdbbnkbaaGreatDoor.Grow Go.Proofs.YtmlnlkfdbbnkbaaGreatDoor.Zone
open Go.Proofs.YtmlnlkfdbbnkbaaGreatDoor.By (Sk SL bool_no bool_yes)
open Go.Proofs.YtmlnlkfdbbnkbaaGreatDoor.Each
open Go.Proofs.YtmlnlkfdbbnkbaaGreatDoor.Zo Go.Proofs.YtmlnlkfdbbnkbaaGreatDoor.Su Go.Proofs.YtmlnlkfdbbnkbaaGreatDoor.Cf

theorem so_iff (c : Cg) : so c = true ↔ 2 ≤ c.f ∧ c.f ≤ 64 ∧ 1 ≤ c.n ∧ c.n ≤ 8 ∧ 0 ≤ c.p ∧ c.p < c.f := by
  unfold so
  simp only [Bool.and_eq_true, bt_iff]
  omega

theorem ce_size (c : Cg) (h : ¬ so c = true) : ce c = 100 := by
  unfold ce
  rw [if_neg h]

set_option maxHeartbeats 2000000 in
theorem rcheck_size (c : Cg) (u v : Value) (w : World) (h : ¬ so c = true) : Calls Tryz.prog 27 #[.agg (cc c u v)] w fun e w' => e = .returned (.int .i64 (ce c)) ∧ Later w w' := by
  rw [ce_size c h]
  rw [so_iff] at h
  have HL := Lib.hid ((Later.refl w).alloc (cc c u v) 33)
  obtain ⟨C, hC⟩ : ∃ C, C = cc c u v := ⟨_, rfl⟩
  rw [← hC] at HL ⊢
  have f0 : C[0]? = some (.int .i64 c.f) := by rw [hC]; rfl
  have f1 : C[1]? = some (.int .i64 c.n) := by rw [hC]; rfl
  have f2 : C[2]? = some (.int .i64 c.p) := by rw [hC]; rfl
  clear hC
  generalize c.f = f at *
  generalize c.n = n at *
  generalize c.p = p at *
  by_cases h1 : f < 2
  · clear h
    go_enter Tryz.func27, Tryz.ntmps27
    go_wp2_with fail
    go_ret
    exact ⟨rfl, HL.out⟩
  by_cases h2 : f > 64
  · clear h
    go_enter Tryz.func27, Tryz.ntmps27
    go_wp2_with fail
    go_ret
    exact ⟨rfl, HL.out⟩
  by_cases h3 : n < 1
  · clear h
    go_enter Tryz.func27, Tryz.ntmps27
    go_wp2_with fail
    go_ret
    exact ⟨rfl, HL.out⟩
  by_cases h4 : n > 8
  · clear h
    go_enter Tryz.func27, Tryz.ntmps27
    go_wp2_with fail
    go_ret
    exact ⟨rfl, HL.out⟩
  by_cases h5 : p < 0
  · clear h
    go_enter Tryz.func27, Tryz.ntmps27
    go_wp2_with fail
    go_ret
    exact ⟨rfl, HL.out⟩
  by_cases h6 : p ≥ f
  · clear h
    go_enter Tryz.func27, Tryz.ntmps27
    go_wp2_with fail
    go_ret
    exact ⟨rfl, HL.out⟩
  · omega

/-- A zone, and a table of sunsets, are loaded out of a configuration. -/
theorem load_zn {ops : Array Oper} {rest : List Oper} {o : Oper} {a : Act} {W : World} {Q : Exit → Act → World → Prop} (z : Zn) (hgd : o.guard = none) (x : Operand) (ho : o.op = .load 28 x) (B off : Nat) (hx : a.eval x = .pointer (some ⟨B, off, none⟩)) (h : W.rangeAt B off (zc z).toList) (hK : wpList Tryz.prog ops Q rest (a.put o.dst (.agg (zc z))) W) : wpList Tryz.prog ops Q (o :: rest) a W := by
  have hi : (Tryz.prog.info? 28).map (·.size) = some (zc z).toList.length := by kernel_rfl
  refine wpList_load_mid (P := Tryz.prog) hgd 28 x ho B off hx (zc z).toList _ h Tryz.underlying28 rfl hi ?_
  simpa using hK

theorem load_sn {ops : Array Oper} {rest : List Oper} {o : Oper} {a : Act} {W : World} {Q : Exit → Act → World → Prop} (s : Nat → Int) (hgd : o.guard = none) (x : Operand) (ho : o.op = .load 30 x) (B off : Nat) (hx : a.eval x = .pointer (some ⟨B, off, none⟩)) (h : W.rangeAt B off (Sun.sc s).toList) (hK : wpList Tryz.prog ops Q rest (a.put o.dst (.agg (Sun.sc s))) W) : wpList Tryz.prog ops Q (o :: rest) a W := by
  have hi : (Tryz.prog.info? 30).map (·.size) = some (Sun.sc s).toList.length := by kernel_rfl
  refine wpList_load_mid (P := Tryz.prog) hgd 30 x ho B off hx (Sun.sc s).toList _ h Tryz.underlying30 rfl hi ?_
  simpa using hK

theorem cc_zone (c : Cg) (u v : Value) {W : World} {b : Nat} (h : At W b (cc c u v)) : W.rangeAt b 13 (zc c.z).toList := by
  intro j y hy
  have hj : j < 10 := by
    have := (List.getElem?_eq_some_iff.1 hy).1
    simpa [zc] using this
  refine h (13 + j) y ?_
  rw [← hy]
  match j, hj with
  | 0, _ | 1, _ | 2, _ | 3, _ | 4, _ | 5, _ | 6, _ | 7, _ | 8, _ | 9, _ => rfl
  | j + 10, hj => omega

theorem cc_sun (c : Cg) (u v : Value) {W : World} {b : Nat} (h : At W b (cc c u v)) : W.rangeAt b 23 (Sun.sc c.s).toList := by
  intro j y hy
  have hj : j < 12 := by
    have := (List.getElem?_eq_some_iff.1 hy).1
    simpa [Sun.sc] using this
  refine h (23 + j) y ?_
  rw [← hy]
  match j, hj with
  | 0, _ | 1, _ | 2, _ | 3, _ | 4, _ | 5, _ | 6, _ | 7, _ | 8, _ | 9, _ | 10, _ | 11, _ => rfl
  | j + 12, hj => omega

end Go.Proofs.YtmlnlkfdbbnkbaaGreatDoor.Conf

/- Whether a configuration may be, by the reckoning. No condition but those that each theorem states. -/
namespace Go.Proofs.YtmlnlkfdbbnkbaaGreatDoor.Conf
set_option maxRecDepth 100000
set_option maxRecDepth 100000
open Go.ChangeShapes Go.WideShapes Go.ChangeAt Go.RowKit
open Go.Proofs.YtmlnlkfdbbnkbaaGreatDoor.Divs Go.Proofs.YtmlnlkfdbbnkbaaGreatDoor.Grow Go.Proofs.YtmlnlkfdbbnkbaaGreatDoor.Zone
open Go.Proofs.YtmlnlkfdbbnkbaaGreatDoor.By (Sk SL bool_no bool_yes)
open Go.Proofs.YtmlnlkfdbbnkbaaGreatDoor.Each
open Go.Proofs.YtmlnlkfdbbnkbaaGreatDoor.Zo Go.Proofs.YtmlnlkfdbbnkbaaGreatDoor.Su Go.Proofs.YtmlnlkfdbbnkbaaGreatDoor.Cf

/-- The first k windows may be; the configuration lies in the block A. -/
def RRel (xs : List Wn) (C : Array Value) (A : Nat) (w : World) (i : Value) (wr : World) : Prop :=
  ∃ k : Nat, k ≤ xs.length ∧ i = .int .i64 (k : Int) ∧ (∀ j y, j < k → xs[j]? = some y → wo y = true) ∧ At wr A C ∧ Later w wr

set_option maxHeartbeats 4000000 in
theorem rcheck_rest (c : Cg) (u v : Value) (w : World) (hu : Sk .i64 w u c.st) (hv : Wk w v c.ws) (h : so c = true) : Calls Tryz.prog 27 #[.agg (cc c u v)] w fun e w' => e = .returned (.int .i64 (ce c)) ∧ Later w w' := by
  have KS := Lib.hid (fun W (g : Later w W) => rstops_any c u v W (hu.later g))
  have KT := Lib.hid (fun W => rtimes_any c u v W)
  have KZ := Lib.hid (fun W => rcheck_any c.z W)
  have KN := Lib.hid (fun W => Sun.rcheck_tab c.s W)
  have KW := Lib.hid (fun x W => rwindow_any x W)
  obtain ⟨N, hN⟩ : ∃ N, ce c = N := ⟨_, rfl⟩
  rw [hN]
  unfold ce at hN
  rw [if_pos h] at hN
  have HL := Lib.hid ((Later.refl w).alloc (cc c u v) 33)
  have HZ := Lib.hid (fun W b h => cc_zone c u v (W := W) (b := b) h)
  have HS := Lib.hid (fun W b h => cc_sun c u v (W := W) (b := b) h)
  have HA := Lib.hid (At.new w (cc c u v) 33)
  rw [so_iff] at h
  obtain ⟨C, hC⟩ : ∃ C, C = cc c u v := ⟨_, rfl⟩
  rw [← hC] at HL HA HZ HS KS KT ⊢
  have f0 : C[0]? = some (.int .i64 c.f) := by rw [hC]; rfl
  have f1 : C[1]? = some (.int .i64 c.n) := by rw [hC]; rfl
  have f2 : C[2]? = some (.int .i64 c.p) := by rw [hC]; rfl
  have F36 : Hid (C[36]? = some v) := Lib.hid (by rw [hC]; rfl)
  have HC : Hid (C.size = 37) := Lib.hid (by rw [hC]; rfl)
  clear hC
  have HV := Lib.hid hv
  clear hu hv
  generalize to c = b1 at *
  generalize ti c = b2 at *
  generalize ck c.z = x at *
  generalize sk c.s = y at *
  have HN := Lib.hid hN
  clear hN
  generalize c.f = f at *
  generalize c.n = n at *
  generalize c.p = p at *
  generalize c.ws = xs at *
  generalize c.z = z at *
  generalize c.s = s at *
  obtain ⟨h1, h2, h3, h4, h5, h6⟩ := h
  have g1 : ¬ f < 2 := by omega
  have g2 : ¬ f > 64 := by omega
  have g3 : ¬ n < 1 := by omega
  have g4 : ¬ n > 8 := by omega
  have g5 : ¬ p < 0 := by omega
  have g6 : ¬ p ≥ f := by omega
  clear h1 h2 h3 h4 h5 h6
  go_enter Tryz.func27, Tryz.ntmps27
  go_wp2_with (refine load_at C HC.out rfl (.tmp 1) rfl w.heap.size rfl HA.out ?_)
  clear g1 g2 g3 g4 g5 g6 f0 f1 f2
  refine (KS.out _ HL.out).mono ?_
  rintro e w1 ⟨rfl, hg1⟩
  have HL1 := Lib.hid (gtrans HL.out hg1)
  have HA1 := Lib.hid (HA.out.later hg1)
  clear hg1
  cases b1 with
  | false =>
    go_wp2_with fail
    go_ret
    exact ⟨ret1 (by rw [← HN.out]; rfl), HL1.out⟩
  | true =>
  go_wp2_with (refine load_at C HC.out rfl (.tmp 1) rfl w.heap.size rfl HA1.out ?_)
  refine (KT.out _).mono ?_
  rintro e w2 ⟨rfl, hg2⟩
  have HL2 := Lib.hid (gtrans HL1.out hg2)
  have HA2 := Lib.hid (HA1.out.later hg2)
  clear hg2
  cases b2 with
  | false =>
    go_wp2_with fail
    go_ret
    exact ⟨ret1 (by rw [← HN.out]; rfl), HL2.out⟩
  | true =>
  go_wp2_with (refine load_zn z rfl (.tmp 47) rfl w.heap.size 13 rfl (HZ.out _ _ HA2.out) ?_)
  refine (KZ.out _).mono ?_
  rintro e w3 ⟨rfl, hg3⟩
  have HL3 := Lib.hid (gtrans HL2.out hg3)
  have HA3 := Lib.hid (HA2.out.later hg3)
  clear hg3
  by_cases hx : x = 0
  case neg =>
    have t : (x != 0) = true := by simpa using hx
    have HV' : Hid (N = x) := Lib.hid (by rw [← HN.out]; simp [hx])
    clear hx
    go_wp2_with fail
    go_ret
    exact ⟨ret1 HV'.out.symm, HL3.out⟩
  subst hx
  go_wp2_with (refine load_sn s rfl (.tmp 53) rfl w.heap.size 23 rfl (HS.out _ _ HA3.out) ?_)
  refine (KN.out _).mono ?_
  rintro e w4 ⟨rfl, hg4⟩
  have HL4 := Lib.hid (gtrans HL3.out hg4)
  have HA4 := Lib.hid (HA3.out.later hg4)
  clear hg4
  by_cases hy : y = 0
  case neg =>
    have t : (y != 0) = true := by simpa using hy
    have HV' : Hid (N = y) := Lib.hid (by rw [← HN.out]; simp [hy])
    clear hy
    go_wp2_with fail
    go_ret
    exact ⟨ret1 HV'.out.symm, HL4.out⟩
  subst hy
  have HN' : Hid (N = if xs.length ≤ 16 then (if wa xs = true then 0 else 104) else 103) := Lib.hid (by rw [← HN.out]; simp)
  have c36 := HA4.out 36 _ F36.out
  have wv := HV.out.later HL4.out
  rcases Nat.eq_zero_or_pos xs.length with h0 | h0
  · have HV' : Hid (N = 0) := Lib.hid (by rw [HN'.out, List.length_eq_zero_iff.1 h0]; rfl)
    obtain ⟨ad, cap, rfl, hm⟩ := wv.len
    rw [h0] at c36
    clear wv hm h0
    go_wp2_with fail
    refine wp_loop_rounds 1 ?_
    rw [rounds_succ]
    go_wp2
    go_ret
    exact ⟨ret1 HV'.out.symm, HL4.out⟩
  · obtain ⟨B, off, cap, rfl, hm, hB, hc⟩ := wv.has h0
    clear hB wv
    obtain ⟨n, hn⟩ : ∃ n, xs.length = n := ⟨_, rfl⟩
    rw [hn] at h0 hm c36 HN' F36
    have HX := Lib.hid hn
    clear hn
    by_cases h16 : n ≤ 16
    case neg =>
      have t : decide ((n : Int) > 16) = true := by simp; omega
      have HV' : Hid (N = 103) := Lib.hid (by rw [HN'.out, if_neg h16])
      clear hc h16
      go_wp2_with fail
      go_ret
      exact ⟨ret1 HV'.out.symm, HL4.out⟩
    have t : decide ((n : Int) > 16) = false := by simp; omega
    have HR := Lib.hid hc
    have HM : Hid (N = if wa xs = true then 0 else 104) := Lib.hid (by rw [HN'.out, if_pos h16])
    clear hc h16
    have ad : ∀ j, (⟨B, off, none⟩ : Addr).add j = ⟨B, off + j, none⟩ := Addr.add_mid B off
    go_wp2_with fail
    clear t c36
    go_loopw [7] (fun i wr => RRel xs C w.heap.size w4 i wr) (fun i _ => n - (intOf i).toNat)
    case atStart => exact ⟨0, by omega, rfl, by omega, HA4.out, Later.refl _⟩
    case round =>
      obtain ⟨k, hk, rfl, hj, ha, hg⟩ := hrel
      rw [HX.out] at hk
      have HG := Lib.hid hg
      have HA5 := Lib.hid ha
      have HJ := Lib.hid hj
      clear hg ha hj
      have c36 := HA5.out 36 _ F36.out
      by_cases hlt : k < n
      · obtain ⟨x, hx⟩ : ∃ x, xs[k]? = some x := ⟨_, List.getElem?_eq_getElem (by rw [HX.out]; exact hlt)⟩
        have hr := HR.out k x hx
        have HR' : Hid (wr.rangeAt B (off + k * 7) (wc x)) := Lib.hid (fun j y hy => gsome HG.out (hr j y hy))
        have HE := Lib.hid hx
        clear hr hx
        have K' := Lib.hid (fun W => KW.out x W)
        unfold wc at K'
        go_wp2_with (refine load_win x rfl (.tmp 73) rfl B (off + k * 7) rfl HR'.out ?_)
        refine (K'.out _).mono ?_
        rintro e w5 ⟨rfl, hg5⟩
        have HG5 := Lib.hid (gtrans HG.out hg5)
        have HA6 := Lib.hid (HA5.out.later hg5)
        clear hg5 c36
        cases hb : wo x with
        | false =>
          have HV' : Hid (N = 104) := Lib.hid (by rw [HM.out, wa_no HE.out hb]; rfl)
          clear hb
          go_wp2_with fail
          go_ret
          exact ⟨ret1 HV'.out.symm, gtrans HL4.out HG5.out⟩
        | true =>
          have HJ' : Hid (∀ j y, j < k + 1 → xs[j]? = some y → wo y = true) := Lib.hid (fun j y hj hy => by
            by_cases e : j = k
            · subst e
              rw [HE.out] at hy
              obtain rfl := Option.some.inj hy
              exact hb
            · exact HJ.out j y (by omega) hy)
          clear hb
          go_wp2_with fail
          go_roundw
          case rel => exact ⟨k + 1, by rw [HX.out]; omega, by go_num, HJ'.out, HA6.out, HG5.out⟩
          case measure => simp [intOf]; omega
      · obtain rfl : k = n := by omega
        have HV' : Hid (N = 0) := Lib.hid (by rw [HM.out, wa_yes (fun j x hl hx => HJ.out j x (by rw [← HX.out]; exact hl) hx)]; rfl)
        go_wp2_with fail
        go_ret
        exact ⟨ret1 HV'.out.symm, gtrans HL4.out HG.out⟩

theorem rcfg_any (c : Cg) (u v : Value) (w : World) (hu : Sk .i64 w u c.st) (hv : Wk w v c.ws) : Calls Tryz.prog 27 #[.agg (cc c u v)] w fun e w' => e = .returned (.int .i64 (ce c)) ∧ Later w w' := by
  by_cases h : so c = true
  · exact rcheck_rest c u v w hu hv h
  · exact rcheck_size c u v w h

end Go.Proofs.YtmlnlkfdbbnkbaaGreatDoor.Conf

/- Whether two configurations are the same, by the reckoning. No condition but those that each theorem states. -/
namespace Go.Proofs.YtmlnlkfdbbnkbaaGreatDoor.Conf
set_option maxRecDepth 100000
set_option maxRecDepth 100000
open Go.ChangeShapes Go.WideShapes Go.ChangeAt Go.RowKit
open Go.Proofs.YtmlnlkfdbbnkbaaGreatDoor.Divs Go.Proofs.YtmlnlkfdbbnkbaaGreatDoor.Grow Go.Proofs.YtmlnlkfdbbnkbaaGreatDoor.Zone
open Go.Proofs.YtmlnlkfdbbnkbaaGreatDoor.By (Sk SL bool_no bool_yes)
open Go.Proofs.YtmlnlkfdbbnkbaaGreatDoor.Each
open Go.Proofs.YtmlnlkfdbbnkbaaGreatDoor.Zo Go.Proofs.YtmlnlkfdbbnkbaaGreatDoor.Su Go.Proofs.YtmlnlkfdbbnkbaaGreatDoor.Cf

attribute [local go_sem high] equal_win equal_times equal_sun equal_zn

theorem sk_form {W : World} {v : Value} {xs : List Int} (h : Sk .i64 W v xs) : ∃ ad cap, v = .slice ad xs.length cap ∧ xs.length ≤ 9223372036854775807 ∧ (∀ i x, xs[i]? = some x → ∃ B off, ad = some ⟨B, off, none⟩ ∧ W.cell? ⟨B, off + i, none⟩ = some (.int .i64 x)) := by
  obtain ⟨ad, cap, rfl, h1, h2, h3, h4⟩ := h
  exact ⟨ad, cap, rfl, by omega, h4⟩

theorem wk_form {W : World} {v : Value} {xs : List Wn} (h : Wk W v xs) : ∃ ad cap, v = .slice ad xs.length cap ∧ xs.length ≤ 9223372036854775807 ∧ (∀ i x, xs[i]? = some x → ∃ B off, ad = some ⟨B, off, none⟩ ∧ W.rangeAt B (off + i * 7) (wc x)) := by
  rcases Nat.eq_zero_or_pos xs.length with h0 | h0
  · obtain ⟨ad, cap, rfl, hm⟩ := h.len
    refine ⟨ad, cap, rfl, hm, fun i x hx => ?_⟩
    have := (List.getElem?_eq_some_iff.1 hx).1
    omega
  · obtain ⟨b, off, cap, rfl, hm, _, hc⟩ := h.has h0
    exact ⟨_, cap, rfl, hm, fun i x hx => ⟨b, off, rfl, hc i x hx⟩⟩

end Go.Proofs.YtmlnlkfdbbnkbaaGreatDoor.Conf

/- A configuration that is small, and rows of stops and of windows that are appended. Conditions: as each theorem states. -/
namespace Go.Proofs.YtmlnlkfdbbnkbaaGreatDoor.Conf
set_option maxRecDepth 100000
set_option maxRecDepth 100000
open Go.ChangeShapes Go.WideShapes Go.ChangeAt Go.RowKit
open Go.Proofs.YtmlnlkfdbbnkbaaGreatDoor.Divs Go.Proofs.YtmlnlkfdbbnkbaaGreatDoor.Grow Go.Proofs.YtmlnlkfdbbnkbaaGreatDoor.Zone
open Go.Proofs.YtmlnlkfdbbnkbaaGreatDoor.By (Sk SL bool_no bool_yes)
open Go.Proofs.YtmlnlkfdbbnkbaaGreatDoor.Each
open Go.Proofs.YtmlnlkfdbbnkbaaGreatDoor.Zo Go.Proofs.YtmlnlkfdbbnkbaaGreatDoor.Su Go.Proofs.YtmlnlkfdbbnkbaaGreatDoor.Cf

/-- Has one few stops and windows? -/
def fw (c : Cg) : Bool := decide (c.st.length ≤ 80 ∧ c.ws.length ≤ 20)

theorem fw_iff (c : Cg) : fw c = true ↔ c.st.length ≤ 80 ∧ c.ws.length ≤ 20 := by simp [fw]

set_option maxHeartbeats 1000000 in
theorem few_any (c : Cg) (u v : Value) (w : World) (hu : Sk .i64 w u c.st) (hv : Wk w v c.ws) : Calls Tryz.prog 9 #[.agg (cc c u v)] w fun e w' => e = .returned (.bool (fw c)) ∧ Later w w' := by
  have HR := Lib.hid (fw_iff c)
  generalize fw c = R at *
  have HG := Lib.hid ((Later.refl w).alloc (cc c u v) 33)
  obtain ⟨d1, p1, rfl, m1, _⟩ := sk_form hu
  obtain ⟨d2, p2, rfl, m2, _⟩ := wk_form hv
  clear hu hv
  unfold cc at *
  generalize c.st.length = m at *
  generalize c.ws.length = n at *
  by_cases h1 : m ≤ 80
  · have t1 : decide ((m : Int) ≤ 80) = true := by simp; omega
    by_cases h2 : n ≤ 20
    · have t2 : decide ((n : Int) ≤ 20) = true := by simp; omega
      have HV : Hid (R = true) := Lib.hid (HR.out.2 ⟨h1, h2⟩)
      clear h1 h2 HR
      go_enter Tryz.func9, Tryz.ntmps9
      go_wp2_with fail
      go_ret
      exact ⟨retb HV.out.symm, HG.out⟩
    · have t2 : decide ((n : Int) ≤ 20) = false := by simp; omega
      have HV : Hid (R = false) := Lib.hid (by
        cases e : R with
        | false => rfl
        | true => exact absurd (HR.out.1 e).2 h2)
      clear h1 h2 HR
      go_enter Tryz.func9, Tryz.ntmps9
      go_wp2_with fail
      go_ret
      exact ⟨retb HV.out.symm, HG.out⟩
  · have t1 : decide ((m : Int) ≤ 80) = false := by simp; omega
    have HV : Hid (R = false) := Lib.hid (by
      cases e : R with
      | false => rfl
      | true => exact absurd (HR.out.1 e).1 h1)
    clear h1 HR
    go_enter Tryz.func9, Tryz.ntmps9
    go_wp2_with fail
    go_ret
    exact ⟨retb HV.out.symm, HG.out⟩

/-- A slice that owns these windows. -/
def WL (W : World) (b : Nat) (v : Value) (xs : List Wn) : Prop := W.ownsRow b 35 7 v xs.length (fl xs)

theorem WL.later {W W' : World} {b : Nat} {v : Value} {xs : List Wn} (h : WL W b v xs) (g : Later W W') : WL W' b v xs :=
  World.ownsRow.kept h g.grownBy (by cases v.ownBlock <;> simp)

theorem win_grown {w a b : World} {v : Value} {xs : List Wn} (g : Later w a) (f : WL a w.heap.size v xs) (h : a.grownBy b v.ownBlock) : Later w b :=
  Later.of_below (g.below.grown h g.size (fun j e => (World.ownsRow.lt f j e).1))

theorem WL.wk {W : World} {b : Nat} {v : Value} {xs : List Wn} (h : WL W b v xs) : Wk W v xs := by
  rcases h.2 with ⟨hv, h0⟩ | ⟨g, cap, cur, rfl, _, _, h1, h2, _⟩
  · obtain rfl : xs = [] := List.length_eq_zero_iff.1 h0
    exact ⟨none, 0, hv, by simp, by omega, by simp, by simp [fl]⟩
  · refine ⟨_, cap, rfl, h1, by simpa [maxLen] using h2, by simp, fun i x hx => ⟨g, 0, rfl, ?_⟩⟩
    have c := World.ownsRow.cells h (g := g) rfl i x hx
    rw [By.add_zero] at c
    rw [Nat.zero_add]
    exact c

theorem WL.made (W0 w : World) (h : Later W0 w) : WL (w.alloc (.cells #[] 35)) W0.heap.size (.slice (some ⟨w.heap.size, 0, none⟩) 0 0) [] := by
  refine ⟨rfl, .inr ⟨w.heap.size, 0, #[], rfl, h.size, heap_alloc_new _ _, by simp, by simp, by simp, by simp [fl]⟩⟩

theorem ints_made (W0 w : World) (h : Later W0 w) : SL .i64 3 (w.alloc (.cells #[] 3)) W0.heap.size (.slice (some ⟨w.heap.size, 0, none⟩) 0 0) [] := by
  refine ⟨rfl, .inr ⟨w.heap.size, 0, #[], rfl, h.size, heap_alloc_new _ _, by simp, by simp, by simp, by simp⟩⟩

theorem append_ints {w : World} {ops : Array Oper} {rest : List Oper} {o : Oper} {a : Act} {Q : Exit → Act → World → Prop} (hgd : o.guard = none) (s x : Operand)
    (ho : o.op = .call { callee := .builtin .append, args := #[s, x], argTypes := #[22, 22] })
    (W0 : World) (hl : Later W0 w) (v : Value) (xs : List Int) (hs : a.eval s = v) (hown : SL .i64 3 w W0.heap.size v xs)
    (u : Value) (ys : List Int) (hx : a.eval x = u) (hy : Sk .i64 w u ys) (hb : xs.length + ys.length ≤ 100000)
    (h : ∀ v' w', SL .i64 3 w' W0.heap.size v' (xs ++ ys) → Later W0 w' → wpList Tryz.prog ops Q rest (a.put o.dst v') w') : wpList Tryz.prog ops Q (o :: rest) a w := by
  obtain ⟨i0, hi, hz0, hz1, hz2⟩ := info_parts By.info_int
  rcases hy.src with ⟨rfl, rfl⟩ | ⟨ad, cap, rfl, hc⟩
  · refine wpList_append_own_none hgd s x 22 ho W0.heap.size 3 i0 1 Tryz.underlying22 hi v _ _ hs hown hx ?_
    exact h v w (by rw [List.append_nil]; exact hown) hl
  · refine wpList_append_own w hgd s x 22 ho W0.heap.size 3 i0 (.int .i64 0) 1 8 Tryz.underlying22 hi hz0 hz1 hz2 rfl (by decide) v _ _ hs hown ad ys.length cap (ys.map (Value.int .i64)) hx (by simp) hc (by intro u hu; obtain ⟨y, _, rfl⟩ := List.mem_map.1 hu; rfl) (by simp only [maxLen]; omega) (by omega) hl.size ?_
    intro v' w' h1 h2 _
    refine h v' w' ?_ (By.later_grown hl hown h2)
    unfold By.SL
    rw [List.length_append, List.map_append]
    exact h1

theorem info_win : (Tryz.prog.info? 35).map (fun i => (i.zero, i.size, i.bytes)) = some (some (.agg #[.int .i64 0, .int .i64 0, .int .i64 0, .int .i64 0, .int .i64 0, .int .i64 0, .int .i64 0]), 7, 56) := by kernel_rfl

theorem Wk.src {W : World} {v : Value} {xs : List Wn} (h : Wk W v xs) :
    (v = .slice none 0 0 ∧ xs = []) ∨ ∃ a cap, v = .slice (some a) xs.length cap ∧ ∀ j u, (fl xs)[j]? = some u → W.cell? (a.add j) = some u := by
  obtain ⟨ad, cap, rfl, h1, h2, h3, h4⟩ := h
  cases ad with
  | none =>
    obtain rfl := h3 rfl
    obtain rfl := List.length_eq_zero_iff.1 (Nat.le_zero.1 h1)
    exact .inl ⟨rfl, rfl⟩
  | some a =>
    refine .inr ⟨a, cap, rfl, fun j u hu => ?_⟩
    obtain ⟨b, off, e, c⟩ := h4 j u hu
    obtain rfl := Option.some.inj e
    rw [Addr.add_mid]
    exact c

theorem fl_cell (xs : List Wn) : ∀ u ∈ fl xs, u.oneCell' = true := by
  intro u hu
  obtain ⟨x, _, hx⟩ := List.mem_flatMap.1 hu
  simp only [wc, List.mem_cons, List.not_mem_nil, or_false] at hx
  rcases hx with rfl | rfl | rfl | rfl | rfl | rfl | rfl <;> rfl

theorem append_wins {w : World} {ops : Array Oper} {rest : List Oper} {o : Oper} {a : Act} {Q : Exit → Act → World → Prop} (hgd : o.guard = none) (s x : Operand)
    (ho : o.op = .call { callee := .builtin .append, args := #[s, x], argTypes := #[31, 31] })
    (W0 : World) (hl : Later W0 w) (v : Value) (xs : List Wn) (hs : a.eval s = v) (hown : WL w W0.heap.size v xs)
    (u : Value) (ys : List Wn) (hx : a.eval x = u) (hy : Wk w u ys) (hb : xs.length + ys.length ≤ 100000)
    (h : ∀ v' w', WL w' W0.heap.size v' (xs ++ ys) → Later W0 w' → wpList Tryz.prog ops Q rest (a.put o.dst v') w') : wpList Tryz.prog ops Q (o :: rest) a w := by
  obtain ⟨i0, hi, hz0, hz1, hz2⟩ := info_parts info_win
  rcases hy.src with ⟨rfl, rfl⟩ | ⟨ad, cap, rfl, hc⟩
  · refine wpList_append_own_none hgd s x 31 ho W0.heap.size 35 i0 7 Tryz.underlying31 hi v _ _ hs hown hx ?_
    exact h v w (by rw [List.append_nil]; exact hown) hl
  · refine wpList_append_own w hgd s x 31 ho W0.heap.size 35 i0 _ 7 56 Tryz.underlying31 hi hz0 hz1 hz2 rfl (by decide) v _ _ hs hown ad ys.length cap (fl ys) hx (fl_len ys) hc (fl_cell ys) (by simp only [maxLen]; omega) (by omega) hl.size ?_
    intro v' w' h1 h2 _
    refine h v' w' ?_ (win_grown hl hown h2)
    unfold WL
    rw [List.length_append, fl_app]
    exact h1

end Go.Proofs.YtmlnlkfdbbnkbaaGreatDoor.Conf

/- Cells that are set, rows that are kept by that, and a configuration's result out of its cells. Conditions: as each theorem states. -/
namespace Go.Proofs.YtmlnlkfdbbnkbaaGreatDoor.Conf
set_option maxRecDepth 100000
set_option maxRecDepth 100000
open Go.ChangeShapes Go.WideShapes Go.ChangeAt Go.RowKit
open Go.Proofs.YtmlnlkfdbbnkbaaGreatDoor.Divs Go.Proofs.YtmlnlkfdbbnkbaaGreatDoor.Grow Go.Proofs.YtmlnlkfdbbnkbaaGreatDoor.Zone
open Go.Proofs.YtmlnlkfdbbnkbaaGreatDoor.By (Sk SL bool_no bool_yes)
open Go.Proofs.YtmlnlkfdbbnkbaaGreatDoor.Each
open Go.Proofs.YtmlnlkfdbbnkbaaGreatDoor.Zo Go.Proofs.YtmlnlkfdbbnkbaaGreatDoor.Su Go.Proofs.YtmlnlkfdbbnkbaaGreatDoor.Cf

theorem heap_set_other (W : World) (A i g : Nat) (y : Value) (h : g ≠ A) : (W.setCell ⟨A, i, none⟩ y).heap[g]? = W.heap[g]? := by
  simp [World.setCell, Array.getElem?_modify, Ne.symm h]

theorem owns_set {W : World} {b : Nat} {e : TypeId} {n m : Nat} {v : Value} {xs : List Value} (h : W.ownsRow b e n v m xs) {A : Nat} (hA : A < b) (i : Nat) (y : Value) : (W.setCell ⟨A, i, none⟩ y).ownsRow b e n v m xs := by
  refine ⟨h.1, ?_⟩
  rcases h.2 with h | ⟨g, cap, cur, hv, h1, h2, h3⟩
  · exact .inl h
  · exact .inr ⟨g, cap, cur, hv, h1, by rw [heap_set_other _ _ _ _ _ (by omega)]; exact h2, h3⟩

theorem owns_sets {b : Nat} {e : TypeId} {n m : Nat} {v : Value} {xs : List Value} {A : Nat} (hA : A < b) (vs : List Value) : ∀ (W : World) (o : Nat), W.ownsRow b e n v m xs → (W.setCells A o vs).ownsRow b e n v m xs := by
  induction vs with
  | nil => intro W o h; exact h
  | cons y r ih => intro W o h; exact ih _ _ (owns_set h hA _ _)

theorem later_sets {w : World} {A : Nat} (hA : w.heap.size ≤ A) (vs : List Value) : ∀ (W : World) (o : Nat), Later w W → Later w (W.setCells A o vs) := by
  induction vs with
  | nil => intro W o h; exact h
  | cons y r ih => intro W o h; exact ih _ _ (h.setCell hA _)

theorem Row.there {B : Nat} {t : TypeId} {cs : Array Value} {W : World} (h : Row B t cs W) : W.there B 0 cs.size := by
  intro j hj
  rw [Nat.zero_add]
  refine ⟨?_, h.frozen j⟩
  rw [h.cell j (Array.getElem?_eq_getElem hj)]
  rfl

theorem results_at {fn : Func} {p : Tmp} (h : fn.results = #[.cell p 33]) (tmps : Array Value) (W : World) (g : Nat) (C : Array Value) (hC : C.size = 37) (hp : tmps.getD p undef = .pointer (some ⟨g, 0, none⟩)) (hA : At W g C) : (results fn tmps).run Tryz.prog W = .ok (.agg C) W := by
  have hp' : tmps[p]?.getD undef = .pointer (some ⟨g, 0, none⟩) := by simpa using hp
  have hi : (Tryz.prog.info? 33).map (·.size) = some C.toList.length := by
    rw [Array.length_toList, hC]
    kernel_rfl
  have := run_loadVar_mid (P := Tryz.prog) W g 0 33 C.toList _ (fun j v hv => by rw [Nat.zero_add]; exact hA j v (by simpa using hv)) Tryz.underlying33 rfl hi
  simp [results, h, hp', asAddr, this]

end Go.Proofs.YtmlnlkfdbbnkbaaGreatDoor.Conf

/- A configuration in memory of its own. Conditions: as each theorem states. -/
namespace Go.Proofs.YtmlnlkfdbbnkbaaGreatDoor.Conf
set_option maxRecDepth 100000
set_option maxRecDepth 100000
open Go.ChangeShapes Go.WideShapes Go.ChangeAt Go.RowKit
open Go.Proofs.YtmlnlkfdbbnkbaaGreatDoor.Divs Go.Proofs.YtmlnlkfdbbnkbaaGreatDoor.Grow Go.Proofs.YtmlnlkfdbbnkbaaGreatDoor.Zone
open Go.Proofs.YtmlnlkfdbbnkbaaGreatDoor.By (Sk SL bool_no bool_yes)
open Go.Proofs.YtmlnlkfdbbnkbaaGreatDoor.Each
open Go.Proofs.YtmlnlkfdbbnkbaaGreatDoor.Zo Go.Proofs.YtmlnlkfdbbnkbaaGreatDoor.Su Go.Proofs.YtmlnlkfdbbnkbaaGreatDoor.Cf

theorem ints_made' (w : World) (g B : Nat) (hg : g = w.heap.size) (hB : B ≤ w.heap.size) : SL .i64 3 (w.alloc (.cells #[] 3)) B (.slice (some ⟨g, 0, none⟩) 0 0) [] := by
  subst hg
  exact ⟨rfl, .inr ⟨w.heap.size, 0, #[], rfl, hB, heap_alloc_new _ _, by simp, by simp, by simp, by simp⟩⟩

theorem wins_made' (w : World) (g B : Nat) (hg : g = w.heap.size) (hB : B ≤ w.heap.size) : WL (w.alloc (.cells #[] 35)) B (.slice (some ⟨g, 0, none⟩) 0 0) [] := by
  subst hg
  exact ⟨rfl, .inr ⟨w.heap.size, 0, #[], rfl, hB, heap_alloc_new _ _, by simp, by simp, by simp, by simp [fl]⟩⟩

theorem append_ints' {w : World} {ops : Array Oper} {rest : List Oper} {o : Oper} {a : Act} {Q : Exit → Act → World → Prop} (hgd : o.guard = none) (s x : Operand)
    (ho : o.op = .call { callee := .builtin .append, args := #[s, x], argTypes := #[22, 22] })
    (W0 : World) (hl : Later W0 w) (B : Nat) (hB : B = W0.heap.size) (v : Value) (xs : List Int) (hs : a.eval s = v) (hown : SL .i64 3 w B v xs)
    (u : Value) (ys : List Int) (hx : a.eval x = u) (hy : Sk .i64 w u ys) (hb : xs.length + ys.length ≤ 100000)
    (h : ∀ v' w', SL .i64 3 w' B v' (xs ++ ys) → Later W0 w' → wpList Tryz.prog ops Q rest (a.put o.dst v') w') : wpList Tryz.prog ops Q (o :: rest) a w := by
  subst hB
  exact append_ints hgd s x ho W0 hl v xs hs hown u ys hx hy hb h

theorem append_wins' {w : World} {ops : Array Oper} {rest : List Oper} {o : Oper} {a : Act} {Q : Exit → Act → World → Prop} (hgd : o.guard = none) (s x : Operand)
    (ho : o.op = .call { callee := .builtin .append, args := #[s, x], argTypes := #[31, 31] })
    (W0 : World) (hl : Later W0 w) (B : Nat) (hB : B = W0.heap.size) (v : Value) (xs : List Wn) (hs : a.eval s = v) (hown : WL w B v xs)
    (u : Value) (ys : List Wn) (hx : a.eval x = u) (hy : Wk w u ys) (hb : xs.length + ys.length ≤ 100000)
    (h : ∀ v' w', WL w' B v' (xs ++ ys) → Later W0 w' → wpList Tryz.prog ops Q rest (a.put o.dst v') w') : wpList Tryz.prog ops Q (o :: rest) a w := by
  subst hB
  exact append_wins hgd s x ho W0 hl v xs hs hown u ys hx hy hb h

end Go.Proofs.YtmlnlkfdbbnkbaaGreatDoor.Conf

/- Configurations and windows as arguments: their cells. No condition but those that each theorem states. -/
namespace Go.Proofs.YtmlnlkfdbbnkbaaGreatDoor.Conf
set_option maxRecDepth 100000
set_option maxRecDepth 100000
open Go.ChangeShapes Go.WideShapes Go.ChangeAt Go.RowKit
open Go.Proofs.YtmlnlkfdbbnkbaaGreatDoor.Divs Go.Proofs.YtmlnlkfdbbnkbaaGreatDoor.Grow Go.Proofs.YtmlnlkfdbbnkbaaGreatDoor.Zone
open Go.Proofs.YtmlnlkfdbbnkbaaGreatDoor.By (Sk SL sk_nil)
open Go.Proofs.YtmlnlkfdbbnkbaaGreatDoor.Zo Go.Proofs.YtmlnlkfdbbnkbaaGreatDoor.Su Go.Proofs.YtmlnlkfdbbnkbaaGreatDoor.Cf

theorem own : ownKnob Tryz.prog.godebug = none := by kernel_rfl
theorem laidOut : laidOutB Tryz.prog = true := by kernel_rfl
theorem cellsI : Tryz.prog.cellsOf 3 = 1 := by kernel_rfl
theorem cellsB : Tryz.prog.cellsOf 4 = 1 := by kernel_rfl
theorem cellsC : Tryz.prog.cellsOf 33 = 37 := by kernel_rfl
theorem cellsW : Tryz.prog.cellsOf 35 = 7 := by kernel_rfl
theorem cellsT : Tryz.prog.cellsOf 24 = 7 := by kernel_rfl
theorem cellsZ : Tryz.prog.cellsOf 28 = 10 := by kernel_rfl
theorem cellsU : Tryz.prog.cellsOf 26 = 4 := by kernel_rfl
theorem cellsS : Tryz.prog.cellsOf 30 = 12 := by kernel_rfl
theorem cellsL : Tryz.prog.cellsOf 22 = 1 := by kernel_rfl
theorem cellsV : Tryz.prog.cellsOf 31 = 1 := by kernel_rfl

section
variable {H : Type} {enc : TypeId × Value → H} {w : World} {base : Nat} {spare : Nat → Bool} {held : Bool}

theorem part {t : TypeId} {fs : Array Field} {fuel : Nat} {cs : List Value} {x : DataW H × List MemPlace} (ht : Tryz.prog.underlying t = some (.struct fs)) (h : DataW.trod enc Tryz.prog w base spare held fuel t cs = some x) (i : Nat) (f : Field) (hf : fs[i]? = some f) :
    ∃ n y, DataW.trod enc Tryz.prog w base spare held n f.type ((cs.drop f.offset).take (Tryz.prog.cellsOf f.type)) = some y := by
  obtain ⟨xs, n, _, _, _, hl, hall⟩ := DataW.trod_struct ht h
  have hi : i < fs.size := (Array.getElem?_eq_some_iff.1 hf).1
  exact ⟨n, xs[i]'(by omega), by rw [hall i f hf]; exact List.getElem?_eq_getElem (by omega)⟩

theorem cell_int {n : Nat} {c : Value} {y : DataW H × List MemPlace} (h : DataW.trod enc Tryz.prog w base spare held n 3 [c] = some y) : ∃ a, c = .int .i64 a := by
  obtain ⟨a, e, _, _⟩ := DataW.trod_int Tryz.underlying3 h
  simp only [List.cons.injEq, and_true] at e
  exact ⟨a, e⟩

theorem cell_bool {n : Nat} {c : Value} {y : DataW H × List MemPlace} (h : DataW.trod enc Tryz.prog w base spare held n 4 [c] = some y) : ∃ a, c = .bool a := by
  obtain ⟨a, e, _⟩ := DataW.trod_bool Tryz.underlying4 h
  simp only [List.cons.injEq, and_true] at e
  exact ⟨a, e⟩

theorem open_turn {n : Nat} {c0 c1 c2 c3 : Value} {x : DataW H × List MemPlace} (h : DataW.trod enc Tryz.prog w base spare held n 26 [c0, c1, c2, c3] = some x) :
    ∃ a0 a1 a2 a3 : Int, c0 = .int .i64 a0 ∧ c1 = .int .i64 a1 ∧ c2 = .int .i64 a2 ∧ c3 = .int .i64 a3 := by
  obtain ⟨n0, y0, h0⟩ := part Tryz.underlying26 h 0 _ rfl
  obtain ⟨n1, y1, h1⟩ := part Tryz.underlying26 h 1 _ rfl
  obtain ⟨n2, y2, h2⟩ := part Tryz.underlying26 h 2 _ rfl
  obtain ⟨n3, y3, h3⟩ := part Tryz.underlying26 h 3 _ rfl
  simp [cellsI] at h0 h1 h2 h3
  obtain ⟨a0, e0⟩ := cell_int h0
  obtain ⟨a1, e1⟩ := cell_int h1
  obtain ⟨a2, e2⟩ := cell_int h2
  obtain ⟨a3, e3⟩ := cell_int h3
  exact ⟨a0, a1, a2, a3, e0, e1, e2, e3⟩

theorem open_times {n : Nat} {c0 c1 c2 c3 c4 c5 c6 : Value} {x : DataW H × List MemPlace} (h : DataW.trod enc Tryz.prog w base spare held n 24 [c0, c1, c2, c3, c4, c5, c6] = some x) :
    ∃ a0 a1 a2 a3 a4 a5 a6 : Int, c0 = .int .i64 a0 ∧ c1 = .int .i64 a1 ∧ c2 = .int .i64 a2 ∧ c3 = .int .i64 a3 ∧ c4 = .int .i64 a4 ∧ c5 = .int .i64 a5 ∧ c6 = .int .i64 a6 := by
  obtain ⟨n0, y0, h0⟩ := part Tryz.underlying24 h 0 _ rfl
  obtain ⟨n1, y1, h1⟩ := part Tryz.underlying24 h 1 _ rfl
  obtain ⟨n2, y2, h2⟩ := part Tryz.underlying24 h 2 _ rfl
  obtain ⟨n3, y3, h3⟩ := part Tryz.underlying24 h 3 _ rfl
  obtain ⟨n4, y4, h4⟩ := part Tryz.underlying24 h 4 _ rfl
  obtain ⟨n5, y5, h5⟩ := part Tryz.underlying24 h 5 _ rfl
  obtain ⟨n6, y6, h6⟩ := part Tryz.underlying24 h 6 _ rfl
  simp [cellsI] at h0 h1 h2 h3 h4 h5 h6
  obtain ⟨a0, e0⟩ := cell_int h0
  obtain ⟨a1, e1⟩ := cell_int h1
  obtain ⟨a2, e2⟩ := cell_int h2
  obtain ⟨a3, e3⟩ := cell_int h3
  obtain ⟨a4, e4⟩ := cell_int h4
  obtain ⟨a5, e5⟩ := cell_int h5
  obtain ⟨a6, e6⟩ := cell_int h6
  exact ⟨a0, a1, a2, a3, a4, a5, a6, e0, e1, e2, e3, e4, e5, e6⟩

theorem open_wn {n : Nat} {c0 c1 c2 c3 c4 c5 c6 : Value} {x : DataW H × List MemPlace} (h : DataW.trod enc Tryz.prog w base spare held n 35 [c0, c1, c2, c3, c4, c5, c6] = some x) :
    ∃ a0 a1 a2 a3 a4 a5 a6 : Int, c0 = .int .i64 a0 ∧ c1 = .int .i64 a1 ∧ c2 = .int .i64 a2 ∧ c3 = .int .i64 a3 ∧ c4 = .int .i64 a4 ∧ c5 = .int .i64 a5 ∧ c6 = .int .i64 a6 := by
  obtain ⟨n0, y0, h0⟩ := part Tryz.underlying35 h 0 _ rfl
  obtain ⟨n1, y1, h1⟩ := part Tryz.underlying35 h 1 _ rfl
  obtain ⟨n2, y2, h2⟩ := part Tryz.underlying35 h 2 _ rfl
  obtain ⟨n3, y3, h3⟩ := part Tryz.underlying35 h 3 _ rfl
  obtain ⟨n4, y4, h4⟩ := part Tryz.underlying35 h 4 _ rfl
  obtain ⟨n5, y5, h5⟩ := part Tryz.underlying35 h 5 _ rfl
  obtain ⟨n6, y6, h6⟩ := part Tryz.underlying35 h 6 _ rfl
  simp [cellsI] at h0 h1 h2 h3 h4 h5 h6
  obtain ⟨a0, e0⟩ := cell_int h0
  obtain ⟨a1, e1⟩ := cell_int h1
  obtain ⟨a2, e2⟩ := cell_int h2
  obtain ⟨a3, e3⟩ := cell_int h3
  obtain ⟨a4, e4⟩ := cell_int h4
  obtain ⟨a5, e5⟩ := cell_int h5
  obtain ⟨a6, e6⟩ := cell_int h6
  exact ⟨a0, a1, a2, a3, a4, a5, a6, e0, e1, e2, e3, e4, e5, e6⟩

theorem open_zone {n : Nat} {c0 c1 c2 c3 c4 c5 c6 c7 c8 c9 : Value} {x : DataW H × List MemPlace} (h : DataW.trod enc Tryz.prog w base spare held n 28 [c0, c1, c2, c3, c4, c5, c6, c7, c8, c9] = some x) :
    ∃ z : Zn, c0 = .int .i64 z.b ∧ c1 = .int .i64 z.s ∧ c2 = .int .i64 z.p.m ∧ c3 = .int .i64 z.p.k ∧ c4 = .int .i64 z.p.v ∧ c5 = .int .i64 z.p.u ∧ c6 = .int .i64 z.q.m ∧ c7 = .int .i64 z.q.k ∧ c8 = .int .i64 z.q.v ∧ c9 = .int .i64 z.q.u := by
  obtain ⟨n0, y0, h0⟩ := part Tryz.underlying28 h 0 _ rfl
  obtain ⟨n1, y1, h1⟩ := part Tryz.underlying28 h 1 _ rfl
  obtain ⟨n2, y2, h2⟩ := part Tryz.underlying28 h 2 _ rfl
  obtain ⟨n3, y3, h3⟩ := part Tryz.underlying28 h 3 _ rfl
  simp [cellsI] at h0 h1
  simp [cellsU] at h2 h3
  obtain ⟨b, e0⟩ := cell_int h0
  obtain ⟨s, e1⟩ := cell_int h1
  obtain ⟨a0, a1, a2, a3, e2, e3, e4, e5⟩ := open_turn h2
  obtain ⟨b0, b1, b2, b3, e6, e7, e8, e9⟩ := open_turn h3
  exact ⟨⟨b, s, ⟨a0, a1, a2, a3⟩, ⟨b0, b1, b2, b3⟩⟩, e0, e1, e2, e3, e4, e5, e6, e7, e8, e9⟩

theorem open_sn {n : Nat} {c0 c1 c2 c3 c4 c5 c6 c7 c8 c9 c10 c11 : Value} {x : DataW H × List MemPlace} (h : DataW.trod enc Tryz.prog w base spare held n 30 [c0, c1, c2, c3, c4, c5, c6, c7, c8, c9, c10, c11] = some x) :
    ∃ s : Nat → Int, c0 = .int .i64 (s 0) ∧ c1 = .int .i64 (s 1) ∧ c2 = .int .i64 (s 2) ∧ c3 = .int .i64 (s 3) ∧ c4 = .int .i64 (s 4) ∧ c5 = .int .i64 (s 5) ∧ c6 = .int .i64 (s 6) ∧ c7 = .int .i64 (s 7) ∧ c8 = .int .i64 (s 8) ∧ c9 = .int .i64 (s 9) ∧ c10 = .int .i64 (s 10) ∧ c11 = .int .i64 (s 11) := by
  obtain ⟨xs, m, _, _, _, hl, hall⟩ := DataW.trod_array Tryz.underlying30 h
  have go : ∀ i, i < 12 → ∃ y, DataW.trod enc Tryz.prog w base spare held m 3 (([c0, c1, c2, c3, c4, c5, c6, c7, c8, c9, c10, c11].drop (i * Tryz.prog.cellsOf 3)).take (Tryz.prog.cellsOf 3)) = some y := fun i hi => ⟨xs[i]'(by omega), by rw [hall i hi]; exact List.getElem?_eq_getElem (by omega)⟩
  obtain ⟨y0, h0⟩ := go 0 (by omega)
  obtain ⟨y1, h1⟩ := go 1 (by omega)
  obtain ⟨y2, h2⟩ := go 2 (by omega)
  obtain ⟨y3, h3⟩ := go 3 (by omega)
  obtain ⟨y4, h4⟩ := go 4 (by omega)
  obtain ⟨y5, h5⟩ := go 5 (by omega)
  obtain ⟨y6, h6⟩ := go 6 (by omega)
  obtain ⟨y7, h7⟩ := go 7 (by omega)
  obtain ⟨y8, h8⟩ := go 8 (by omega)
  obtain ⟨y9, h9⟩ := go 9 (by omega)
  obtain ⟨y10, h10⟩ := go 10 (by omega)
  obtain ⟨y11, h11⟩ := go 11 (by omega)
  simp [cellsI] at h0 h1 h2 h3 h4 h5 h6 h7 h8 h9 h10 h11
  obtain ⟨a0, e0⟩ := cell_int h0
  obtain ⟨a1, e1⟩ := cell_int h1
  obtain ⟨a2, e2⟩ := cell_int h2
  obtain ⟨a3, e3⟩ := cell_int h3
  obtain ⟨a4, e4⟩ := cell_int h4
  obtain ⟨a5, e5⟩ := cell_int h5
  obtain ⟨a6, e6⟩ := cell_int h6
  obtain ⟨a7, e7⟩ := cell_int h7
  obtain ⟨a8, e8⟩ := cell_int h8
  obtain ⟨a9, e9⟩ := cell_int h9
  obtain ⟨a10, e10⟩ := cell_int h10
  obtain ⟨a11, e11⟩ := cell_int h11
  exact ⟨fun i => [a0, a1, a2, a3, a4, a5, a6, a7, a8, a9, a10, a11].getD i 0, e0, e1, e2, e3, e4, e5, e6, e7, e8, e9, e10, e11⟩

/-- A slice of ints. -/
theorem open_st {n : Nat} {v : Value} {x : DataW H × List MemPlace} (h : DataW.trod enc Tryz.prog w base spare held n 22 [v] = some x) : ∃ xs : List Int, Sk .i64 w v xs := by
  rcases open_ints Tryz.underlying22 Tryz.underlying3 (by kernel_rfl) h with ⟨hcs, _⟩ | ⟨x, len, cap, zs, hcs, _, hl, hm, hz, _, hcell, hwz⟩
  · simp only [List.cons.injEq, and_true] at hcs
    subst hcs
    exact ⟨[], sk_nil _ _⟩
  · simp only [List.cons.injEq, and_true] at hcs
    subst hcs
    have h2 : zs.length = if spare x.block = true then cap else len := by simpa using hz
    have hz' : len ≤ zs.length := by rw [h2]; split <;> omega
    have he : (zs.take len).length = len := by rw [List.length_take]; omega
    refine ⟨zs.take len, some x, cap, by rw [he], by rw [he]; exact hl, by simpa [maxLen] using hm, by simp, fun i y hy => ?_⟩
    have hi : i < len := by
      have := (List.getElem?_eq_some_iff.1 hy).1
      omega
    obtain ⟨b, off, rfl, hc⟩ := ints_at hcell (by omega)
    refine ⟨b, off, rfl, ?_⟩
    rw [List.getElem?_take_of_lt hi] at hy
    have := hc i (by omega)
    rwa [List.getD_eq_getElem?_getD, hy] at this

theorem list7 {α : Type} (l : List α) (h : l.length = 7) : ∃ c0 c1 c2 c3 c4 c5 c6, l = [c0, c1, c2, c3, c4, c5, c6] := by
  match l, h with
  | [c0, c1, c2, c3, c4, c5, c6], _ => exact ⟨c0, c1, c2, c3, c4, c5, c6, rfl⟩

/-- The windows behind cells. -/
theorem wins_of (a : Addr) (len : Nat) (h : ∀ i, i < len → ∃ x : Wn, w.cells? base (a.add (i * 7)) 7 = some (wc x)) : ∃ xs : List Wn, xs.length = len ∧ ∀ i x, xs[i]? = some x → w.cells? base (a.add (i * 7)) 7 = some (wc x) := by
  induction len with
  | zero => exact ⟨[], rfl, by simp⟩
  | succ k ih =>
    obtain ⟨xs, hl, hx⟩ := ih (fun i hi => h i (by omega))
    obtain ⟨x, hk⟩ := h k (by omega)
    refine ⟨xs ++ [x], by simp [hl], fun i y hy => ?_⟩
    by_cases e : i < k
    · rw [List.getElem?_append_left (by omega)] at hy
      exact hx i y hy
    · rw [List.getElem?_append_right (by omega)] at hy
      have hi : i - xs.length = 0 := by
        have := (List.getElem?_eq_some_iff.1 hy).1
        simp at this
        omega
      rw [hi] at hy
      have ei : i = k := by omega
      simp only [List.getElem?_cons_zero, Option.some.injEq] at hy
      subst hy ei
      exact hk

theorem open_wins {n : Nat} {v : Value} {x : DataW H × List MemPlace} (h : DataW.trod enc Tryz.prog w base spare held n 31 [v] = some x) : ∃ xs : List Wn, Wk w v xs := by
  rcases DataW.trod_slice Tryz.underlying31 h with ⟨hcs, _⟩ | ⟨a, len, cap, elems, rest, m, _, hcs, _, hb, hl, hm, he, hall, _, _⟩
  · simp only [List.cons.injEq, and_true] at hcs
    subst hcs
    exact ⟨[], none, 0, rfl, by simp, by omega, by simp, by simp [fl]⟩
  · simp only [List.cons.injEq, and_true] at hcs
    subst hcs
    rw [cellsW] at hall
    obtain ⟨xs, hxl, hx⟩ := wins_of (w := w) (base := base) a len (fun i hi => by
      have h1 := hall i hi
      rw [List.getElem?_eq_getElem (by omega), Option.bind_eq_some_iff] at h1
      obtain ⟨cs, hc, ht⟩ := h1
      obtain ⟨c0, c1, c2, c3, c4, c5, c6, rfl⟩ := list7 cs (World.cells?_some hc).2.1
      obtain ⟨a0, a1, a2, a3, a4, a5, a6, rfl, rfl, rfl, rfl, rfl, rfl, rfl⟩ := open_wn ht
      exact ⟨⟨a0, a1, a2, a3, a4, a5, a6⟩, hc⟩)
    subst hxl
    refine ⟨xs, some a, cap, rfl, hl, by simpa [maxLen] using hm, by simp, fun i y hy => ?_⟩
    have hi : i < xs.length * 7 := by
      have := (List.getElem?_eq_some_iff.1 hy).1
      rwa [fl_len] at this
    have hq : i / 7 < xs.length := by omega
    have hr : i % 7 < 7 := by omega
    have hxi : xs[i / 7]? = some (xs[i / 7]) := List.getElem?_eq_getElem hq
    have e1 : i = i / 7 * 7 + i % 7 := by omega
    rw [e1, fl_get hxi hr] at hy
    have hc := (World.cells?_some (hx _ _ hxi)).2.2 (i % 7) hr
    rw [hy] at hc
    obtain ⟨b, off, spot⟩ := a
    have hspot : spot = none := by
      have h0 : xs[0]? = some (xs[0]'(by omega)) := List.getElem?_eq_getElem (by omega)
      have := (World.cells?_some (hx _ _ h0)).2.2 0 (by omega)
      exact World.cell?_spot (this.trans (show (wc _)[0]? = some _ from rfl))
    subst hspot
    refine ⟨b, off, rfl, ?_⟩
    rw [Go.WideShapes.add_plain, Go.WideShapes.add_plain] at hc
    rw [e1, ← Nat.add_assoc]
    exact hc

theorem open_win {r : Reach} {b0 : Nat} {v : Value} {d : DataW H} {p : List MemPlace} (hv : Value.okWide Tryz.prog w r b0 35 v) (h : DataW.Trod enc Tryz.prog w base spare held 35 v d p) :
    ∃ x : Wn, v = .agg (wc x).toArray := by
  obtain ⟨cs, rfl, hsz⟩ := okWide_struct Tryz.underlying35 hv
  obtain ⟨l⟩ := cs
  obtain ⟨c0, c1, c2, c3, c4, c5, c6, rfl⟩ := list7 l (hsz.trans cellsW)
  obtain ⟨fuel, hf⟩ := h
  obtain ⟨a0, a1, a2, a3, a4, a5, a6, rfl, rfl, rfl, rfl, rfl, rfl, rfl⟩ := open_wn hf
  exact ⟨⟨a0, a1, a2, a3, a4, a5, a6⟩, rfl⟩

theorem list37 {α : Type} (l : List α) (h : l.length = 37) : ∃ c0 c1 c2 c3 c4 c5 c6 c7 c8 c9 c10 c11 c12 c13 c14 c15 c16 c17 c18 c19 c20 c21 c22 c23 c24 c25 c26 c27 c28 c29 c30 c31 c32 c33 c34 c35 c36, l = [c0, c1, c2, c3, c4, c5, c6, c7, c8, c9, c10, c11, c12, c13, c14, c15, c16, c17, c18, c19, c20, c21, c22, c23, c24, c25, c26, c27, c28, c29, c30, c31, c32, c33, c34, c35, c36] := by
  match l, h with
  | c0 :: c1 :: c2 :: c3 :: c4 :: c5 :: c6 :: c7 :: c8 :: c9 :: c10 :: c11 :: c12 :: c13 :: c14 :: c15 :: c16 :: c17 :: c18 :: c19 :: c20 :: c21 :: c22 :: c23 :: c24 :: c25 :: c26 :: c27 :: c28 :: c29 :: c30 :: c31 :: c32 :: c33 :: c34 :: c35 :: c36 :: [], _ => exact ⟨c0, c1, c2, c3, c4, c5, c6, c7, c8, c9, c10, c11, c12, c13, c14, c15, c16, c17, c18, c19, c20, c21, c22, c23, c24, c25, c26, c27, c28, c29, c30, c31, c32, c33, c34, c35, c36, rfl⟩

theorem open_cfg {r : Reach} {b0 : Nat} {v : Value} {d : DataW H} {p : List MemPlace} (hv : Value.okWide Tryz.prog w r b0 33 v) (h : DataW.Trod enc Tryz.prog w base spare held 33 v d p) :
    ∃ (c : Cg) (x y : Value), v = .agg (cc c x y) ∧ Sk .i64 w x c.st ∧ Wk w y c.ws := by
  obtain ⟨cs, rfl, hsz⟩ := okWide_struct Tryz.underlying33 hv
  obtain ⟨l⟩ := cs
  obtain ⟨c0, c1, c2, c3, c4, c5, c6, c7, c8, c9, c10, c11, c12, c13, c14, c15, c16, c17, c18, c19, c20, c21, c22, c23, c24, c25, c26, c27, c28, c29, c30, c31, c32, c33, c34, c35, c36, rfl⟩ := list37 l (hsz.trans cellsC)
  obtain ⟨fuel, hf⟩ := h
  obtain ⟨n0, y0, h0⟩ := part Tryz.underlying33 hf 0 _ rfl
  obtain ⟨n1, y1, h1⟩ := part Tryz.underlying33 hf 1 _ rfl
  obtain ⟨n2, y2, h2⟩ := part Tryz.underlying33 hf 2 _ rfl
  obtain ⟨n3, y3, h3⟩ := part Tryz.underlying33 hf 3 _ rfl
  obtain ⟨n4, y4, h4⟩ := part Tryz.underlying33 hf 4 _ rfl
  obtain ⟨n5, y5, h5⟩ := part Tryz.underlying33 hf 5 _ rfl
  obtain ⟨n6, y6, h6⟩ := part Tryz.underlying33 hf 6 _ rfl
  obtain ⟨n7, y7, h7⟩ := part Tryz.underlying33 hf 7 _ rfl
  obtain ⟨n8, y8, h8⟩ := part Tryz.underlying33 hf 8 _ rfl
  obtain ⟨n9, y9, h9⟩ := part Tryz.underlying33 hf 9 _ rfl
  obtain ⟨n10, y10, h10⟩ := part Tryz.underlying33 hf 10 _ rfl
  simp [cellsI, Value.cells] at h0
  simp [cellsI, Value.cells] at h1
  simp [cellsI, Value.cells] at h2
  simp [cellsL, Value.cells] at h3
  simp [cellsT, Value.cells] at h4
  simp [cellsI, Value.cells] at h5
  simp [cellsI, Value.cells] at h6
  simp [cellsZ, Value.cells] at h7
  simp [cellsS, Value.cells] at h8
  simp [cellsB, Value.cells] at h9
  simp [cellsV, Value.cells] at h10
  obtain ⟨a0, rfl⟩ := cell_int h0
  obtain ⟨a1, rfl⟩ := cell_int h1
  obtain ⟨a2, rfl⟩ := cell_int h2
  obtain ⟨st, hs⟩ := open_st h3
  obtain ⟨t0, t1, t2, t3, t4, t5, t6, rfl, rfl, rfl, rfl, rfl, rfl, rfl⟩ := open_times h4
  obtain ⟨a5, rfl⟩ := cell_int h5
  obtain ⟨a6, rfl⟩ := cell_int h6
  obtain ⟨z, rfl, rfl, rfl, rfl, rfl, rfl, rfl, rfl, rfl, rfl⟩ := open_zone h7
  obtain ⟨s, rfl, rfl, rfl, rfl, rfl, rfl, rfl, rfl, rfl, rfl, rfl, rfl⟩ := open_sn h8
  obtain ⟨ab, rfl⟩ := cell_bool h9
  obtain ⟨ws, hw⟩ := open_wins h10
  exact ⟨⟨a0, a1, a2, st, t0, t1, t2, t3, t4, t5, t6, a5, a6, z, s, ab, ws⟩, _, _, rfl, hs, hw⟩

end

end Go.Proofs.YtmlnlkfdbbnkbaaGreatDoor.Conf
