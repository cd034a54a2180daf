/-
  Whether a configuration's stops may be, by the reckoning. No condition but those that each theorem states.
-/
import Derived.Test.YthbgllbbliijlaaDb
namespace Go.Proofs.Ythbgllbbliijlaa.Conf
open Go.ChangeShapes Go.WideShapes Go.ChangeAt Go.RowKit
open Go.Proofs.Ythbgllbbliijlaa.Divs Go.Proofs.Ythbgllbbliijlaa.Grow Go.Proofs.Ythbgllbbliijlaa.Zone
open Go.Proofs.Ythbgllbbliijlaa.By (Sk SL bool_no bool_yes)
open Go.Proofs.Ythbgllbbliijlaa.Each
open Go.Proofs.Ythbgllbbliijlaa.Zo Go.Proofs.Ythbgllbbliijlaa.Su Go.Proofs.Ythbgllbbliijlaa.Cf

theorem to_small (c : Cg) (h : c.st.length < 2) : to c = false := by
  cases e : to c with
  | false => rfl
  | true => have := (to_iff c).1 e; omega

theorem to_not (c : Cg) (k : Nat) (hk : k < c.st.length) (h : ¬ sg c.f c.st k) : to c = false := by
  cases e : to c with
  | false => rfl
  | true => exact absurd (((to_iff c).1 e).2 k hk) h

/-- The first k stops may be. -/
def TRel (c : Cg) (W : World) (i : Value) (wr : World) : Prop := ∃ k j : Nat, k ≤ c.st.length ∧ i = .int .i64 (k : Int) ∧ su c.f c.st k ∧ wr = W.drewN j

set_option maxHeartbeats 2000000 in
theorem rstops_any (c : Cg) (u v : Value) (w : World) (hu : Sk .i64 w u c.st) : Calls Try.prog 24 #[.agg (cc c u v)] w fun e w' => e = .returned (.bool (to c)) ∧ Later w w' := by
  have HS : Hid (c.st.length < 2 → to c = false) := Lib.hid (to_small c)
  have HN : Hid (∀ k, k < c.st.length → ¬ sg c.f c.st k → to c = false) := Lib.hid (to_not c)
  have HY : Hid (2 ≤ c.st.length → su c.f c.st c.st.length → to c = true) := Lib.hid (fun a b => (to_iff c).2 ⟨a, b⟩)
  generalize to c = R at *
  obtain ⟨C, hC⟩ : ∃ C, C = cc c u v := ⟨_, rfl⟩
  rw [← hC]
  have f0 : C[0]? = some (.int .i64 c.f) := by rw [hC]; rfl
  have f3 : C[3]? = some u := by rw [hC]; rfl
  clear hC
  have HL := Lib.hid ((Later.refl w).alloc C 33)
  rcases Nat.eq_zero_or_pos c.st.length with h0 | h0
  · have HV := Lib.hid (HS.out (by omega))
    obtain ⟨ad, cap, rfl, _⟩ := hu.len
    rw [h0] at f3
    clear hu h0
    go_enter Try.func24, Try.ntmps24
    go_wp2_with fail
    refine wp_loop_rounds 1 ?_
    rw [rounds_succ]
    go_wp2
    go_ret
    exact ⟨retb HV.out.symm, HL.out⟩
  · obtain ⟨B, off, cap, rfl, _, m1, hB, hc⟩ := hu.has h0
    have hm : c.st.length ≤ 9223372036854775807 := by omega
    have HC : Hid (∀ i, i < c.st.length → (w.alloc (.cells C 33)).cell? ⟨B, off + i, none⟩ = some (.int .i64 (c.st.getD i 0))) := Lib.hid (fun i hi => gsome HL.out (hc i hi))
    have HA := Lib.hid (At.new w C 33)
    obtain ⟨F, hF⟩ : ∃ F, c.f = F := ⟨_, rfl⟩
    rw [hF] at f0
    have HF := Lib.hid hF
    clear hF
    have c0 := HA.out 0 _ f0
    have c3 := HA.out 3 _ f3
    clear hu hc m1 f0 f3 hB HA
    obtain ⟨n, hn⟩ : ∃ n, c.st.length = n := ⟨_, rfl⟩
    rw [hn] at hm h0 c3
    have HX := Lib.hid hn
    clear hn
    go_enter Try.func24, Try.ntmps24
    go_wp2_with fail
    generalize w.alloc (.cells C 33) = W0 at *
    go_loopw [3] (fun i wr => TRel c W0 i wr) (fun i _ => (n - intOf i).toNat)
    case atStart => exact ⟨0, 0, by omega, rfl, su_zero _ _, rfl⟩
    case round =>
      obtain ⟨k, j, hk, rfl, hs, rfl⟩ := hrel
      rw [HX.out] at hk
      have HU := Lib.hid hs
      clear hs
      by_cases hlt : k < n
      · have hx := HC.out k (by rw [HX.out]; exact hlt)
        obtain ⟨x, ex⟩ : ∃ x, c.st.getD k 0 = x := ⟨_, rfl⟩
        rw [ex] at hx
        have EX := Lib.hid ex
        clear ex
        by_cases h1 : x < 0
        · have HV := Lib.hid (HN.out k (by rw [HX.out]; exact hlt) (fun h => by
            have a := lo_pos HU.out
            have b := h.1
            rw [EX.out] at b
            omega))
          have t1 : decide (x < 0) = true := by simpa using h1
          clear h1
          go_wp2_with fail
          go_quiet (fail)
          go_wp2_with fail
          go_ret
          exact ⟨retb HV.out.symm, HL.out⟩
        · by_cases h2 : x ≥ F
          · have HV := Lib.hid (HN.out k (by rw [HX.out]; exact hlt) (fun h => by
              have b := h.2
              rw [EX.out, HF.out] at b
              omega))
            have t1 : decide (x < 0) = false := by simpa using h1
            have t2 : decide (x ≥ F) = true := by simpa using h2
            clear h1 h2
            go_wp2_with fail
            go_quiet (fail)
            go_wp2_with fail
            go_ret
            exact ⟨retb HV.out.symm, HL.out⟩
          · rcases Nat.eq_zero_or_pos k with hz | hz
            · have HT : Hid (su c.f c.st (k + 1)) := Lib.hid (su_on HU.out (by rw [sg, EX.out, HF.out, hz]; simp only [lo, if_true]; omega))
              have t1 : decide (x < 0) = false := by simpa using h1
              have t2 : decide (x ≥ F) = false := by simpa using h2
              have t3 : decide ((k : Int) > 0) = false := by simp; omega
              have t4 : decide (0 < k) = false := by simp; omega
              clear h1 h2 hz
              go_wp2_with fail
              go_quiet (fail)
              go_wp2_with fail
              go_roundw
              case rel => exact ⟨k + 1, _, by rw [HX.out]; omega, by go_num, HT.out, rfl⟩
              case measure => simp [intOf]; omega
            · obtain ⟨i, rfl⟩ : ∃ i, k = i + 1 := ⟨k - 1, by omega⟩
              clear hz
              have hy := HC.out i (by rw [HX.out]; omega)
              obtain ⟨y, ey⟩ : ∃ y, c.st.getD i 0 = y := ⟨_, rfl⟩
              rw [ey] at hy
              have EY := Lib.hid ey
              clear ey
              have hp : decide (((i + 1 : Nat) : Int) > 0) = true := by simp
              have hs : ((i + 1 : Nat) : Int) - 1 = (i : Int) := by omega
              by_cases h3 : x ≤ y
              · have HV := Lib.hid (HN.out (i + 1) (by rw [HX.out]; exact hlt) (fun h => by
                  have b := h.1
                  rw [EX.out, lo_succ, EY.out] at b
                  omega))
                have t1 : decide (x < 0) = false := by simpa using h1
                have t2 : decide (x ≥ F) = false := by simpa using h2
                have t3 : decide (x ≤ y) = true := by simpa using h3
                clear h1 h2 h3
                go_wp2_with fail
                go_quiet (fail)
                go_wp2_with fail
                go_ret
                exact ⟨retb HV.out.symm, HL.out⟩
              · have HT := Lib.hid (su_on HU.out (show sg c.f c.st (i + 1) by rw [sg, EX.out, lo_succ, EY.out, HF.out]; omega))
                have t1 : decide (x < 0) = false := by simpa using h1
                have t2 : decide (x ≥ F) = false := by simpa using h2
                have t3 : decide (x ≤ y) = false := by simpa using h3
                clear h1 h2 h3
                go_wp2_with fail
                go_quiet (fail)
                go_wp2_with fail
                go_roundw
                case rel => exact ⟨i + 2, _, by rw [HX.out]; omega, by go_num, HT.out, rfl⟩
                case measure => simp [intOf]; omega
      · obtain rfl : k = n := by omega
        by_cases h2 : k < 2
        · have HV := Lib.hid (HS.out (by rw [HX.out]; exact h2))
          go_wp2_with fail
          go_ret
          exact ⟨retb (by rw [HV.out]; simp; omega), gtrans HL.out (later_drewN W0 _)⟩
        · have HV := Lib.hid (HY.out (by rw [HX.out]; omega) (by rw [HX.out]; exact HU.out))
          go_wp2_with fail
          go_ret
          exact ⟨retb (by rw [HV.out]; simp; omega), gtrans HL.out (later_drewN W0 _)⟩

end Go.Proofs.Ythbgllbbliijlaa.Conf
