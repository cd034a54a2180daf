/-
  What Get answers, by the program: whatever the bytes and the place. Condition: the bytes are bytes.
-/
import Derived.Test.YtdljmpaabpkmkaaDoorWl
namespace Go.Proofs.YtdljmpaabpkmkaaDoor.Wire
open Go.ChangeShapes Go.WideShapes Go.ChangeAt Go.RowKit
open Go.Proofs.YtdljmpaabpkmkaaDoor.Divs Go.Proofs.YtdljmpaabpkmkaaDoor.Grow Go.Proofs.YtdljmpaabpkmkaaDoor.By Go.Proofs.YtdljmpaabpkmkaaDoor.Wi

theorem ret3 {a b c a' b' c' : Int} (h1 : a = a') (h2 : b = b') (h3 : c = c') : Ending.returned (.tuple #[.int .i64 a, .int .i64 b, .int .i64 c]) = .returned (.tuple #[.int .i64 a', .int .i64 b', .int .i64 c']) := by rw [h1, h2, h3]

theorem get_far (bs : List Int) (p : Int) (v : Value) (w : World) (hs : Sk .u8 w v bs) (h : ¬ (0 ≤ p ∧ p ≤ bs.length)) :
    Calls Tryd.prog 50 #[v, .int .i64 p] w fun e w' => e = .returned (.tuple #[.int .i64 (gN bs p), .int .i64 (gP bs p), .int .i64 (gE bs p)]) ∧ w = w' := by
  have HN : Hid (0 = gN bs p ∧ 0 = gP bs p ∧ 80 = gE bs p) := by
    have : 0 = gN bs p ∧ 0 = gP bs p ∧ 80 = gE bs p := by unfold gN gP gE; rw [if_neg h, if_neg h, if_neg h]; exact ⟨rfl, rfl, rfl⟩
    exact this
  obtain ⟨ad, cap, rfl, hm⟩ := hs.len
  clear hs
  by_cases h0 : p < 0
  · have t : decide (p < 0) = true := by simpa using h0
    clear h
    go_enter Tryd.func50, Tryd.ntmps50
    go_wp2
    go_ret3
    exact ⟨ret3 HN.out.1 HN.out.2.1 HN.out.2.2, rfl⟩
  · have t : decide (p < 0) = false := by simpa using h0
    have t' : decide ((bs.length : Int) < p) = true := by simp; omega
    clear h
    go_enter Tryd.func50, Tryd.ntmps50
    go_wp2
    go_ret3
    exact ⟨ret3 HN.out.1 HN.out.2.1 HN.out.2.2, rfl⟩

theorem cut_end (ad : Option Addr) (len cap : Nat)   : ∃ A c, ∀ W : World, (Instr.slice 22 (.slice ad len cap) (some (.int .i64 (len : Int))) none none).run Tryd.prog W = .ok (.slice A 0 c) W := by
  refine ⟨if cap = len then ad else ad.map (·.add (len * 1)), cap - len, fun W => ?_⟩
  have := run_slice_l (P := Tryd.prog) W 22 ad len cap (by kernel_rfl) .i64 len (by omega) (by omega)
  rw [this]
  go_simp

theorem cut_in (b off len cap k : Nat) (hk : k < len) (h : len ≤ cap) : ∀ W : World, (Instr.slice 22 (.slice (some ⟨b, off, none⟩) len cap) (some (.int .i64 (k : Int))) none none).run Tryd.prog W = .ok (.slice (some ⟨b, off + k, none⟩) (len - k) (cap - k)) W := by
  intro W
  have := run_slice_l (P := Tryd.prog) W 22 (some ⟨b, off, none⟩) len cap (by kernel_rfl) .i64 k (by omega) (by omega)
  rw [this]
  go_simp
  omega

theorem get_end (bs : List Int) (v : Value) (w : World) (hs : Sk .u8 w v bs) :
    Calls Tryd.prog 50 #[v, .int .i64 (bs.length : Int)] w fun e w' => e = .returned (.tuple #[.int .i64 0, .int .i64 0, .int .i64 81]) ∧ w = w' := by
  obtain ⟨ad, cap, rfl, h1, h2, _⟩ := hs
  obtain ⟨A, c, sl⟩ := cut_end ad bs.length cap
  go_enter Tryd.func50, Tryd.ntmps50
  go_wp2
  refine wp_loop_rounds 1 ?_
  rw [rounds_succ]
  go_wp2
  go_ret3
  exact ⟨rfl, rfl⟩

/-- A code's digits so far. -/
def cb (j : Nat) (a : Int) (r : Int × Nat × Int) : Int × Nat × Int := if r.2.2 = 0 then (a + 2 ^ (j * 7) * r.1, j + r.2.1, 0) else (0, 0, r.2.2)

theorem cb_zero (r : List Int) : gc 9 r = cb 0 0 (gc 9 r) := by
  unfold cb
  by_cases h : (gc 9 r).2.2 = 0
  · rw [if_pos h]
    refine Prod.ext ?_ (Prod.ext ?_ h)
    · show _ = 0 + 2 ^ (0 * 7) * (gc 9 r).1
      simp
    · show _ = 0 + (gc 9 r).2.1
      simp
  · rw [if_neg h]
    obtain ⟨a, b⟩ := gc_err 9 r h
    exact Prod.ext a (Prod.ext b rfl)

theorem cb_long (j : Nat) (a x : Int) (r : List Int) (hj : j ≤ 9) (h : sp j x = 2) : cb j a (gc (9 - j) (x :: r)) = (0, 0, 82) := by
  unfold sp at h
  rw [gc]
  by_cases h1 : (j : Int) = 9 ∧ 1 < x
  · rw [if_pos (by omega)]
    rfl
  · rw [if_neg h1] at h
    by_cases h2 : 128 ≤ x
    · rw [if_pos h2] at h; omega
    · rw [if_neg h2] at h
      by_cases h3 : 0 < (j : Int) ∧ x = 0
      · rw [if_neg (by omega), if_neg h2, if_pos (by omega)]
        rfl
      · rw [if_neg h3] at h; omega

theorem cb_end (j : Nat) (a x : Int) (r : List Int) (hj : j ≤ 9) (x0 : 0 ≤ x) (h : sp j x = 1) : cb j a (gc (9 - j) (x :: r)) = (a + x % 128 * 2 ^ (j * 7), j + 1, 0) ∧ x < 128 ∧ (j = 9 → x ≤ 1) := by
  unfold sp at h
  rw [gc]
  by_cases h1 : (j : Int) = 9 ∧ 1 < x
  · rw [if_pos h1] at h; omega
  · rw [if_neg h1] at h
    by_cases h2 : 128 ≤ x
    · rw [if_pos h2] at h; omega
    · rw [if_neg h2] at h
      by_cases h3 : 0 < (j : Int) ∧ x = 0
      · rw [if_pos h3] at h; omega
      · rw [if_neg (by omega), if_neg h2, if_neg (by omega)]
        refine ⟨?_, by omega, by omega⟩
        unfold cb
        simp only [if_true]
        rw [show x % 128 = x by omega, Int.mul_comm]

theorem cb_on (j : Nat) (a x : Int) (r : List Int) (hj : j ≤ 9) (x1 : x ≤ 255) (h : sp j x = 0) : cb j a (gc (9 - j) (x :: r)) = cb (j + 1) (a + x % 128 * 2 ^ (j * 7)) (gc (9 - (j + 1)) r) ∧ j < 9 := by
  unfold sp at h
  rw [gc]
  by_cases h1 : (j : Int) = 9 ∧ 1 < x
  · rw [if_pos h1] at h; omega
  · rw [if_neg h1] at h
    by_cases h2 : 128 ≤ x
    · rw [if_neg (by omega), if_pos h2, show 9 - j - 1 = 9 - (j + 1) by omega]
      refine ⟨?_, by omega⟩
      generalize gc (9 - (j + 1)) r = g
      unfold cb
      by_cases h3 : g.2.2 = 0
      · rw [if_pos h3, if_pos h3]
        simp only [if_true]
        have e : (2 : Int) ^ ((j + 1) * 7) = 2 ^ (j * 7) * 128 := by
          rw [show (j + 1) * 7 = j * 7 + 7 by omega, Int.pow_add]
          rfl
        rw [e, show x % 128 = x - 128 by omega, Int.mul_add, Int.mul_comm (x - 128), Int.mul_assoc]
        congr 1
        · omega
        · congr 1
          omega
      · rw [if_neg h3, if_neg h3]
        simp only
        rw [if_neg h3]
    · rw [if_neg h2] at h
      split at h <;> omega

theorem pow_bd (j : Nat) (hj : j ≤ 9) : (2 : Int) ^ (j * 7) ≤ 9223372036854775808 ∧ 1 ≤ (2 : Int) ^ (j * 7) := by
  obtain rfl | rfl | rfl | rfl | rfl | rfl | rfl | rfl | rfl | rfl : j = 0 ∨ j = 1 ∨ j = 2 ∨ j = 3 ∨ j = 4 ∨ j = 5 ∨ j = 6 ∨ j = 7 ∨ j = 8 ∨ j = 9 := by omega
  all_goals decide

theorem pow_bd8 (j : Nat) (hj : j ≤ 8) : (2 : Int) ^ (j * 7) ≤ 72057594037927936 := by
  obtain rfl | rfl | rfl | rfl | rfl | rfl | rfl | rfl | rfl : j = 0 ∨ j = 1 ∨ j = 2 ∨ j = 3 ∨ j = 4 ∨ j = 5 ∨ j = 6 ∨ j = 7 ∨ j = 8 := by omega
  all_goals decide

/-- A digit that is laid above the others. -/
theorem or_code (a d : Int) (j : Nat) (hj : j ≤ 9) (a0 : 0 ≤ a) (a1 : a < 2 ^ (j * 7)) (d0 : 0 ≤ d) (d1 : d < 128) (d9 : j = 9 → d ≤ 1) :
    bits .or .u64 a (IntKind.u64.wrap (d * 2 ^ (j * 7))) = a + d * 2 ^ (j * 7) ∧ 0 ≤ a + d * 2 ^ (j * 7) ∧ a + d * 2 ^ (j * 7) ≤ 18446744073709551615 := by
  have p := pow_bd j hj
  obtain ⟨A, rfl⟩ := Int.eq_ofNat_of_zero_le a0
  obtain ⟨D, rfl⟩ := Int.eq_ofNat_of_zero_le d0
  have hP : ((2 : Int) ^ (j * 7)) = ((2 ^ (j * 7) : Nat) : Int) := by simp
  rw [hP] at p a1 ⊢
  obtain ⟨P, e⟩ : ∃ P : Nat, P = 2 ^ (j * 7) := ⟨_, rfl⟩
  have hbd : D * P ≤ 9223372036854775808 := by
    by_cases h9 : j = 9
    · have := d9 h9
      have h1 : D ≤ 1 := by omega
      have := Nat.mul_le_mul_right P h1
      rw [e] at this ⊢
      omega
    · have q := pow_bd8 j (by omega)
      rw [hP] at q
      have h1 : D ≤ 127 := by omega
      have := Nat.mul_le_mul_right P h1
      rw [e] at this ⊢
      omega
  rw [e] at hbd
  have hw : IntKind.u64.wrap ((D : Int) * ((2 ^ (j * 7) : Nat) : Int)) = ((D * 2 ^ (j * 7) : Nat) : Int) := by
    rw [← Int.natCast_mul]
    exact IntWalk.u64_in _ ⟨by omega, by omega⟩
  rw [hw, Go.u64_or_nat _ _ (by omega) (by omega), Nat.or_comm, nat_join (j * 7) _ _ (Nat.mul_mod_left _ _) (by omega), ← Int.natCast_mul]
  omega

theorem or_lt (a d : Int) (j : Nat) (a1 : a < 2 ^ (j * 7)) (d1 : d < 128) : a + d * 2 ^ (j * 7) < 2 ^ ((j + 1) * 7) := by
  have e : (2 : Int) ^ ((j + 1) * 7) = 2 ^ (j * 7) * 128 := by
    rw [show (j + 1) * 7 = j * 7 + 7 by omega, Int.pow_add]
    rfl
  have hp : (0 : Int) ≤ 2 ^ (j * 7) := Int.le_of_lt (Int.pow_pos (by decide))
  have := Int.mul_le_mul_of_nonneg_right (show d ≤ 127 by omega) hp
  rw [e]
  generalize (2 : Int) ^ (j * 7) = P at *
  omega

def GRel (rs : List Int) (c i : Value) : Prop := ∃ (j : Nat) (a : Int), j ≤ rs.length ∧ j ≤ 9 ∧ c = .int .u64 a ∧ i = .int .i64 (j : Int) ∧ 0 ≤ a ∧ a < 2 ^ (j * 7) ∧ gc 9 rs = cb j a (gc (9 - j) (rs.drop j))

theorem get_in (bs : List Int) (k : Nat) (b off cap : Nat) (w : World) (hk : k < bs.length) (hcap : bs.length ≤ cap) (hm : cap ≤ 9223372036854775807) (hc : ∀ i, i < bs.length → w.cell? ⟨b, off + i, none⟩ = some (.int .u8 (bs.getD i 0))) (hb : ∀ x ∈ bs, 0 ≤ x ∧ x ≤ 255) (rs : List Int) (hr : rs = bs.drop k) (N P E : Int)
    (HF : Hid (∀ r, gc 9 rs = r → N = (if r.2.2 = 0 then nu r.1 else 0) ∧ P = (if r.2.2 = 0 then (k : Int) + (r.2.1 : Int) else 0) ∧ E = r.2.2)) :
    Calls Tryd.prog 50 #[.slice (some ⟨b, off, none⟩) bs.length cap, .int .i64 (k : Int)] w fun e w' => e = .returned (.tuple #[.int .i64 N, .int .i64 P, .int .i64 E]) ∧ w = w' := by
  have sl := cut_in b off bs.length cap k hk hcap
  have S := Lib.hid (fun i x W => step_any i x W)
  have M := Lib.hid (fun c W => number_any c W)
  have hl : rs.length = bs.length - k := by rw [hr, List.length_drop]
  have HC := Lib.hid hc
  have HR := Lib.hid hr
  have HB := Lib.hid hb
  have k0 : decide ((k : Int) < 0) = false := by simp
  have k1 : decide (bs.length < k) = false := by simp; omega
  clear hc hr hb
  go_enter Tryd.func50, Tryd.ntmps50
  go_wp2
  go_loop [7, 22] (fun c i => GRel rs c i) (fun _ i => rs.length - (intOf i).toNat)
  case atStart => exact ⟨0, 0, by omega, by omega, rfl, rfl, by omega, by simp, by rw [List.drop_zero]; exact cb_zero rs⟩
  case round =>
    obtain ⟨j, a, hj, hj9, rfl, rfl, a0, a1, hg⟩ := hrel
    have HG := Lib.hid hg
    have HA := Lib.hid a1
    clear hg a1
    by_cases hlt : j < rs.length
    · obtain ⟨x, hx⟩ : ∃ x, rs[j]? = some x := ⟨_, List.getElem?_eq_getElem hlt⟩
      have hxb := HB.out x (by rw [HR.out] at hx; exact List.mem_of_mem_drop (List.mem_of_getElem? hx))
      have c : w.cell? ⟨b, off + k + j, none⟩ = some (.int .u8 x) := by
        have := HC.out (k + j) (by omega)
        have hx' := hx
        rw [HR.out, List.getElem?_drop] at hx'
        rw [List.getD_eq_getElem?_getD, hx'] at this
        rw [Nat.add_assoc]
        exact this
      obtain ⟨x0, x1⟩ := hxb
      have t : j < bs.length - k := by omega
      have HX : Hid (rs.drop j = x :: rs.drop (j + 1)) := by
        have : rs.drop j = x :: rs.drop (j + 1) := by
          rw [List.drop_eq_getElem_cons hlt]
          congr 1
          rw [List.getElem?_eq_getElem hlt] at hx
          exact Option.some.inj hx
        exact this
      clear hx
      have hsp : sp j x = 2 ∨ sp j x = 1 ∨ sp j x = 0 := by
        unfold sp
        split
        · simp
        · split
          · simp
          · split <;> simp
      rcases hsp with hsp | hsp | hsp
      · have S2 := Lib.hid (S.out j x)
        rw [hsp] at S2
        have HV := Lib.hid (cb_long j a x (rs.drop (j + 1)) hj9 hsp)
        clear hsp
        go_wp2_with fail
        refine (S2.out _).mono ?_
        rintro e w1 ⟨rfl, rfl⟩
        go_wp2
        go_ret3
        obtain ⟨f1, f2, f3⟩ := HF.out _ (by rw [HG.out, HX.out, HV.out])
        exact ⟨ret3 f1.symm f2.symm f3.symm, rfl⟩
      · have S2 := Lib.hid (S.out j x)
        rw [hsp] at S2
        obtain ⟨hv, hx1, hx9⟩ := cb_end j a x (rs.drop (j + 1)) hj9 x0 hsp
        have HV := Lib.hid hv
        have HO := Lib.hid (or_code a (x % 128) j hj9 a0 HA.out (by omega) (by omega) (by omega))
        clear hsp hv
        go_wp2_with fail
        refine (S2.out _).mono ?_
        rintro e w1 ⟨rfl, rfl⟩
        go_wp2_with fail
        refine (M.out _ _ (by rw [HO.out.1]; exact HO.out.2.1) (by rw [HO.out.1]; exact HO.out.2.2)).mono ?_
        rintro e w1 ⟨rfl, rfl⟩
        go_wp2
        go_ret3
        obtain ⟨f1, f2, f3⟩ := HF.out _ (by rw [HG.out, HX.out, HV.out])
        rw [HO.out.1]
        exact ⟨ret3 f1.symm (by rw [f2]; simp; omega) f3.symm, rfl⟩
      · have S2 := Lib.hid (S.out j x)
        rw [hsp] at S2
        obtain ⟨hv, hjl⟩ := cb_on j a x (rs.drop (j + 1)) hj9 x1 hsp
        have HV := Lib.hid hv
        have HO := Lib.hid (or_code a (x % 128) j hj9 a0 HA.out (by omega) (by omega) (by omega))
        have HT := Lib.hid (or_lt a (x % 128) j HA.out (by omega))
        clear hsp hv
        go_wp2_with fail
        refine (S2.out _).mono ?_
        rintro e w1 ⟨rfl, rfl⟩
        go_wp2
        go_round
        case rel => exact ⟨j + 1, a + x % 128 * 2 ^ (j * 7), by omega, by omega, by rw [HO.out.1], by go_num, HO.out.2.1, HT.out, by rw [HG.out, HX.out, HV.out]⟩
        case measure => simp [intOf]; omega
    · have HV : Hid (gc 9 rs = (0, 0, 81)) := by
        have : gc 9 rs = (0, 0, 81) := by
          rw [HG.out, List.drop_eq_nil_of_le (by omega), gc]
          rfl
        exact this
      have t : ¬ j < bs.length - k := by omega
      go_wp2
      go_ret3
      obtain ⟨f1, f2, f3⟩ := HF.out _ HV.out
      exact ⟨ret3 f1.symm f2.symm f3.symm, rfl⟩

theorem get_any (bs : List Int) (p : Int) (v : Value) (w : World) (hs : Sk .u8 w v bs) (hb : ∀ x ∈ bs, 0 ≤ x ∧ x ≤ 255) :
    Calls Tryd.prog 50 #[v, .int .i64 p] w fun e w' => e = .returned (.tuple #[.int .i64 (gN bs p), .int .i64 (gP bs p), .int .i64 (gE bs p)]) ∧ w = w' := by
  by_cases h : 0 ≤ p ∧ p ≤ bs.length
  · obtain ⟨k, rfl⟩ := Int.eq_ofNat_of_zero_le h.1
    by_cases hk : k < bs.length
    · obtain ⟨b, off, cap, rfl, h1, h2, _, hc⟩ := hs.has (by omega)
      refine get_in bs k b off cap w hk h1 h2 hc hb _ rfl _ _ _ (Lib.hid ?_)
      rintro r rfl
      unfold gN gP gE
      rw [if_pos h, if_pos h, if_pos h, Int.toNat_natCast]
      exact ⟨rfl, rfl, rfl⟩
    · obtain rfl : k = bs.length := by omega
      have g := get_end bs v w hs
      unfold gN gP gE
      rw [if_pos h, if_pos h, if_pos h, Int.toNat_natCast, List.drop_length, gc]
      exact g
  · exact get_far bs p v w hs h
end Go.Proofs.YtdljmpaabpkmkaaDoor.Wire
