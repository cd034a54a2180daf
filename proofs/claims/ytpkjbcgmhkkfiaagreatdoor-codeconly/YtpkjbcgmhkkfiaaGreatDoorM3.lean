/-
  Texts of mine, merged: each part says what it holds. Conditions: as each theorem states.
-/
import Derived.Maps.AppendAt
import Derived.RangeFuncBox
import Derived.Deep.RegionLaw
import Derived.Lib.SlBytesConst
import Derived.OrdersHeld
import Derived.Laws.EntriesVeiled
import Derived.LoopIn
import Derived.LoopNIn
import Derived.OwnWalkIn
import Derived.RangeFuncBound
import Derived.RangeFuncCalls
import Derived.RangeFuncLeaves
import Derived.RangeFuncNested
import Derived.Scope
import Derived.Shelf.Abstract
import Derived.Shelf.RegionOpen
import Derived.TacticsInMore
import Derived.WalkKit
import Derived.Deep.RegionHeld3
import Derived.Laws.BytesArg
import Derived.LaidEql
import Derived.Stop.Asserts
import Derived.RowKitTokens
import Derived.Lib.ReflectliteSwap
import Derived.Test.YtpkjbcgmhkkfiaaGreatDoorRows
import Derived.Test.YtpkjbcgmhkkfiaaGreatDoorTie
import Derived.Test.YtpkjbcgmhkkfiaaGreatDoorCards
import Derived.ProofKit
import Derived.LaidMore
import Derived.OpenShut
import Derived.ShutString
import Derived.ChangeOld
import Derived.Below
import Derived.Stop.Joined
import Derived.Stop.LaidTwo
import Derived.LaidHandle
import Derived.Lib.LaidTab
import Derived.Lib.SmallJoins
import Derived.SevenTiedAt
import Derived.Test.YtpkjbcgmhkkfiaaGreatDoorM2

/- What Get answers, by the program: whatever the bytes and the place. Condition: the bytes are bytes. -/
namespace Go.Proofs.YtpkjbcgmhkkfiaaGreatDoor.Wire
open Go.ChangeShapes Go.WideShapes Go.ChangeAt Go.RowKit
open Go.Proofs.YtpkjbcgmhkkfiaaGreatDoor.Divs Go.Proofs.YtpkjbcgmhkkfiaaGreatDoor.Grow Go.Proofs.YtpkjbcgmhkkfiaaGreatDoor.By Go.Proofs.YtpkjbcgmhkkfiaaGreatDoor.Wi

theorem ret3 {a b c a' b' c' : Int} (h1 : a = a') (h2 : b = b') (h3 : c = c') : Ending.returned (.tuple #[.int .i64 a, .int .i64 b, .int .i64 c]) = .returned (.tuple #[.int .i64 a', .int .i64 b', .int .i64 c']) := by rw [h1, h2, h3]

theorem get_far (bs : List Int) (p : Int) (v : Value) (w : World) (hs : Sk .u8 w v bs) (h : ¬ (0 ≤ p ∧ p ≤ bs.length)) :
    Calls Tryz.prog 105 #[v, .int .i64 p] w fun e w' => e = .returned (.tuple #[.int .i64 (gN bs p), .int .i64 (gP bs p), .int .i64 (gE bs p)]) ∧ w = w' := by
  have HN : Hid (0 = gN bs p ∧ 0 = gP bs p ∧ 80 = gE bs p) := by
    have : 0 = gN bs p ∧ 0 = gP bs p ∧ 80 = gE bs p := by unfold gN gP gE; rw [if_neg h, if_neg h, if_neg h]; exact ⟨rfl, rfl, rfl⟩
    exact this
  obtain ⟨ad, cap, rfl, hm⟩ := hs.len
  clear hs
  by_cases h0 : p < 0
  · have t : decide (p < 0) = true := by simpa using h0
    clear h
    go_enter Tryz.func105, Tryz.ntmps105
    go_wp2
    go_ret3
    exact ⟨ret3 HN.out.1 HN.out.2.1 HN.out.2.2, rfl⟩
  · have t : decide (p < 0) = false := by simpa using h0
    have t' : decide ((bs.length : Int) < p) = true := by simp; omega
    clear h
    go_enter Tryz.func105, Tryz.ntmps105
    go_wp2
    go_ret3
    exact ⟨ret3 HN.out.1 HN.out.2.1 HN.out.2.2, rfl⟩

theorem cut_end (ad : Option Addr) (len cap : Nat)   : ∃ A c, ∀ W : World, (Instr.slice 36 (.slice ad len cap) (some (.int .i64 (len : Int))) none none).run Tryz.prog W = .ok (.slice A 0 c) W := by
  refine ⟨if cap = len then ad else ad.map (·.add (len * 1)), cap - len, fun W => ?_⟩
  have := run_slice_l (P := Tryz.prog) W 36 ad len cap (by kernel_rfl) .i64 len (by omega) (by omega)
  rw [this]
  go_simp

theorem cut_in (b off len cap k : Nat) (hk : k < len) (h : len ≤ cap) : ∀ W : World, (Instr.slice 36 (.slice (some ⟨b, off, none⟩) len cap) (some (.int .i64 (k : Int))) none none).run Tryz.prog W = .ok (.slice (some ⟨b, off + k, none⟩) (len - k) (cap - k)) W := by
  intro W
  have := run_slice_l (P := Tryz.prog) W 36 (some ⟨b, off, none⟩) len cap (by kernel_rfl) .i64 k (by omega) (by omega)
  rw [this]
  go_simp
  omega

theorem get_end (bs : List Int) (v : Value) (w : World) (hs : Sk .u8 w v bs) :
    Calls Tryz.prog 105 #[v, .int .i64 (bs.length : Int)] w fun e w' => e = .returned (.tuple #[.int .i64 0, .int .i64 0, .int .i64 81]) ∧ w = w' := by
  obtain ⟨ad, cap, rfl, h1, h2, _⟩ := hs
  obtain ⟨A, c, sl⟩ := cut_end ad bs.length cap
  go_enter Tryz.func105, Tryz.ntmps105
  go_wp2
  refine wp_loop_rounds 1 ?_
  rw [rounds_succ]
  go_wp2
  go_ret3
  exact ⟨rfl, rfl⟩

/-- A code's digits so far. -/
def cb (j : Nat) (a : Int) (r : Int × Nat × Int) : Int × Nat × Int := if r.2.2 = 0 then (a + 2 ^ (j * 7) * r.1, j + r.2.1, 0) else (0, 0, r.2.2)

theorem cb_zero (r : List Int) : gc 9 r = cb 0 0 (gc 9 r) := by
  unfold cb
  by_cases h : (gc 9 r).2.2 = 0
  · rw [if_pos h]
    refine Prod.ext ?_ (Prod.ext ?_ h)
    · show _ = 0 + 2 ^ (0 * 7) * (gc 9 r).1
      simp
    · show _ = 0 + (gc 9 r).2.1
      simp
  · rw [if_neg h]
    obtain ⟨a, b⟩ := gc_err 9 r h
    exact Prod.ext a (Prod.ext b rfl)

theorem cb_long (j : Nat) (a x : Int) (r : List Int) (hj : j ≤ 9) (h : sp j x = 2) : cb j a (gc (9 - j) (x :: r)) = (0, 0, 82) := by
  unfold sp at h
  rw [gc]
  by_cases h1 : (j : Int) = 9 ∧ 1 < x
  · rw [if_pos (by omega)]
    rfl
  · rw [if_neg h1] at h
    by_cases h2 : 128 ≤ x
    · rw [if_pos h2] at h; omega
    · rw [if_neg h2] at h
      by_cases h3 : 0 < (j : Int) ∧ x = 0
      · rw [if_neg (by omega), if_neg h2, if_pos (by omega)]
        rfl
      · rw [if_neg h3] at h; omega

theorem cb_end (j : Nat) (a x : Int) (r : List Int) (hj : j ≤ 9) (x0 : 0 ≤ x) (h : sp j x = 1) : cb j a (gc (9 - j) (x :: r)) = (a + x % 128 * 2 ^ (j * 7), j + 1, 0) ∧ x < 128 ∧ (j = 9 → x ≤ 1) := by
  unfold sp at h
  rw [gc]
  by_cases h1 : (j : Int) = 9 ∧ 1 < x
  · rw [if_pos h1] at h; omega
  · rw [if_neg h1] at h
    by_cases h2 : 128 ≤ x
    · rw [if_pos h2] at h; omega
    · rw [if_neg h2] at h
      by_cases h3 : 0 < (j : Int) ∧ x = 0
      · rw [if_pos h3] at h; omega
      · rw [if_neg (by omega), if_neg h2, if_neg (by omega)]
        refine ⟨?_, by omega, by omega⟩
        unfold cb
        simp only [if_true]
        rw [show x % 128 = x by omega, Int.mul_comm]

theorem cb_on (j : Nat) (a x : Int) (r : List Int) (hj : j ≤ 9) (x1 : x ≤ 255) (h : sp j x = 0) : cb j a (gc (9 - j) (x :: r)) = cb (j + 1) (a + x % 128 * 2 ^ (j * 7)) (gc (9 - (j + 1)) r) ∧ j < 9 := by
  unfold sp at h
  rw [gc]
  by_cases h1 : (j : Int) = 9 ∧ 1 < x
  · rw [if_pos h1] at h; omega
  · rw [if_neg h1] at h
    by_cases h2 : 128 ≤ x
    · rw [if_neg (by omega), if_pos h2, show 9 - j - 1 = 9 - (j + 1) by omega]
      refine ⟨?_, by omega⟩
      generalize gc (9 - (j + 1)) r = g
      unfold cb
      by_cases h3 : g.2.2 = 0
      · rw [if_pos h3, if_pos h3]
        simp only [if_true]
        have e : (2 : Int) ^ ((j + 1) * 7) = 2 ^ (j * 7) * 128 := by
          rw [show (j + 1) * 7 = j * 7 + 7 by omega, Int.pow_add]
          rfl
        rw [e, show x % 128 = x - 128 by omega, Int.mul_add, Int.mul_comm (x - 128), Int.mul_assoc]
        congr 1
        · omega
        · congr 1
          omega
      · rw [if_neg h3, if_neg h3]
        simp only
        rw [if_neg h3]
    · rw [if_neg h2] at h
      split at h <;> omega

theorem pow_bd (j : Nat) (hj : j ≤ 9) : (2 : Int) ^ (j * 7) ≤ 9223372036854775808 ∧ 1 ≤ (2 : Int) ^ (j * 7) := by
  obtain rfl | rfl | rfl | rfl | rfl | rfl | rfl | rfl | rfl | rfl : j = 0 ∨ j = 1 ∨ j = 2 ∨ j = 3 ∨ j = 4 ∨ j = 5 ∨ j = 6 ∨ j = 7 ∨ j = 8 ∨ j = 9 := by omega
  all_goals decide

theorem pow_bd8 (j : Nat) (hj : j ≤ 8) : (2 : Int) ^ (j * 7) ≤ 72057594037927936 := by
  obtain rfl | rfl | rfl | rfl | rfl | rfl | rfl | rfl | rfl : j = 0 ∨ j = 1 ∨ j = 2 ∨ j = 3 ∨ j = 4 ∨ j = 5 ∨ j = 6 ∨ j = 7 ∨ j = 8 := by omega
  all_goals decide

/-- A digit that is laid above the others. -/
theorem or_code (a d : Int) (j : Nat) (hj : j ≤ 9) (a0 : 0 ≤ a) (a1 : a < 2 ^ (j * 7)) (d0 : 0 ≤ d) (d1 : d < 128) (d9 : j = 9 → d ≤ 1) :
    bits .or .u64 a (IntKind.u64.wrap (d * 2 ^ (j * 7))) = a + d * 2 ^ (j * 7) ∧ 0 ≤ a + d * 2 ^ (j * 7) ∧ a + d * 2 ^ (j * 7) ≤ 18446744073709551615 := by
  have p := pow_bd j hj
  obtain ⟨A, rfl⟩ := Int.eq_ofNat_of_zero_le a0
  obtain ⟨D, rfl⟩ := Int.eq_ofNat_of_zero_le d0
  have hP : ((2 : Int) ^ (j * 7)) = ((2 ^ (j * 7) : Nat) : Int) := by simp
  rw [hP] at p a1 ⊢
  obtain ⟨P, e⟩ : ∃ P : Nat, P = 2 ^ (j * 7) := ⟨_, rfl⟩
  have hbd : D * P ≤ 9223372036854775808 := by
    by_cases h9 : j = 9
    · have := d9 h9
      have h1 : D ≤ 1 := by omega
      have := Nat.mul_le_mul_right P h1
      rw [e] at this ⊢
      omega
    · have q := pow_bd8 j (by omega)
      rw [hP] at q
      have h1 : D ≤ 127 := by omega
      have := Nat.mul_le_mul_right P h1
      rw [e] at this ⊢
      omega
  rw [e] at hbd
  have hw : IntKind.u64.wrap ((D : Int) * ((2 ^ (j * 7) : Nat) : Int)) = ((D * 2 ^ (j * 7) : Nat) : Int) := by
    rw [← Int.natCast_mul]
    exact IntWalk.u64_in _ ⟨by omega, by omega⟩
  rw [hw, Go.u64_or_nat _ _ (by omega) (by omega), Nat.or_comm, nat_join (j * 7) _ _ (Nat.mul_mod_left _ _) (by omega), ← Int.natCast_mul]
  omega

theorem or_lt (a d : Int) (j : Nat) (a1 : a < 2 ^ (j * 7)) (d1 : d < 128) : a + d * 2 ^ (j * 7) < 2 ^ ((j + 1) * 7) := by
  have e : (2 : Int) ^ ((j + 1) * 7) = 2 ^ (j * 7) * 128 := by
    rw [show (j + 1) * 7 = j * 7 + 7 by omega, Int.pow_add]
    rfl
  have hp : (0 : Int) ≤ 2 ^ (j * 7) := Int.le_of_lt (Int.pow_pos (by decide))
  have := Int.mul_le_mul_of_nonneg_right (show d ≤ 127 by omega) hp
  rw [e]
  generalize (2 : Int) ^ (j * 7) = P at *
  omega

def GRel (rs : List Int) (c i : Value) : Prop := ∃ (j : Nat) (a : Int), j ≤ rs.length ∧ j ≤ 9 ∧ c = .int .u64 a ∧ i = .int .i64 (j : Int) ∧ 0 ≤ a ∧ a < 2 ^ (j * 7) ∧ gc 9 rs = cb j a (gc (9 - j) (rs.drop j))

theorem get_in (bs : List Int) (k : Nat) (b off cap : Nat) (w : World) (hk : k < bs.length) (hcap : bs.length ≤ cap) (hm : cap ≤ 9223372036854775807) (hc : ∀ i, i < bs.length → w.cell? ⟨b, off + i, none⟩ = some (.int .u8 (bs.getD i 0))) (hb : ∀ x ∈ bs, 0 ≤ x ∧ x ≤ 255) (rs : List Int) (hr : rs = bs.drop k) (N P E : Int)
    (HF : Hid (∀ r, gc 9 rs = r → N = (if r.2.2 = 0 then nu r.1 else 0) ∧ P = (if r.2.2 = 0 then (k : Int) + (r.2.1 : Int) else 0) ∧ E = r.2.2)) :
    Calls Tryz.prog 105 #[.slice (some ⟨b, off, none⟩) bs.length cap, .int .i64 (k : Int)] w fun e w' => e = .returned (.tuple #[.int .i64 N, .int .i64 P, .int .i64 E]) ∧ w = w' := by
  have sl := cut_in b off bs.length cap k hk hcap
  have S := Lib.hid (fun i x W => step_any i x W)
  have M := Lib.hid (fun c W => number_any c W)
  have hl : rs.length = bs.length - k := by rw [hr, List.length_drop]
  have HC := Lib.hid hc
  have HR := Lib.hid hr
  have HB := Lib.hid hb
  have k0 : decide ((k : Int) < 0) = false := by simp
  have k1 : decide (bs.length < k) = false := by simp; omega
  clear hc hr hb
  go_enter Tryz.func105, Tryz.ntmps105
  go_wp2
  go_loop [7, 22] (fun c i => GRel rs c i) (fun _ i => rs.length - (intOf i).toNat)
  case atStart => exact ⟨0, 0, by omega, by omega, rfl, rfl, by omega, by simp, by rw [List.drop_zero]; exact cb_zero rs⟩
  case round =>
    obtain ⟨j, a, hj, hj9, rfl, rfl, a0, a1, hg⟩ := hrel
    have HG := Lib.hid hg
    have HA := Lib.hid a1
    clear hg a1
    by_cases hlt : j < rs.length
    · obtain ⟨x, hx⟩ : ∃ x, rs[j]? = some x := ⟨_, List.getElem?_eq_getElem hlt⟩
      have hxb := HB.out x (by rw [HR.out] at hx; exact List.mem_of_mem_drop (List.mem_of_getElem? hx))
      have c : w.cell? ⟨b, off + k + j, none⟩ = some (.int .u8 x) := by
        have := HC.out (k + j) (by omega)
        have hx' := hx
        rw [HR.out, List.getElem?_drop] at hx'
        rw [List.getD_eq_getElem?_getD, hx'] at this
        rw [Nat.add_assoc]
        exact this
      obtain ⟨x0, x1⟩ := hxb
      have t : j < bs.length - k := by omega
      have HX : Hid (rs.drop j = x :: rs.drop (j + 1)) := by
        have : rs.drop j = x :: rs.drop (j + 1) := by
          rw [List.drop_eq_getElem_cons hlt]
          congr 1
          rw [List.getElem?_eq_getElem hlt] at hx
          exact Option.some.inj hx
        exact this
      clear hx
      have hsp : sp j x = 2 ∨ sp j x = 1 ∨ sp j x = 0 := by
        unfold sp
        split
        · simp
        · split
          · simp
          · split <;> simp
      rcases hsp with hsp | hsp | hsp
      · have S2 := Lib.hid (S.out j x)
        rw [hsp] at S2
        have HV := Lib.hid (cb_long j a x (rs.drop (j + 1)) hj9 hsp)
        clear hsp
        go_wp2_with fail
        refine (S2.out _).mono ?_
        rintro e w1 ⟨rfl, rfl⟩
        go_wp2
        go_ret3
        obtain ⟨f1, f2, f3⟩ := HF.out _ (by rw [HG.out, HX.out, HV.out])
        exact ⟨ret3 f1.symm f2.symm f3.symm, rfl⟩
      · have S2 := Lib.hid (S.out j x)
        rw [hsp] at S2
        obtain ⟨hv, hx1, hx9⟩ := cb_end j a x (rs.drop (j + 1)) hj9 x0 hsp
        have HV := Lib.hid hv
        have HO := Lib.hid (or_code a (x % 128) j hj9 a0 HA.out (by omega) (by omega) (by omega))
        clear hsp hv
        go_wp2_with fail
        refine (S2.out _).mono ?_
        rintro e w1 ⟨rfl, rfl⟩
        go_wp2_with fail
        refine (M.out _ _ (by rw [HO.out.1]; exact HO.out.2.1) (by rw [HO.out.1]; exact HO.out.2.2)).mono ?_
        rintro e w1 ⟨rfl, rfl⟩
        go_wp2
        go_ret3
        obtain ⟨f1, f2, f3⟩ := HF.out _ (by rw [HG.out, HX.out, HV.out])
        rw [HO.out.1]
        exact ⟨ret3 f1.symm (by rw [f2]; simp; omega) f3.symm, rfl⟩
      · have S2 := Lib.hid (S.out j x)
        rw [hsp] at S2
        obtain ⟨hv, hjl⟩ := cb_on j a x (rs.drop (j + 1)) hj9 x1 hsp
        have HV := Lib.hid hv
        have HO := Lib.hid (or_code a (x % 128) j hj9 a0 HA.out (by omega) (by omega) (by omega))
        have HT := Lib.hid (or_lt a (x % 128) j HA.out (by omega))
        clear hsp hv
        go_wp2_with fail
        refine (S2.out _).mono ?_
        rintro e w1 ⟨rfl, rfl⟩
        go_wp2
        go_round
        case rel => exact ⟨j + 1, a + x % 128 * 2 ^ (j * 7), by omega, by omega, by rw [HO.out.1], by go_num, HO.out.2.1, HT.out, by rw [HG.out, HX.out, HV.out]⟩
        case measure => simp [intOf]; omega
    · have HV : Hid (gc 9 rs = (0, 0, 81)) := by
        have : gc 9 rs = (0, 0, 81) := by
          rw [HG.out, List.drop_eq_nil_of_le (by omega), gc]
          rfl
        exact this
      have t : ¬ j < bs.length - k := by omega
      go_wp2
      go_ret3
      obtain ⟨f1, f2, f3⟩ := HF.out _ HV.out
      exact ⟨ret3 f1.symm f2.symm f3.symm, rfl⟩

theorem get_any (bs : List Int) (p : Int) (v : Value) (w : World) (hs : Sk .u8 w v bs) (hb : ∀ x ∈ bs, 0 ≤ x ∧ x ≤ 255) :
    Calls Tryz.prog 105 #[v, .int .i64 p] w fun e w' => e = .returned (.tuple #[.int .i64 (gN bs p), .int .i64 (gP bs p), .int .i64 (gE bs p)]) ∧ w = w' := by
  by_cases h : 0 ≤ p ∧ p ≤ bs.length
  · obtain ⟨k, rfl⟩ := Int.eq_ofNat_of_zero_le h.1
    by_cases hk : k < bs.length
    · obtain ⟨b, off, cap, rfl, h1, h2, _, hc⟩ := hs.has (by omega)
      refine get_in bs k b off cap w hk h1 h2 hc hb _ rfl _ _ _ (Lib.hid ?_)
      rintro r rfl
      unfold gN gP gE
      rw [if_pos h, if_pos h, if_pos h, Int.toNat_natCast]
      exact ⟨rfl, rfl, rfl⟩
    · obtain rfl : k = bs.length := by omega
      have g := get_end bs v w hs
      unfold gN gP gE
      rw [if_pos h, if_pos h, if_pos h, Int.toNat_natCast, List.drop_length, gc]
      exact g
  · exact get_far bs p v w hs h
end Go.Proofs.YtpkjbcgmhkkfiaaGreatDoor.Wire

/- What GetRow answers, by the program. Conditions: the bytes are bytes; at most so many numbers as 1000 are asked for. -/
namespace Go.Proofs.YtpkjbcgmhkkfiaaGreatDoor.Wire
open Go.ChangeShapes Go.WideShapes Go.ChangeAt Go.RowKit
open Go.Proofs.YtpkjbcgmhkkfiaaGreatDoor.Divs Go.Proofs.YtpkjbcgmhkkfiaaGreatDoor.Grow Go.Proofs.YtpkjbcgmhkkfiaaGreatDoor.By Go.Proofs.YtpkjbcgmhkkfiaaGreatDoor.Wi

/-- The numbers so far. -/
def cg (acc : List Int) (r : List Int × Int × Int) : List Int × Int × Int := if r.2.2 = 0 then (acc ++ r.1, r.2.1, 0) else ([], 0, r.2.2)

theorem gn_err (bs : List Int) (k : Nat) (p : Int) (h : (gn bs k p).2.2 ≠ 0) : (gn bs k p).1 = [] ∧ (gn bs k p).2.1 = 0 := by
  cases k with
  | zero => simp [gn] at h
  | succ k =>
    rw [gn] at h ⊢
    split
    · split
      · rename_i h1 h2
        rw [if_pos h1, if_pos h2] at h
        simp at h
      · simp
    · simp

theorem cg_nil (bs : List Int) (k : Nat) (p : Int) : gn bs k p = cg [] (gn bs k p) := by
  unfold cg
  by_cases h : (gn bs k p).2.2 = 0
  · rw [if_pos h]
    exact Prod.ext (by simp) (Prod.ext rfl h)
  · rw [if_neg h]
    obtain ⟨a, b⟩ := gn_err bs k p h
    exact Prod.ext a (Prod.ext b rfl)

theorem cg_on (bs acc : List Int) (k : Nat) (q : Int) (h : gE bs q = 0) : cg acc (gn bs (k + 1) q) = cg (acc ++ [gN bs q]) (gn bs k (gP bs q)) := by
  rw [gn, if_pos h]
  generalize gn bs k (gP bs q) = g
  unfold cg
  by_cases h3 : g.2.2 = 0
  · rw [if_pos h3, if_pos h3]
    simp
  · rw [if_neg h3, if_neg h3]
    simp only
    rw [if_neg h3]

theorem cg_err (bs acc : List Int) (k : Nat) (q : Int) (h : gE bs q ≠ 0) : cg acc (gn bs (k + 1) q) = ([], 0, gE bs q) := by
  rw [gn, if_neg h]
  unfold cg
  rw [if_neg h]

theorem ret3v {v : Value} {b c b' c' : Int} (h2 : b = b') (h3 : c = c') : Ending.returned (.tuple #[v, .int .i64 b, .int .i64 c]) = .returned (.tuple #[v, .int .i64 b', .int .i64 c']) := by rw [h2, h3]

theorem getrow_no (bs : List Int) (p m : Int) (v : Value) (w : World) (hs : Sk .u8 w v bs) (hb : ∀ x ∈ bs, 0 ≤ x ∧ x ≤ 255) (h : ¬ (gE bs p = 0 ∧ 0 ≤ gN bs p ∧ gN bs p ≤ m)) :
    Calls Tryz.prog 79 #[v, .int .i64 p, .int .i64 m] w fun e w' => ∃ u, e = .returned (.tuple #[u, .int .i64 (grow bs p m).2.1, .int .i64 (grow bs p m).2.2]) ∧ SL .i64 3 w' w.heap.size u (grow bs p m).1 ∧ Later w w' := by
  have G := Lib.hid (fun W (hW : Sk .u8 W v bs) => get_any bs p v W hW hb)
  have HS := Lib.hid hs
  clear hs
  by_cases he : gE bs p = 0
  · have e : grow bs p m = ([], 0, 83) := by
      unfold grow
      rw [if_pos he, if_neg (by omega)]
    rw [e]
    have t : (gE bs p != 0) = false := by simpa using he
    by_cases h0 : gN bs p < 0
    · have t1 : decide (gN bs p < 0) = true := by simpa using h0
      clear h he e h0
      go_enter Tryz.func79, Tryz.ntmps79
      go_wp2_with fail
      refine (G.out _ HS.out).mono ?_
      rintro e w1 ⟨rfl, rfl⟩
      go_wp2
      go_ret3
      exact ⟨_, rfl, SL.nil _ _ _ _, Later.refl _⟩
    · have t1 : decide (gN bs p < 0) = false := by simpa using h0
      have t2 : decide (m < gN bs p) = true := by simp; omega
      clear h he e h0
      go_enter Tryz.func79, Tryz.ntmps79
      go_wp2_with fail
      refine (G.out _ HS.out).mono ?_
      rintro e w1 ⟨rfl, rfl⟩
      go_wp2
      go_ret3
      exact ⟨_, rfl, SL.nil _ _ _ _, Later.refl _⟩
  · have e : grow bs p m = ([], 0, gE bs p) := by
      unfold grow
      rw [if_neg he]
    rw [e]
    have t : (gE bs p != 0) = true := by simpa using he
    clear h he e
    go_enter Tryz.func79, Tryz.ntmps79
    go_wp2_with fail
    refine (G.out _ HS.out).mono ?_
    rintro e w1 ⟨rfl, rfl⟩
    go_wp2
    go_ret3
    exact ⟨_, rfl, SL.nil _ _ _ _, Later.refl _⟩

def RRel (bs : List Int) (C : Nat) (R : List Int × Int × Int) (w : World) (q l i : Value) (wr : World) : Prop :=
  ∃ (j : Nat) (acc : List Int) (a : Int), j ≤ C ∧ i = .int .i64 (j : Int) ∧ q = .int .i64 a ∧ acc.length = j ∧ SL .i64 3 wr w.heap.size l acc ∧ R = cg acc (gn bs (C - j) a) ∧ Later w wr

set_option maxHeartbeats 1000000 in
theorem getrow_yes (bs : List Int) (p m : Int) (v : Value) (w : World) (hs : Sk .u8 w v bs) (hb : ∀ x ∈ bs, 0 ≤ x ∧ x ≤ 255) (hm : m ≤ 1000) (h : gE bs p = 0 ∧ 0 ≤ gN bs p ∧ gN bs p ≤ m) :
    Calls Tryz.prog 79 #[v, .int .i64 p, .int .i64 m] w fun e w' => ∃ u, e = .returned (.tuple #[u, .int .i64 (grow bs p m).2.1, .int .i64 (grow bs p m).2.2]) ∧ SL .i64 3 w' w.heap.size u (grow bs p m).1 ∧ Later w w' := by
  have G := Lib.hid (fun q W (hW : Sk .u8 W v bs) => get_any bs q v W hW hb)
  have HS := Lib.hid hs
  clear hs
  obtain ⟨he, h0, h1⟩ := h
  have e : grow bs p m = gn bs (gN bs p).toNat (gP bs p) := by
    unfold grow
    rw [if_pos he, if_pos ⟨h0, h1⟩]
  have t : (gE bs p != 0) = false := by simpa using he
  obtain ⟨C, hC⟩ : ∃ C : Nat, gN bs p = C := ⟨(gN bs p).toNat, by omega⟩
  have G1 := Lib.hid (G.out p)
  rw [hC] at G1
  rw [hC, Int.toNat_natCast] at e
  obtain ⟨R, hR⟩ : ∃ R, R = grow bs p m := ⟨_, rfl⟩
  rw [← hR]
  have HR := Lib.hid (hR.trans e)
  have c0 : decide ((C : Int) < 0) = false := by simp
  have c1 : decide (m < (C : Int)) = false := by simp; omega
  have hCm : (C : Int) ≤ m := by omega
  obtain ⟨i0, hi, hz0, hz1, hz2⟩ := info_parts info_int
  have HI := Lib.hid hi
  have HZ0 := Lib.hid hz0
  have HZ1 := Lib.hid hz1
  have HZ2 := Lib.hid hz2
  clear hi hz0 hz1 hz2 e hR he h0 h1 hC
  go_enter Tryz.func79, Tryz.ntmps79
  go_wp2_with fail
  refine (G1.out _ HS.out).mono ?_
  rintro e w1 ⟨rfl, rfl⟩
  go_wp2_with fail
  go_loopw [1, 11, 33] (fun q l i wr => RRel bs C R w q l i wr) (fun _ _ i _ => C - (intOf i).toNat)
  case atStart => exact ⟨0, [], gP bs p, by omega, rfl, rfl, rfl, SL.nil _ _ _ _, by rw [HR.out]; exact cg_nil _ _ _, Later.refl _⟩
  case round =>
    obtain ⟨j, acc, a, hj, rfl, rfl, hl, hS, hc, hg⟩ := hrel
    have HL := Lib.hid hS
    have HC := Lib.hid hc
    have HG := Lib.hid hg
    have HN := Lib.hid hl
    clear hS hc hg hl
    by_cases hlt : j < C
    · have hCj : C - j = C - (j + 1) + 1 := by omega
      have HJ := Lib.hid hCj
      clear hCj
      by_cases he : gE bs a = 0
      · have t1 : (gE bs a != 0) = false := by simpa using he
        have HE := Lib.hid he
        clear he
        go_wp2_with fail
        refine (G.out _ _ (HS.out.later HG.out)).mono ?_
        rintro e w1 ⟨rfl, rfl⟩
        go_wp2_with (at_builtin; go_loud (refine wpList_append_own _ rfl _ _ 22 rfl w.heap.size 3 i0 (.int .i64 0) 1 8 Tryz.underlying22 HI.out HZ0.out HZ1.out HZ2.out rfl (by decide) _ _ _ rfl (World.ownsRow.alloc HL.out _) ⟨wr.heap.size, 0, none⟩ 1 1 [.int .i64 (gN bs a)] rfl rfl (cell_one_new _ _ _) (by simp [Value.oneCell']) (by have := HN.out; simp only [maxLen]; omega) (by have := HN.out; omega) (by have := HG.out.size; simp only [World.size_alloc] at this ⊢; omega) ?_); go_loud (intro v' w4 hown' hgrow _; have HG4 := Lib.hid (later_grown (HG.out.put _) (HL.out.later ((Later.refl _).put _)) hgrow); have HO4 : Hid (SL .i64 3 w4 w.heap.size v' (acc ++ [gN bs a])) := Lib.hid (by unfold SL; rw [List.length_append, List.map_append]; exact hown'); clear hown' hgrow))
        go_roundw
        case rel => exact ⟨j + 1, acc ++ [gN bs a], gP bs a, by omega, by go_num, rfl, by have := HN.out; simp; omega, HO4.out, by rw [HC.out, HJ.out]; exact cg_on _ _ _ _ HE.out, HG4.out⟩
        case measure => simp [intOf]; omega
      · have t1 : (gE bs a != 0) = true := by simpa using he
        have HE := Lib.hid (cg_err bs acc (C - (j + 1)) a he)
        clear he
        go_wp2_with fail
        refine (G.out _ _ (HS.out.later HG.out)).mono ?_
        rintro e w1 ⟨rfl, rfl⟩
        go_wp2
        go_ret3
        refine ⟨_, ret3v ?_ ?_, ?_, HG.out⟩
        · rw [HC.out, HJ.out, HE.out]
        · rw [HC.out, HJ.out, HE.out]
        · rw [HC.out, HJ.out, HE.out]; exact SL.nil _ _ _ _
    · have hJ : C - j = 0 := by omega
      have HJ := Lib.hid hJ
      clear hJ
      go_wp2
      go_ret3
      have F : R = (acc, a, 0) := by rw [HC.out, HJ.out]; simp [gn, cg]
      rw [F]
      exact ⟨_, rfl, HL.out, HG.out⟩

theorem getrow_any (bs : List Int) (p m : Int) (v : Value) (w : World) (hs : Sk .u8 w v bs) (hb : ∀ x ∈ bs, 0 ≤ x ∧ x ≤ 255) (hm : m ≤ 1000) :
    Calls Tryz.prog 79 #[v, .int .i64 p, .int .i64 m] w fun e w' => ∃ u, e = .returned (.tuple #[u, .int .i64 (grow bs p m).2.1, .int .i64 (grow bs p m).2.2]) ∧ SL .i64 3 w' w.heap.size u (grow bs p m).1 ∧ Later w w' := by
  by_cases h : gE bs p = 0 ∧ 0 ≤ gN bs p ∧ gN bs p ≤ m
  · exact getrow_yes bs p m v w hs hb hm h
  · exact getrow_no bs p m v w hs hb h

end Go.Proofs.YtpkjbcgmhkkfiaaGreatDoor.Wire

/- What place, rowSize and Row answer, by the program. Conditions: the numbers are ints; a row has at most 1000 of them. -/
namespace Go.Proofs.YtpkjbcgmhkkfiaaGreatDoor.Wire
open Go.ChangeShapes Go.WideShapes Go.ChangeAt Go.RowKit
open Go.Proofs.YtpkjbcgmhkkfiaaGreatDoor.Divs Go.Proofs.YtpkjbcgmhkkfiaaGreatDoor.Grow Go.Proofs.YtpkjbcgmhkkfiaaGreatDoor.By Go.Proofs.YtpkjbcgmhkkfiaaGreatDoor.Wi

theorem cut_row (g len k : Nat) (hk : k < len) : ∀ W : World, (Instr.slice 36 (.slice (some ⟨g, 0, none⟩) len len) (some (.int .i64 (k : Int))) none none).run Tryz.prog W = .ok (.slice (some ⟨g, k, none⟩) (len - k) (len - k)) W := by
  intro W
  have := cut_in g 0 len len k hk (Nat.le_refl _) W
  rwa [Nat.zero_add] at this

/-- The bytes of a number, as cells. -/
def cl (n : Int) : List Value := (pu n).map (Value.int .u8)

theorem cl_len (n : Int) : (cl n).length = (pu n).length := by unfold cl; rw [List.length_map]

theorem cl_one (n : Int) : ∀ v ∈ cl n, v.oneCell' = true := by
  intro v hv
  unfold cl at hv
  obtain ⟨x, _, rfl⟩ := List.mem_map.1 hv
  rfl

set_option maxHeartbeats 1000000 in
theorem place_any (g len a : Nat) (n : Int) (cur : List Value) (w : World) (h : In n) (hcur : cur.length = len) (hg : w.heap[g]? = some (.cells cur.toArray 5 (0, 0))) (hfit : a + (pu n).length ≤ len) (hlen : len ≤ 100000) :
    Calls Tryz.prog 44 #[.slice (some ⟨g, 0, none⟩) len len, .int .i64 (a : Int), .int .i64 n] w fun e w' => e = .returned (.int .i64 ((a + (pu n).length : Nat) : Int)) ∧ w'.heap[g]? = some (.cells (splice cur a (cl n)).toArray 5 (0, 0)) ∧ Below g w w' := by
  have D := Lib.hid (fun W => digits_any n W h)
  have l0 := pu_pos n
  have l1 := pu_len n
  have hgl : g < w.heap.size := by
    rcases Nat.lt_or_ge g w.heap.size with h | h
    · exact h
    · rw [Array.getElem?_eq_none h] at hg; simp at hg
  have L := Lib.hid l1
  obtain ⟨k, hk⟩ : ∃ k, k = (pu n).length := ⟨_, rfl⟩
  obtain ⟨cs, hcs⟩ : ∃ cs, cs = cl n := ⟨_, rfl⟩
  rw [← hk] at l0 l1 hfit
  have sl := cut_ten k l1
  have sr := cut_row g len a (by omega)
  obtain ⟨y0, y1, y2, y3, y4, y5, y6, y7, y8, y9, hy⟩ := arr_ten (pu n)
  rw [hy, ← hk] at D
  have hlen' : cs.length = k := by rw [hcs, hk, cl_len]
  have HL := Lib.hid hlen'
  have HY := Lib.hid hy
  have HC := Lib.hid hcs
  have HO : Hid (∀ v ∈ cs, v.oneCell' = true) := by
    have : ∀ v ∈ cs, v.oneCell' = true := by rw [hcs]; exact cl_one n
    exact this
  have HH := Lib.hid hg
  have HU := Lib.hid hcur
  rw [← hk, ← hcs]
  clear hk hy hcs hlen' hg hcur
  go_enter Tryz.func44, Tryz.ntmps44
  go_wp2_with fail
  refine (D.out _).mono ?_
  rintro e w1 ⟨rfl, hg1⟩
  have HG := Lib.hid hg1
  clear hg1
  have HS : Hid (∀ j v, cs[j]? = some v → (w1.alloc (.cells #[.int .u8 y0, .int .u8 y1, .int .u8 y2, .int .u8 y3, .int .u8 y4, .int .u8 y5, .int .u8 y6, .int .u8 y7, .int .u8 y8, .int .u8 y9] 101)).cell? ((⟨w1.heap.size, 0, none⟩ : Addr).add j) = some v) := by
    have : ∀ j v, cs[j]? = some v → (w1.alloc (.cells #[.int .u8 y0, .int .u8 y1, .int .u8 y2, .int .u8 y3, .int .u8 y4, .int .u8 y5, .int .u8 y6, .int .u8 y7, .int .u8 y8, .int .u8 y9] 101)).cell? ((⟨w1.heap.size, 0, none⟩ : Addr).add j) = some v := by
      intro j v hv
      rw [HC.out] at hv
      refine src_ten (fr := (0, 0)) (t := 101) (pu n) L.out ?_ j v hv
      rw [HY.out]
      exact heap_alloc_new _ _
    exact this
  have HR : Hid ((w1.alloc (.cells #[.int .u8 y0, .int .u8 y1, .int .u8 y2, .int .u8 y3, .int .u8 y4, .int .u8 y5, .int .u8 y6, .int .u8 y7, .int .u8 y8, .int .u8 y9] 101)).heap[g]? = some (.cells cur.toArray 5 (0, 0))) :=
    Lib.hid (((HG.out.alloc _ _).2.2.2 g hgl).trans HH.out)
  have HB := Lib.hid ((HG.out.alloc #[.int .u8 y0, .int .u8 y1, .int .u8 y2, .int .u8 y3, .int .u8 y4, .int .u8 y5, .int .u8 y6, .int .u8 y7, .int .u8 y8, .int .u8 y9] 101).below.mono (Nat.le_of_lt hgl))
  go_wp2_with fail
  go_region_law (refine step_copy_splice rfl (.tmp 17) (.tmp 19) 36 36 rfl 5 Tryz.underlying36 (by kernel_rfl) (some ⟨g, a, none⟩) (some ⟨w1.heap.size, 0, none⟩) (len - a) (len - a) k 10 (by simp [Act.eval, Act.put]) (by simp [Act.eval, Act.put]) g a cur 5 HR.out cs (by rw [HL.out]; exact (Nat.min_eq_left (by omega)).symm) (fun _ => ⟨rfl, _, rfl, HS.out⟩) (by rw [HL.out, HU.out]; exact hfit) HO.out g w HB.out.drew (Nat.le_refl _) ?_; intro w2 HG2 hB2)
  go_wp2
  go_ret
  refine ⟨?_, HG2.out, hB2⟩
  have E : IntKind.i64.wrap ((a : Int) + (cs.length : Int)) = ((a + k : Nat) : Int) := by rw [HL.out, IntWalk.i64_in _ (by omega)]; omega
  first | exact ret1 E | exact (ret1 (show (a : Int) + (cs.length : Int) = ((a + k : Nat) : Int) by rw [HL.out]; omega)) | (simp [Act.put, Act.eval]; go_show)

/-- How many bytes a row's first numbers have, and the number of them. -/
def rz (l : List Int) (j : Nat) : Nat := (pu l.length).length + ((l.take j).flatMap pu).length

theorem rz_succ (l : List Int) (j : Nat) (x : Int) (h : l[j]? = some x) : rz l (j + 1) = rz l j + (pu x).length := by
  unfold rz
  rw [List.take_add_one, h, List.flatMap_append, List.length_append]
  simp
  omega

theorem rz_zero (l : List Int) : rz l 0 = (pu l.length).length := by simp [rz]

theorem rz_all (l : List Int) : rz l l.length = (ro l).length := by
  unfold rz ro
  rw [List.take_length, List.length_append]

theorem rz_le (l : List Int) (j : Nat) : rz l j ≤ 10 * l.length + 10 := by
  have a := pu_len l.length
  have b := fm_len (l.take j)
  have c : (l.take j).length ≤ l.length := by rw [List.length_take]; omega
  unfold rz
  omega

def ZRel (l : List Int) (w : World) (s i : Value) (wr : World) : Prop := ∃ j : Nat, j ≤ l.length ∧ i = .int .i64 (j : Int) ∧ s = .int .i64 (rz l j : Int) ∧ Later w wr

theorem size_nil (ad : Option Addr) (cap : Nat) (w : World) : Calls Tryz.prog 43 #[.slice ad 0 cap] w fun e w' => e = .returned (.int .i64 ((ro []).length : Int)) ∧ Later w w' := by
  have D := Lib.hid (fun W => digits_any 0 W ⟨by omega, by omega⟩)
  obtain ⟨y0, y1, y2, y3, y4, y5, y6, y7, y8, y9, hy⟩ := arr_ten (pu 0)
  rw [hy] at D
  have e : (ro []).length = (pu 0).length := by simp [ro]
  rw [e]
  clear e hy
  go_enter Tryz.func43, Tryz.ntmps43
  go_wp2_with fail
  refine (D.out _).mono ?_
  rintro e w1 ⟨rfl, hg1⟩
  have HG := Lib.hid hg1
  clear hg1
  go_wp2
  refine wp_loop_rounds 1 ?_
  rw [rounds_succ]
  go_wp2
  go_ret
  exact ⟨rfl, HG.out.alloc _ _⟩

set_option maxHeartbeats 1000000 in
theorem size_some (l : List Int) (b off cap : Nat) (w : World) (hp : 0 < l.length) (hn : l.length ≤ 1000) (hl : ∀ n ∈ l, In n) (hc : ∀ i, i < l.length → w.cell? ⟨b, off + i, none⟩ = some (.int .i64 (l.getD i 0))) :
    Calls Tryz.prog 43 #[.slice (some ⟨b, off, none⟩) l.length cap] w fun e w' => e = .returned (.int .i64 ((ro l).length : Int)) ∧ Later w w' := by
  have D := Lib.hid (fun n W (h : In n) => digits_any n W h)
  have HC := Lib.hid hc
  have HN := Lib.hid hl
  rw [← rz_all]
  clear hc hl
  go_enter Tryz.func43, Tryz.ntmps43
  go_wp2_with fail
  refine (D.out _ _ ⟨by omega, by omega⟩).mono ?_
  rintro e w1 ⟨rfl, hg1⟩
  have HG := Lib.hid hg1
  clear hg1
  obtain ⟨y0, y1, y2, y3, y4, y5, y6, y7, y8, y9, hy⟩ := arr_ten (pu l.length)
  rw [hy]
  clear hy
  go_wp2
  go_loopw [4, 17] (fun s i wr => ZRel l w s i wr) (fun _ i _ => l.length - (intOf i).toNat)
  case atStart => exact ⟨0, by omega, rfl, by rw [rz_zero], HG.out.alloc _ _⟩
  case round =>
    obtain ⟨j, hj, rfl, rfl, hg⟩ := hrel
    have HR := Lib.hid hg
    clear hg
    by_cases hlt : j < l.length
    · obtain ⟨x, hx⟩ : ∃ x, l[j]? = some x := ⟨_, List.getElem?_eq_getElem hlt⟩
      have c : wr.cell? ⟨b, off + j, none⟩ = some (.int .i64 x) := by
        have := gsome HR.out (HC.out j hlt)
        rwa [List.getD_eq_getElem?_getD, hx] at this
      have HI := Lib.hid (HN.out x (List.mem_of_getElem? hx))
      have HZ := Lib.hid (rz_succ l j x hx)
      have z0 := rz_le l j
      have z1 := pu_len x
      clear hx
      go_wp2_with fail
      refine (D.out _ _ HI.out).mono ?_
      rintro e w2 ⟨rfl, hg2⟩
      have HG2 := Lib.hid (gtrans HR.out hg2)
      clear hg2 c
      obtain ⟨x0, x1, x2, x3, x4, x5, x6, x7, x8, x9, hy⟩ := arr_ten (pu x)
      rw [hy]
      clear hy
      go_wp2
      go_roundw
      case rel => exact ⟨j + 1, by omega, by go_num, by rw [HZ.out]; go_num, HG2.out.alloc _ _⟩
      case measure => simp [intOf]; omega
    · obtain rfl : j = l.length := by omega
      go_wp2
      go_ret
      exact ⟨rfl, HR.out⟩

theorem size_any (l : List Int) (v : Value) (w : World) (hs : Sk .i64 w v l) (hn : l.length ≤ 1000) (hl : ∀ n ∈ l, In n) :
    Calls Tryz.prog 43 #[v] w fun e w' => e = .returned (.int .i64 ((ro l).length : Int)) ∧ Later w w' := by
  rcases Nat.eq_zero_or_pos l.length with h | h
  · obtain rfl := List.length_eq_zero_iff.1 h
    obtain ⟨ad, cap, rfl, _⟩ := hs.bare
    exact size_nil ad cap w
  · obtain ⟨b, off, cap, rfl, _, _, _, hc⟩ := hs.has h
    exact size_some l b off cap w h hn hl hc

/-- Bytes so far, and zeros behind them. -/
def bz (xs : List Int) (n : Nat) : List Value := xs.map (Value.int .u8) ++ zb (n - xs.length)

theorem bz_len (xs : List Int) (n : Nat) (h : xs.length ≤ n) : (bz xs n).length = n := by
  unfold bz zb
  simp
  omega

theorem bz_nil (n : Nat) : bz [] n = zb n := by simp [bz]

theorem bz_splice (xs : List Int) (n : Nat) (x : Int) : splice (bz xs n) xs.length (cl x) = bz (xs ++ pu x) n := by
  unfold splice bz cl zb
  rw [List.take_left' (by simp), List.length_map, List.map_append, List.append_assoc, List.drop_append]
  rw [List.drop_of_length_le (by simp), List.length_map, List.nil_append, List.drop_replicate, List.length_append]
  congr 3
  omega

theorem bz_all (xs : List Int) : bz xs xs.length = xs.map (Value.int .u8) := by simp [bz, zb]

/-- A row's bytes so far. -/
def rb (l : List Int) (j : Nat) : List Int := pu l.length ++ (l.take j).flatMap pu

theorem rb_len (l : List Int) (j : Nat) : (rb l j).length = rz l j := by unfold rb rz; rw [List.length_append]

theorem rb_succ (l : List Int) (j : Nat) (x : Int) (h : l[j]? = some x) : rb l (j + 1) = rb l j ++ pu x := by
  unfold rb
  rw [List.take_add_one, h, List.flatMap_append]
  simp

theorem rb_zero (l : List Int) : rb l 0 = pu l.length := by simp [rb]

theorem rb_all (l : List Int) : rb l l.length = ro l := by unfold rb ro; rw [List.take_length]

theorem rz_mono (l : List Int) (j : Nat) : rz l j ≤ (ro l).length := by
  rw [← rb_len, ← rb_all]
  unfold rb
  rw [List.length_append, List.length_append, List.take_length]
  have : l.flatMap pu = (l.take j).flatMap pu ++ (l.drop j).flatMap pu := by rw [← List.flatMap_append, List.take_append_drop]
  rw [this, List.length_append]
  omega

def WRel (l : List Int) (g : Nat) (w : World) (s i : Value) (wr : World) : Prop := ∃ j : Nat, j ≤ l.length ∧ i = .int .i64 (j : Int) ∧ s = .int .i64 (rz l j : Int) ∧ wr.heap[g]? = some (.cells (bz (rb l j) (ro l).length).toArray 5 (0, 0)) ∧ Below g w wr

theorem row_sk (l : List Int) (g : Nat) (W : World) (h : W.heap[g]? = some (.cells (bz (rb l l.length) (ro l).length).toArray 5 (0, 0))) (hn : (ro l).length ≤ 100000) : Sk .u8 W (.slice (some ⟨g, 0, none⟩) (ro l).length (ro l).length) (ro l) := by
  refine Sk.row h (fun i x hx => ?_) (Nat.le_refl _) (by omega)
  rw [rb_all, bz_all]
  simp [hx]

theorem row_start (l : List Int) (g : Nat) (w2 : World) (h : w2.heap[g]? = some (.cells (splice (zb (ro l).length) 0 (cl l.length)).toArray 5 (0, 0))) : w2.heap[g]? = some (.cells (bz (rb l 0) (ro l).length).toArray 5 (0, 0)) := by
  have e := bz_splice [] (ro l).length l.length
  rw [bz_nil, List.nil_append] at e
  rw [rb_zero, ← e]
  exact h

set_option maxHeartbeats 1000000 in
theorem row_nil (ad : Option Addr) (cap : Nat) (w : World) : Calls Tryz.prog 21 #[.slice ad 0 cap] w fun e w' => ∃ v, e = .returned v ∧ Sk .u8 w' v (ro []) ∧ Later w w' := by
  have Z := Lib.hid (fun W => size_nil ad cap W)
  obtain ⟨N, hN⟩ : ∃ N, N = (ro []).length := ⟨_, rfl⟩
  have n0 := rz_mono [] 0
  have n1 := ro_len []
  rw [rz_zero] at n0
  rw [← hN] at Z n0 n1
  have P := Lib.hid (fun g W (h : W.heap[g]? = some (.cells (zb N).toArray 5 (0, 0))) => place_any g N 0 0 (zb N) W ⟨by omega, by omega⟩ (by simp [zb]) h (by simpa using n0) (by simp at n1; omega))
  have mk := make_any N (by simp at n1; omega)
  have HN := Lib.hid hN
  have H0 := Lib.hid n0
  have H1 := Lib.hid n1
  clear hN n0 n1
  go_enter Tryz.func21, Tryz.ntmps21
  go_wp2_with fail
  refine (Z.out _).mono ?_
  rintro e w1 ⟨rfl, hg1⟩
  have HG := Lib.hid hg1
  clear hg1
  go_wp2_with fail
  refine (P.out _ _ (heap_alloc_new _ _)).mono ?_
  rintro e w2 ⟨rfl, hh, hb⟩
  have HH := Lib.hid hh
  have HB := Lib.hid hb
  clear hh hb
  go_wp2
  refine wp_loop_rounds 1 ?_
  rw [rounds_succ]
  go_wp2
  go_ret
  refine ⟨_, rfl, ?_, ?_⟩
  · have := HH.out
    rw [HN.out] at this ⊢
    exact row_sk [] _ _ (row_start [] _ _ this) (by have := H1.out; rw [HN.out] at this; simp at this; omega)
  · exact Later.of_below (((HG.out.alloc _ _).below).trans (HB.out.mono HG.out.size))

set_option maxHeartbeats 1000000 in
theorem row_some (l : List Int) (b off cap : Nat) (w : World) (hp : 0 < l.length) (hn : l.length ≤ 1000) (hl : ∀ n ∈ l, In n) (hc : ∀ i, i < l.length → w.cell? ⟨b, off + i, none⟩ = some (.int .i64 (l.getD i 0))) :
    Calls Tryz.prog 21 #[.slice (some ⟨b, off, none⟩) l.length cap] w fun e w' => ∃ v, e = .returned v ∧ Sk .u8 w' v (ro l) ∧ Later w w' := by
  have hbw : b < w.heap.size := World.block_lt_of_cell? _ _ (hc 0 hp)
  have Z := Lib.hid (size_some l b off cap w hp hn hl hc)
  obtain ⟨N, hN⟩ : ∃ N, N = (ro l).length := ⟨_, rfl⟩
  have n0 := rz_mono l 0
  have n1 := ro_len l
  rw [rz_zero] at n0
  rw [← hN] at Z n0 n1
  have mk := make_any N (by omega)
  have P := Lib.hid (fun g W (h : W.heap[g]? = some (.cells (zb N).toArray 5 (0, 0))) => place_any g N 0 l.length (zb N) W ⟨by omega, by omega⟩ (by simp [zb]) h (by simpa using n0) (by omega))
  have PL := Lib.hid (fun g a x cur W (hx : In x) (hcur : cur.length = N) (h : W.heap[g]? = some (.cells cur.toArray 5 (0, 0))) (hf : a + (pu x).length ≤ N) => place_any g N a x cur W hx hcur h hf (by omega))
  have HN := Lib.hid hN
  have HC := Lib.hid hc
  have HL := Lib.hid hl
  have H1 := Lib.hid n1
  clear hN n0 n1 hc hl
  go_enter Tryz.func21, Tryz.ntmps21
  go_wp2_with fail
  refine Z.out.mono ?_
  rintro e w1 ⟨rfl, hg1⟩
  have HG := Lib.hid hg1
  clear hg1
  go_wp2_with fail
  refine (P.out _ _ (heap_alloc_new _ _)).mono ?_
  rintro e w2 ⟨rfl, hh, hb⟩
  have HS : Hid (w2.heap[w1.heap.size]? = some (.cells (bz (rb l 0) N).toArray 5 (0, 0))) := by
    have : w2.heap[w1.heap.size]? = some (.cells (bz (rb l 0) N).toArray 5 (0, 0)) := by
      rw [HN.out] at hh ⊢
      exact row_start l _ _ hh
    exact this
  have HB : Hid (Below w1.heap.size w1 w2) := Lib.hid ((((Later.refl w1).alloc (zb N).toArray 5).below).trans hb)
  clear hh hb
  go_wp2
  go_loopw [4, 16] (fun s i wr => WRel l w1.heap.size w1 s i wr) (fun _ i _ => l.length - (intOf i).toNat)
  case atStart => exact ⟨0, by omega, rfl, by rw [rz_zero], by rw [← HN.out]; exact HS.out, HB.out⟩
  case round =>
    obtain ⟨j, hj, rfl, rfl, hh, hb⟩ := hrel
    have HH := Lib.hid hh
    have HD := Lib.hid hb
    clear hh hb
    by_cases hlt : j < l.length
    · obtain ⟨x, hx⟩ : ∃ x, l[j]? = some x := ⟨_, List.getElem?_eq_getElem hlt⟩
      have c : wr.cell? ⟨b, off + j, none⟩ = some (.int .i64 x) := by
        have := gsome HG.out (HC.out j hlt)
        rw [List.getD_eq_getElem?_getD, hx] at this
        exact (HD.out.cell (by have := HG.out.size; exact Nat.lt_of_lt_of_le hbw this)).trans this
      have HI := Lib.hid (HL.out x (List.mem_of_getElem? hx))
      have HX := Lib.hid hx
      have hz := rz_succ l j x hx
      have hm := rz_mono l (j + 1)
      rw [hz, ← HN.out] at hm
      have HM := Lib.hid hm
      have HZ := Lib.hid hz
      clear hx hz hm
      go_wp2_with fail
      refine (PL.out _ _ _ (bz (rb l j) N) _ HI.out (bz_len _ _ (by rw [rb_len]; have := HM.out; omega)) (by rw [HN.out]; exact HH.out) HM.out).mono ?_
      rintro e w3 ⟨rfl, hh, hb⟩
      have H3 : Hid (w3.heap[w1.heap.size]? = some (.cells (bz (rb l (j + 1)) N).toArray 5 (0, 0))) := by
        have : w3.heap[w1.heap.size]? = some (.cells (bz (rb l (j + 1)) N).toArray 5 (0, 0)) := by
          rw [← rb_len, bz_splice] at hh
          rw [rb_succ l j x HX.out]
          exact hh
        exact this
      have HB3 := Lib.hid (HD.out.trans hb)
      clear hh hb c
      go_wp2
      go_roundw
      case rel => exact ⟨j + 1, by omega, by go_num, by rw [HZ.out]; go_num, by rw [← HN.out]; exact H3.out, HB3.out⟩
      case measure => simp [intOf]; omega
    · obtain rfl : j = l.length := by omega
      go_wp2
      go_ret
      refine ⟨_, rfl, ?_, ?_⟩
      · rw [HN.out]
        exact row_sk l _ _ HH.out (by have := H1.out; rw [HN.out] at this; omega)
      · exact Later.of_below (HG.out.below.trans (HD.out.mono HG.out.size))

theorem row_any (l : List Int) (v : Value) (w : World) (hs : Sk .i64 w v l) (hn : l.length ≤ 1000) (hl : ∀ n ∈ l, In n) :
    Calls Tryz.prog 21 #[v] w fun e w' => ∃ v, e = .returned v ∧ Sk .u8 w' v (ro l) ∧ Later w w' := by
  rcases Nat.eq_zero_or_pos l.length with h | h
  · obtain rfl := List.length_eq_zero_iff.1 h
    obtain ⟨ad, cap, rfl, _⟩ := hs.bare
    exact row_nil ad cap w
  · obtain ⟨b, off, cap, rfl, _, _, _, hc⟩ := hs.has h
    exact row_some l b off cap w h hn hl hc

end Go.Proofs.YtpkjbcgmhkkfiaaGreatDoor.Wire

/- What Encode answers, by the program. Conditions: as each theorem states. -/
namespace Go.Proofs.YtpkjbcgmhkkfiaaGreatDoor.Cod
set_option maxRecDepth 100000
open Go.ChangeShapes Go.WideShapes Go.ChangeAt Go.RowKit
open Go.Proofs.YtpkjbcgmhkkfiaaGreatDoor.Divs Go.Proofs.YtpkjbcgmhkkfiaaGreatDoor.Grow Go.Proofs.YtpkjbcgmhkkfiaaGreatDoor.Zone
open Go.Proofs.YtpkjbcgmhkkfiaaGreatDoor.By (Sk SL)
open Go.Proofs.YtpkjbcgmhkkfiaaGreatDoor.Crc (Laid)
open Go.Proofs.YtpkjbcgmhkkfiaaGreatDoor.Zo Go.Proofs.YtpkjbcgmhkkfiaaGreatDoor.Su Go.Proofs.YtpkjbcgmhkkfiaaGreatDoor.Cf Go.Proofs.YtpkjbcgmhkkfiaaGreatDoor.Conf

/-- The bytes of a constant, as the conversion leaves them. -/
theorem sk_const (W : World) (n : Nat × Nat) (xs : List Int) (hn : xs.length ≤ 1000) : Sk .u8 (W.alloc (.cells (xs.map (Value.int .u8)).toArray 5 n)) (.slice (some ⟨W.heap.size, 0, none⟩) xs.length xs.length) xs :=
  Sk.row (heap_alloc_new _ _) (fun i x hx => by simp [hx]) (Nat.le_refl _) (by omega)

/-- Bytes appended to bytes of the call's own: what turns is their own block, or none. -/
theorem append_bytes_g {w : World} {ops : Array Oper} {rest : List Oper} {o : Oper} {a : Act} {Q : Exit → Act → World → Prop} (hgd : o.guard = none) (s x : Operand)
    (ho : o.op = .call { callee := .builtin .append, args := #[s, x], argTypes := #[36, 36] })
    (W0 : World) (hl : Later W0 w) (v : Value) (xs : List Int) (hs : a.eval s = v) (hown : SL .u8 5 w W0.heap.size v xs)
    (u : Value) (ys : List Int) (hx : a.eval x = u) (hy : Sk .u8 w u ys) (hp : 0 < ys.length) (hb : xs.length + ys.length ≤ 100000)
    (h : ∀ v' w', SL .u8 5 w' W0.heap.size v' (xs ++ ys) → Later W0 w' → w.grownBy w' v.ownBlock → wpList Tryz.prog ops Q rest (a.put o.dst v') w') : wpList Tryz.prog ops Q (o :: rest) a w := by
  obtain ⟨i0, hi, hz0, hz1, hz2⟩ := info_parts By.info_byte
  rcases hy.src with ⟨_, rfl⟩ | ⟨ad, cap, rfl, hc⟩
  · simp at hp
  · refine wpList_append_own w hgd s x 36 ho W0.heap.size 5 i0 (.int .u8 0) 1 1 Tryz.underlying36 hi hz0 hz1 hz2 rfl (by decide) v _ _ hs hown ad ys.length cap (ys.map (Value.int .u8)) hx (by simp) hc (by intro u hu; obtain ⟨y, _, rfl⟩ := List.mem_map.1 hu; rfl) (by simp only [maxLen]; omega) (by omega) hl.size ?_
    intro v' w' h1 h2 _
    refine h v' w' ?_ (By.later_grown hl hown h2) h2
    unfold By.SL
    rw [List.length_append, List.map_append]
    exact h1

/-- The block of bytes of the call's own holds bytes. -/
theorem own_type {W : World} {b : Nat} {e : TypeId} {m n : Nat} {v : Value} {xs : List Value} (h : W.ownsRow b e m v n xs) {k : Nat} (hk : v.ownBlock = some k) : ∃ cs, W.heap[k]? = some (.cells cs e (0, 0)) := by
  rcases h.2 with ⟨rfl, _⟩ | ⟨g, cap, cur, rfl, _, h2, _⟩
  · simp [Value.ownBlock] at hk
  · simp only [Value.ownBlock, Option.some.injEq] at hk
    subst hk
    exact ⟨cur, h2⟩

/-- Rows of another kind are kept. -/
theorem row_apart {W W' : World} {b g : Nat} {e t : TypeId} {m n : Nat} {v : Value} {xs : List Value} {cs : Array Value} (hv : W.ownsRow b e m v n xs) (hg : W.grownBy W' v.ownBlock) (ht : t ≠ e) (h : Row g t cs W) : Row g t cs W' := by
  refine h.grown hg (fun hk => ?_)
  obtain ⟨cs', h'⟩ := own_type hv hk.symm
  unfold Row at h
  rw [h] at h'
  simp only [Option.some.injEq, Obj.cells.injEq] at h'
  exact ht h'.2.1

theorem own_apart {W W' : World} {b b' : Nat} {e t : TypeId} {m n m' n' : Nat} {v v' : Value} {xs ys : List Value} (hv : W.ownsRow b e m v n xs) (hg : W.grownBy W' v.ownBlock) (ht : t ≠ e) (h : W.ownsRow b' t m' v' n' ys) : W'.ownsRow b' t m' v' n' ys := by
  refine owns_grown h hg (fun k hk he => ?_)
  obtain ⟨cs, h1⟩ := own_type h hk
  obtain ⟨cs', h2⟩ := own_type hv he.symm
  rw [h1] at h2
  simp only [Option.some.injEq, Obj.cells.injEq] at h2
  exact ht h2.2.1

def ERel (c : Cg) (g : Nat) (us : Nat → Value) (w : World) (v i : Value) (wr : World) : Prop :=
  ∃ k : Nat, k ≤ 6 ∧ i = .int .i64 (k : Int) ∧ SL .u8 5 wr w.heap.size v (Ka.hd ++ Ka.rws c k) ∧ Later w wr ∧ Row g 22 #[us 0, us 1, us 2, us 3, us 4, us 5] wr ∧ (∀ k, k < 6 → k ≠ 1 → SL .i64 3 wr 0 (us k) (Ka.rw6 c k))

theorem us_get (us : Nat → Value) (k : Nat) (hk : k < 6) : (#[us 0, us 1, us 2, us 3, us 4, us 5] : Array Value)[k]? = some (us k) := by
  have : k = 0 ∨ k = 1 ∨ k = 2 ∨ k = 3 ∨ k = 4 ∨ k = 5 := by omega
  rcases this with rfl | rfl | rfl | rfl | rfl | rfl <;> rfl

theorem enc_no (D : Array Value) (c : Cg) (w : World) (hD : Is w D c) (h : ce c ≠ 0) : Calls Tryz.prog 9 #[.agg D] w fun e w' => e = .returned (.tuple #[.slice none 0 0, .int .i64 (ce c)]) ∧ Later w w' := by
  have HG := Lib.hid ((Later.refl w).alloc D 33)
  have HA := Lib.hid (At.new w D 33)
  have K := Lib.hid (check_of (hD.later HG.out))
  have HZ := Lib.hid hD.size
  have t : (ce c != 0) = true := by simpa using h
  generalize ce c = E at *
  clear hD h
  go_enter Tryz.func9, Tryz.ntmps9
  go_wp2_with (refine load_at D HZ.out rfl (.tmp 1) rfl w.heap.size rfl HA.out ?_)
  refine K.out.mono ?_
  rintro e w1 ⟨rfl, hg1⟩
  go_wp2_with fail
  go_ret2
  exact ⟨rfl, gtrans HG.out hg1⟩

set_option maxHeartbeats 2000000 in
theorem enc_yes (D : Array Value) (c : Cg) (w : World) (hD : Is w D c) (hL : Laid w) (h : ce c = 0) (hn : c.st.length ≤ 200) : Calls Tryz.prog 9 #[.agg D] w fun e w' => ∃ u, e = .returned (.tuple #[u, .int .i64 0]) ∧ SL .u8 5 w' w.heap.size u (Ka.en c) ∧ Later w w' := by
  obtain ⟨uS, vW, eD, hu, hv⟩ := id hD
  have HUS := Lib.hid hu
  have hw := (Ka.ce_parts h).2.2.2.2.2.1
  have hf := Ka.fit_ok h
  have HG := Lib.hid ((Later.refl w).alloc D 33)
  have HA := Lib.hid (At.new w D 33)
  have K := check_of (hD.later HG.out)
  rw [h] at K
  have HK := Lib.hid K
  have HZ := Lib.hid hD.size
  have KR : Hid (∀ W, Later w W → Calls Tryz.prog 20 #[.agg D] W fun e w' => ∃ r, e = .returned r ∧ Rk w' r c uS ∧ Later W w') := Lib.hid (fun W g => by rw [eD]; exact rows_any c uS vW W (hu.later g) (hv.later g) (by omega))
  have KW := Lib.hid (fun k u W (hk : k < 6) (hs : Sk .i64 W u (Ka.rw6 c k)) => Wire.row_any (Ka.rw6 c k) u W hs (by have := Ka.rw_len (c := c) k hk hn hw; omega) (hf k hk))
  have HB := Lib.hid (fun k hk => Ka.rws_byte hf hn hw k hk)
  have HN := Lib.hid (fun k hk => Ka.rws_len (c := c) k hk hn hw)
  have HM := Lib.hid (fun k hk => (Ka.rw_len (c := c) k hk hn hw))
  have KS := Lib.hid (fun u W (g : Later w W) (hs : Sk .u8 W u (Ka.by6 c)) (hb : ∀ x ∈ Ka.by6 c, 0 ≤ x ∧ x ≤ 255) (hl : (Ka.by6 c).length ≤ 20000) => Crc.seal_any (Ka.by6 c) u W hs hb hl (hL.grown g))
  clear hD hL h hf hw hn K hu hv eD
  go_enter Tryz.func9, Tryz.ntmps9
  go_wp2_with (refine load_at D HZ.out rfl (.tmp 1) rfl w.heap.size rfl HA.out ?_)
  refine HK.out.mono ?_
  rintro e w1 ⟨rfl, hg1⟩
  have HG1 := Lib.hid (gtrans HG.out hg1)
  have HA1 := Lib.hid (HA.out.later hg1)
  clear hg1
  have kc := fun (W : World) (C : Array Value) (n c : Nat) => Lib.run_convert_bytes_const (P := Tryz.prog) W 36 5 C n c Tryz.underlying36 Tryz.underlying5
  have HC : Hid (Later w1 ((w1.alloc (.cells #[.int .u8 78, .int .u8 87] 5 (2, 3))).alloc (.cells #[.int .u8 1] 5))) := Lib.hid (((Later.refl w1).put _).put _)
  have HS0 : Hid (Sk .u8 ((w1.alloc (.cells #[.int .u8 78, .int .u8 87] 5 (2, 3))).alloc (.cells #[.int .u8 1] 5)) (.slice (some ⟨w1.heap.size, 0, none⟩) 2 2) [78, 87]) := Lib.hid ((sk_const w1 (2, 3) [78, 87] (by simp)).later ((Later.refl _).put _))
  have HS1 : Hid (Sk .u8 ((w1.alloc (.cells #[.int .u8 78, .int .u8 87] 5 (2, 3))).alloc (.cells #[.int .u8 1] 5)) (.slice (some ⟨w1.heap.size + 1, 0, none⟩) 1 1) [1]) := Lib.hid (by
    have h := By.sk_new .u8 5 [1] (w1.alloc (.cells #[.int .u8 78, .int .u8 87] 5 (2, 3))) (by simp)
    rw [size_one] at h
    exact h)
  go_wp2_with (first
    | (refine Crc.append_full rfl (.tmp 14) (.tmp 15) rfl (some ⟨w1.heap.size, 0, none⟩) 2 [78, 87] rfl rfl HS0.out (.slice (some ⟨w1.heap.size + 1, 0, none⟩) 1 1) [1] rfl HS1.out (by simp) (by simp) ?_; intro v2 w2 ho2 hg2; have HO2 : Hid (SL .u8 5 w2 w1.heap.size v2 (Ka.hd ++ Ka.rws c 0)) := Lib.hid (By.SL.base ho2 HC.out.size); have HG2 : Hid (Later w1 w2) := Lib.hid (gtrans HC.out hg2); clear ho2 hg2)
    | (refine load_at D HZ.out rfl (.tmp 1) rfl w.heap.size rfl (HA1.out.later HG2.out) ?_))
  refine (KR.out _ (gtrans HG1.out HG2.out)).mono ?_
  rintro e w3 ⟨r, rfl, hr, hg3⟩
  obtain ⟨g, us, rfl, hrow, hus, hown⟩ := hr
  have HR := Lib.hid hrow
  have HS := Lib.hid hown
  have HE1 := Lib.hid hus
  have HG3 := Lib.hid (gtrans HG2.out hg3)
  have HO3 := Lib.hid (HO2.out.later hg3)
  clear hrow hown hg3 kc hus
  go_wp2_with fail
  go_loopw [5, 20] (fun v i wr => ERel c g us w1 v i wr) (fun _ i _ => 6 - (intOf i).toNat)
  case atStart => exact ⟨0, by omega, rfl, HO3.out, HG3.out, HR.out, HS.out⟩
  case round =>
    obtain ⟨k, hk, rfl, ho, hg, hr, hs⟩ := hrel
    have HO := Lib.hid ho
    have HG := Lib.hid hg
    have HRr := Lib.hid hr
    have HSr := Lib.hid hs
    clear ho hg hr hs
    by_cases hlt : k < 6
    · have c1 : wr.cell? ⟨g, k, none⟩ = some (us k) := HRr.out.cell k (us_get us k hlt)
      have HS1 : Hid (Sk .i64 wr (us k) (Ka.rw6 c k)) := Lib.hid (by
        by_cases h1 : k = 1
        · subst h1
          rw [HE1.out]
          exact HUS.out.later (gtrans HG1.out HG.out)
        · exact (HSr.out k hlt h1).sk)
      have HK2 := Lib.hid hlt
      generalize us k = uk at c1 HS1
      go_wp2_with fail
      refine (KW.out k _ _ HK2.out HS1.out).mono ?_
      rintro e w4 ⟨x, rfl, hx, hg4⟩
      have HX := Lib.hid hx
      have HG4 := Lib.hid (gtrans HG.out hg4)
      have HO4 := Lib.hid (HO.out.later hg4)
      have HR4 := Lib.hid (HRr.out.later hg4)
      have HS4 := Lib.hid (fun k hk hn => (HSr.out k hk hn).later hg4)
      clear hx hg4 c1
      have hb : (Ka.hd ++ Ka.rws c k).length + (Wi.ro (Ka.rw6 c k)).length ≤ 100000 := by
        have a := HN.out k hk
        have b := HM.out k hlt
        have d := Wi.ro_len (Ka.rw6 c k)
        have e3 : Ka.hd.length = 3 := rfl
        rw [List.length_append]
        omega
      have HBD := Lib.hid hb
      have HP : Hid (0 < (Wi.ro (Ka.rw6 c k)).length) := Lib.hid (by
        have := Wi.pu_pos (Ka.rw6 c k).length
        unfold Wi.ro
        rw [List.length_append]
        omega)
      clear hb
      go_wp2_with (refine append_bytes_g rfl (.tmp 24) (.tmp 26) rfl w1 HG4.out _ _ rfl HO4.out _ _ rfl HX.out HP.out HBD.out ?_; intro v5 w5 ho5 hg5 hb5; have HO5 := Lib.hid ho5; have HG5 := Lib.hid hg5; have HR5 := Lib.hid (row_apart HO4.out hb5 (by decide) HR4.out); have HS5 := Lib.hid (fun k hk hn => own_apart HO4.out hb5 (by decide) (HS4.out k hk hn)); clear ho5 hg5 hb5)
      go_roundw
      case rel => exact ⟨k + 1, by omega, by go_num, by rw [Ka.rws, ← List.append_assoc]; exact HO5.out, HG5.out, HR5.out, HS5.out⟩
      case measure => simp [intOf]; omega
    · obtain rfl : k = 6 := by omega
      go_wp2_with fail
      refine (KS.out _ _ (gtrans HG1.out HG.out) HO.out.sk (HB.out 6 (by omega)) (by have := HN.out 6 (by omega); unfold Ka.by6; rw [List.length_append]; have e3 : Ka.hd.length = 3 := rfl; omega)).mono ?_
      rintro e w6 ⟨x, rfl, hx, hg6⟩
      go_wp2_with fail
      go_ret2
      exact ⟨_, rfl, By.SL.base hx (gtrans HG1.out HG.out).size, gtrans (gtrans HG1.out HG.out) hg6⟩

theorem enc_of (D : Array Value) (c : Cg) (w : World) (hD : Is w D c) (hL : Laid w) (hn : c.st.length ≤ 200) : Calls Tryz.prog 9 #[.agg D] w fun e w' => ∃ u, e = .returned (.tuple #[u, .int .i64 (ce c)]) ∧ SL .u8 5 w' w.heap.size u (if ce c = 0 then Ka.en c else []) ∧ Later w w' := by
  by_cases h : ce c = 0
  · rw [if_pos h, h]
    exact enc_yes D c w hD hL h hn
  · rw [if_neg h]
    exact (enc_no D c w hD h).mono (fun e w' ⟨he, hg⟩ => ⟨_, he, SL.nil _ _ _ _, hg⟩)

end Go.Proofs.YtpkjbcgmhkkfiaaGreatDoor.Cod

/- What puts a row into a configuration, by the program, but for the windows. Conditions: as each theorem states. -/
namespace Go.Proofs.YtpkjbcgmhkkfiaaGreatDoor.Cod
set_option maxRecDepth 100000
open Go.ChangeShapes Go.WideShapes Go.ChangeAt Go.RowKit
open Go.Proofs.YtpkjbcgmhkkfiaaGreatDoor.Divs Go.Proofs.YtpkjbcgmhkkfiaaGreatDoor.Grow Go.Proofs.YtpkjbcgmhkkfiaaGreatDoor.Zone
open Go.Proofs.YtpkjbcgmhkkfiaaGreatDoor.By (Sk SL)
open Go.Proofs.YtpkjbcgmhkkfiaaGreatDoor.Zo Go.Proofs.YtpkjbcgmhkkfiaaGreatDoor.Su Go.Proofs.YtpkjbcgmhkkfiaaGreatDoor.Cf Go.Proofs.YtpkjbcgmhkkfiaaGreatDoor.Conf

theorem But.setNew {B M : Nat} {w x : World} (h : But B w x) (hM : w.heap.size ≤ M) (i : Nat) (y : Value) : But B w (x.setCell ⟨M, i, none⟩ y) := by
  refine ⟨h.1, h.2.1, by simpa [World.setCell] using h.2.2.1, fun k hk hb => ?_⟩
  exact (Below.heap_setCell _ _ _ _ (by show k ≠ M; omega)).trans (h.2.2.2 k hk hb)

/-- These numbers laid at these places of a row. -/
def sa (D : Array Value) (ps : List (Nat × Nat)) (xs : List Int) : Nat → Array Value
  | 0 => D
  | k + 1 => (sa D ps xs k).setIfInBounds (ps.getD k (0, 0)).2 (.int .i64 (xs.getD k 0))

theorem row_sw {B : Nat} {t : TypeId} {D : Array Value} {w : World} (ps : List (Nat × Nat)) (xs : List Int) (h : Row B t D w) (k : Nat) (hb : ∀ i, i < k → (ps.getD i (0, 0)).1 = B) : Row B t (sa D ps xs k) (sw w ps xs k) := by
  induction k with
  | zero => exact h
  | succ j ih =>
    rw [sa, sw, hb j (by omega)]
    exact (ih (fun i hi => hb i (by omega))).set _ _

theorem but_sw {B : Nat} {w : World} (ps : List (Nat × Nat)) (xs : List Int) (k : Nat) (hb : ∀ i, i < k → (ps.getD i (0, 0)).1 = B) : But B w (sw w ps xs k) := by
  induction k with
  | zero => exact But.refl _ _
  | succ j ih =>
    rw [sw, hb j (by omega)]
    exact (ih (fun i hi => hb i (by omega))).trans (But.set _ _ _)

theorem row_ne {B g b : Nat} {t e : TypeId} {D : Array Value} {w : World} {m n : Nat} {l cap : Nat} {xs : List Value} (h : Row B t D w) (hx : w.ownsRow b e m (.slice (some ⟨g, 0, none⟩) l cap) n xs) (ht : t ≠ e) : B ≠ g := by
  rintro rfl
  obtain ⟨cs, h'⟩ := own_type hx (k := B) rfl
  unfold Row at h
  rw [h] at h'
  simp only [Option.some.injEq, Obj.cells.injEq] at h'
  exact ht h'.2.1

theorem put_same (B : Nat) (t : TypeId) (D : Array Value) (ps : List (Nat × Nat)) (xs : List Int) (n b : Nat) (v r : Value) (w : World) (hR : Row B t D w) (hv : Ps n w v ps) (hBn : B < n) (hx : SL .i64 3 w b r xs) (ht : t ≠ 3)
    (hl : ps.length = xs.length) (hp : 0 < xs.length) (hb : ∀ (i : Nat) (p : Nat × Nat), ps[i]? = some p → p.1 = B ∧ p.2 < D.size) :
    Calls Tryz.prog 101 #[v, r] w fun e w' => e = .returned .nilIface ∧ Row B t (sa D ps xs xs.length) w' ∧ But B w w' := by
  obtain ⟨bp, cp, rfl, hn, hbp, hpc⟩ := hv
  obtain ⟨g, cr, rfl, hc⟩ := hx.has hp
  have hg := row_ne hR hx ht
  have hi : ∀ i, i < xs.length → (ps.getD i (0, 0)).1 = B := fun i hi => by
    rw [List.getD_eq_getElem?_getD, List.getElem?_eq_getElem (show i < ps.length by omega)]
    exact (hb i _ (List.getElem?_eq_getElem _)).1
  refine (put_yes ps xs bp cp g 0 cr w hl (by omega) (fun i p hp => ?_) (fun i hi => ?_)).mono ?_
  · obtain ⟨h1, h2⟩ := hb i p hp
    rw [h1]
    exact ⟨hpc i p hp, ⟨_, hR.cell p.2 (Array.getElem?_eq_getElem h2)⟩, hR.frozen _, by omega, hg⟩
  · have c := hc i (.int .i64 (xs.getD i 0)) (by rw [List.getElem?_map, List.getD_eq_getElem?_getD, List.getElem?_eq_getElem hi]; rfl)
    rw [By.add_zero] at c
    rw [Nat.zero_add]
    exact c
  · rintro e w' ⟨he, rfl⟩
    exact ⟨he, row_sw ps xs hR _ hi, but_sw ps xs _ hi⟩

theorem sa_times (c : Cg) (u v : Value) (B : Nat) (xs : List Int) : sa (cc c u v) [(B, 4), (B, 5), (B, 6), (B, 7), (B, 8), (B, 9), (B, 10)] xs 7 = cc (Ka.pt c 2 xs) u v := by
  kernel_rfl

theorem sa_zone (c : Cg) (u v : Value) (B : Nat) (xs : List Int) : sa (cc c u v) [(B, 13), (B, 14), (B, 15), (B, 16), (B, 17), (B, 18), (B, 19), (B, 20), (B, 21), (B, 22)] xs 10 = cc (Ka.pt c 3 xs) u v := by
  kernel_rfl

theorem sa_sun (c : Cg) (u v : Value) (B : Nat) (xs : List Int) : sa (cc c u v) (sps B) xs 12 = cc (Ka.pt c 4 xs) u v := by
  kernel_rfl

/-- What a row's putting answers. -/
def Put (k : Nat) (B : Nat) (c : Cg) (u v : Value) (r : Value) (xs : List Int) (E0 E1 : Value) (w : World) (e : Ending) (w' : World) : Prop :=
  But B w w' ∧ ((Ka.rg k xs = true ∧ e = .returned .nilIface ∧ ∃ v', Row B 33 (cc (Ka.pt c k xs) (if k = 1 then r else u) v') w' ∧ (if k = 5 then WL w' w.heap.size v' (Ka.pt c k xs).ws else v' = v)) ∨ (Ka.rg k xs = false ∧ (e = .returned E0 ∨ e = .returned E1)))

theorem mem_times {B : Nat} {c : Cg} {u v : Value} (ps : List (Nat × Nat)) (h : ∀ p ∈ ps, p.1 = B ∧ p.2 < 37) : ∀ (i : Nat) (p : Nat × Nat), ps[i]? = some p → p.1 = B ∧ p.2 < (cc c u v).size := fun _ p hp => h p (List.mem_of_getElem? hp)

theorem put_times (B b : Nat) (c : Cg) (u v r E0 E1 : Value) (xs : List Int) (w : World) (hR : Row B 33 (cc c u v) w) (hx : SL .i64 3 w b r xs) (h0 : w.cell? ⟨0, 0, none⟩ = some E0) :
    Calls Tryz.prog 100 #[.pointer (some ⟨B, 0, none⟩), r] w (Put 2 B c u v r xs E0 E1 w) := by
  have KP := Lib.hid (places_times B w)
  have HR := Lib.hid hR
  have HX := Lib.hid hx
  have H0 := Lib.hid h0
  have HL := Lib.hid hR.lt
  clear hR hx h0
  go_enter Tryz.func100, Tryz.ntmps100
  go_wp2_with fail
  refine KP.out.mono ?_
  rintro e w1 ⟨p, rfl, hp, hg1⟩
  have HP := Lib.hid hp
  have HG := Lib.hid hg1
  clear hp hg1
  by_cases hl : xs.length = 7
  · have K := Lib.hid (put_same B 33 (cc c u v) _ xs _ b p r w1 (HR.out.later HG.out) HP.out HL.out (HX.out.later HG.out) (by decide) hl.symm (by omega) (mem_times _ (by simp)))
    have HK : Hid (Ka.rg 2 xs = true) := Lib.hid (by simpa [Ka.rg] using hl)
    rw [hl] at K
    clear hl
    go_wp2_with fail
    refine K.out.mono ?_
    rintro e w2 ⟨rfl, hr2, hb2⟩
    rw [sa_times] at hr2
    have H2 := Lib.hid hr2
    have B2 := Lib.hid ((But.of_later HG.out).trans hb2)
    clear hr2 hb2
    go_wp2_with fail
    go_ret
    exact ⟨B2.out, .inl ⟨HK.out, rfl, v, H2.out, rfl⟩⟩
  · have K := Lib.hid (put_no _ xs _ p r E0 w1 HP.out (HX.out.later HG.out).sk (by simpa using fun h => hl h.symm) (gsome HG.out H0.out))
    have HK : Hid (Ka.rg 2 xs = false) := Lib.hid (by simpa [Ka.rg] using hl)
    clear hl
    go_wp2_with fail
    refine K.out.mono ?_
    rintro e w2 ⟨rfl, rfl⟩
    go_wp2_with fail
    go_ret
    exact ⟨But.of_later HG.out, .inr ⟨HK.out, .inl rfl⟩⟩

theorem put_zone (B b : Nat) (c : Cg) (u v r E0 E1 : Value) (xs : List Int) (w : World) (hR : Row B 33 (cc c u v) w) (hx : SL .i64 3 w b r xs) (h0 : w.cell? ⟨0, 0, none⟩ = some E0) :
    Calls Tryz.prog 102 #[.pointer (some ⟨B, 0, none⟩), r] w (Put 3 B c u v r xs E0 E1 w) := by
  have KP := Lib.hid (places_zone B w)
  have HR := Lib.hid hR
  have HX := Lib.hid hx
  have H0 := Lib.hid h0
  have HL := Lib.hid hR.lt
  clear hR hx h0
  go_enter Tryz.func102, Tryz.ntmps102
  go_wp2_with fail
  refine KP.out.mono ?_
  rintro e w1 ⟨p, rfl, hp, hg1⟩
  have HP := Lib.hid hp
  have HG := Lib.hid hg1
  clear hp hg1
  by_cases hl : xs.length = 10
  · have K := Lib.hid (put_same B 33 (cc c u v) _ xs _ b p r w1 (HR.out.later HG.out) HP.out HL.out (HX.out.later HG.out) (by decide) hl.symm (by omega) (mem_times _ (by simp)))
    have HK : Hid (Ka.rg 3 xs = true) := Lib.hid (by simpa [Ka.rg] using hl)
    rw [hl] at K
    clear hl
    go_wp2_with fail
    refine K.out.mono ?_
    rintro e w2 ⟨rfl, hr2, hb2⟩
    rw [sa_zone] at hr2
    have H2 := Lib.hid hr2
    have B2 := Lib.hid ((But.of_later HG.out).trans hb2)
    clear hr2 hb2
    go_wp2_with fail
    go_ret
    exact ⟨B2.out, .inl ⟨HK.out, rfl, v, H2.out, rfl⟩⟩
  · have K := Lib.hid (put_no _ xs _ p r E0 w1 HP.out (HX.out.later HG.out).sk (by simpa using fun h => hl h.symm) (gsome HG.out H0.out))
    have HK : Hid (Ka.rg 3 xs = false) := Lib.hid (by simpa [Ka.rg] using hl)
    clear hl
    go_wp2_with fail
    refine K.out.mono ?_
    rintro e w2 ⟨rfl, rfl⟩
    go_wp2_with fail
    go_ret
    exact ⟨But.of_later HG.out, .inr ⟨HK.out, .inl rfl⟩⟩

theorem put_sun (B b : Nat) (c : Cg) (u v r E0 E1 : Value) (xs : List Int) (w : World) (hR : Row B 33 (cc c u v) w) (hx : SL .i64 3 w b r xs) (h0 : w.cell? ⟨0, 0, none⟩ = some E0) :
    Calls Tryz.prog 103 #[.pointer (some ⟨B, 0, none⟩), r] w (Put 4 B c u v r xs E0 E1 w) := by
  have KP := Lib.hid (places_sun B w)
  have HR := Lib.hid hR
  have HX := Lib.hid hx
  have H0 := Lib.hid h0
  have HL := Lib.hid hR.lt
  clear hR hx h0
  go_enter Tryz.func103, Tryz.ntmps103
  go_wp2_with fail
  refine KP.out.mono ?_
  rintro e w1 ⟨p, rfl, hp, hg1⟩
  have HP := Lib.hid hp
  have HG := Lib.hid hg1
  clear hp hg1
  by_cases hl : xs.length = 12
  · have K := Lib.hid (put_same B 33 (cc c u v) _ xs _ b p r w1 (HR.out.later HG.out) HP.out HL.out (HX.out.later HG.out) (by decide) hl.symm (by omega) (mem_times _ (by simp [sps])))
    have HK : Hid (Ka.rg 4 xs = true) := Lib.hid (by simpa [Ka.rg] using hl)
    rw [hl] at K
    clear hl
    go_wp2_with fail
    refine K.out.mono ?_
    rintro e w2 ⟨rfl, hr2, hb2⟩
    rw [sa_sun] at hr2
    have H2 := Lib.hid hr2
    have B2 := Lib.hid ((But.of_later HG.out).trans hb2)
    clear hr2 hb2
    go_wp2_with fail
    go_ret
    exact ⟨B2.out, .inl ⟨HK.out, rfl, v, H2.out, rfl⟩⟩
  · have K := Lib.hid (put_no _ xs _ p r E0 w1 HP.out (HX.out.later HG.out).sk (by simpa [sps] using fun h => hl h.symm) (gsome HG.out H0.out))
    have HK : Hid (Ka.rg 4 xs = false) := Lib.hid (by simpa [Ka.rg] using hl)
    clear hl
    go_wp2_with fail
    refine K.out.mono ?_
    rintro e w2 ⟨rfl, rfl⟩
    go_wp2_with fail
    go_ret
    exact ⟨But.of_later HG.out, .inr ⟨HK.out, .inl rfl⟩⟩

theorem put_stops (B b : Nat) (c : Cg) (u v r E0 E1 : Value) (xs : List Int) (w : World) (hR : Row B 33 (cc c u v) w) (hx : SL .i64 3 w b r xs) :
    Calls Tryz.prog 99 #[.pointer (some ⟨B, 0, none⟩), r] w (Put 1 B c u v r xs E0 E1 w) := by
  have f3 := hR.cell 3 (show (cc c u v)[3]? = some u from rfl)
  have g3 := hR.frozen 3
  have HR := Lib.hid hR
  obtain ⟨ad, cap, rfl, hm⟩ := hx.sk.len
  clear hR hx
  go_enter Tryz.func99, Tryz.ntmps99
  go_wp2_with fail
  go_ret
  refine ⟨But.set _ _ _, .inl ⟨rfl, rfl, v, ?_, rfl⟩⟩
  have h := HR.out.set 3 (.slice ad xs.length cap)
  rwa [show (cc c u v).setIfInBounds 3 (.slice ad xs.length cap) = cc (Ka.pt c 1 xs) (.slice ad xs.length cap) v by kernel_rfl] at h

theorem sa_five (c : Cg) (u v : Value) (B M : Nat) (xs : List Int) : sa (cc c u v) [(B, 0), (B, 1), (B, 2), (B, 11), (B, 12), (M, 0)] xs 5 = cc { c with f := xs.getD 0 0, n := xs.getD 1 0, p := xs.getD 2 0, r := xs.getD 3 0, q := xs.getD 4 0 } u v := by
  kernel_rfl

theorem head_at (B M : Nat) : ∀ i, i < 5 → ([(B, 0), (B, 1), (B, 2), (B, 11), (B, 12), (M, 0)].getD i (0, 0)).1 = B := by
  intro i hi
  have : i = 0 ∨ i = 1 ∨ i = 2 ∨ i = 3 ∨ i = 4 := by omega
  rcases this with rfl | rfl | rfl | rfl | rfl <;> rfl

set_option maxHeartbeats 1000000 in
theorem put_building (B b : Nat) (c : Cg) (u v r : Value) (t0 t1 : TypeId) (x0 x1 : Value) (xs : List Int) (w : World) (hR : Row B 33 (cc c u v) w) (hx : SL .i64 3 w b r xs) (h0 : w.cell? ⟨0, 0, none⟩ = some (.iface t0 x0)) (h1 : w.cell? ⟨1, 0, none⟩ = some (.iface t1 x1)) (hB : 2 ≤ B) :
    Calls Tryz.prog 98 #[.pointer (some ⟨B, 0, none⟩), r] w (Put 0 B c u v r xs (.iface t0 x0) (.iface t1 x1) w) := by
  have KP := Lib.hid (places_building B w.heap.size (w.alloc (.cells #[.int .i64 0] 3)))
  have hwB := hR.lt
  have HR := Lib.hid (hR.later ((Later.refl w).alloc #[.int .i64 0] 3))
  have HX := Lib.hid (hx.later ((Later.refl w).alloc #[.int .i64 0] 3))
  have HM := Lib.hid (Row.new w #[.int .i64 0] 3)
  have H0 := Lib.hid (gsome ((Later.refl w).alloc #[.int .i64 0] 3) h0)
  have H1 := Lib.hid (gsome ((Later.refl w).alloc #[.int .i64 0] 3) h1)
  have HG0 := Lib.hid ((Later.refl w).alloc #[.int .i64 0] 3)
  have HLT := Lib.hid (fun k e => (World.ownsRow.lt hx k e).2)
  have HW1 := Lib.hid (World.block_lt_of_cell? _ _ h1)
  clear hR hx h0 h1
  go_enter Tryz.func98, Tryz.ntmps98
  go_wp2_with fail
  refine KP.out.mono ?_
  rintro e w1 ⟨p, rfl, hp, hg1⟩
  have HP := Lib.hid hp
  have HR1 := Lib.hid (HR.out.later hg1)
  have HX1 := Lib.hid (HX.out.later hg1)
  have HM1 := Lib.hid (HM.out.later hg1)
  have H01 := Lib.hid (gsome hg1 H0.out)
  have H11 := Lib.hid (gsome hg1 H1.out)
  have HG1 := Lib.hid (gtrans HG0.out hg1)
  clear hp hg1
  by_cases hl : xs.length = 6
  · obtain ⟨bp, cp, rfl, hn, hbp, hpc⟩ := HP.out
    simp only [World.size_alloc] at hbp
    obtain ⟨g, cr, er, hc⟩ := HX1.out.has (by omega)
    have hg := row_ne HR1.out (er ▸ HX1.out) (by decide)
    have hgw : g < w.heap.size := HLT.out g (by rw [er]; rfl)
    have hw1 : 1 < w.heap.size := HW1.out
    rw [er]
    have K : Calls Tryz.prog 101 #[.slice (some ⟨bp, 0, none⟩) 6 cp, .slice (some ⟨g, 0, none⟩) 6 cr] w1 fun e w' => e = .returned .nilIface ∧ w' = sw w1 [(B, 0), (B, 1), (B, 2), (B, 11), (B, 12), (w.heap.size, 0)] xs 6 := by
      suffices h : Calls Tryz.prog 101 #[.slice (some ⟨bp, 0, none⟩) [(B, 0), (B, 1), (B, 2), (B, 11), (B, 12), (w.heap.size, 0)].length cp, .slice (some ⟨g, 0, none⟩) xs.length cr] w1 fun e w' => e = .returned .nilIface ∧ w' = sw w1 [(B, 0), (B, 1), (B, 2), (B, 11), (B, 12), (w.heap.size, 0)] xs xs.length by
        rw [hl] at h
        exact h
      refine put_yes _ xs bp cp g 0 cr w1 hl.symm (by omega) (fun i p hp => ⟨hpc i p hp, ?_⟩) (fun i hi => ?_)
      · have hrow : ∀ o, o < 37 → (∃ y, w1.cell? ⟨B, o, none⟩ = some y) ∧ w1.frozen? ⟨B, o, none⟩ = false ∧ B ≠ bp ∧ B ≠ g := fun o ho => ⟨⟨_, HR1.out.cell o (Array.getElem?_eq_getElem (show o < (cc c u v).size from ho))⟩, HR1.out.frozen o, by omega, hg⟩
        match i with
        | 0 => obtain rfl := Option.some.inj hp; exact hrow 0 (by omega)
        | 1 => obtain rfl := Option.some.inj hp; exact hrow 1 (by omega)
        | 2 => obtain rfl := Option.some.inj hp; exact hrow 2 (by omega)
        | 3 => obtain rfl := Option.some.inj hp; exact hrow 11 (by omega)
        | 4 => obtain rfl := Option.some.inj hp; exact hrow 12 (by omega)
        | 5 => obtain rfl := Option.some.inj hp; exact ⟨⟨_, HM1.out.cell 0 rfl⟩, HM1.out.frozen 0, by show w.heap.size ≠ bp; omega, by show w.heap.size ≠ g; omega⟩
        | k + 6 => simp at hp
      · have c := hc i (.int .i64 (xs.getD i 0)) (by rw [List.getElem?_map, List.getD_eq_getElem?_getD, List.getElem?_eq_getElem hi]; rfl)
        rw [By.add_zero] at c
        rw [Nat.zero_add]
        exact c
    have F : ∀ W, W = sw w1 [(B, 0), (B, 1), (B, 2), (B, 11), (B, 12), (w.heap.size, 0)] xs 6 →
        Row B 33 (cc { c with f := xs.getD 0 0, n := xs.getD 1 0, p := xs.getD 2 0, r := xs.getD 3 0, q := xs.getD 4 0 } u v) W ∧ Row w.heap.size 3 #[.int .i64 (xs.getD 5 0)] W ∧ W.cell? ⟨1, 0, none⟩ = some (.iface t1 x1) ∧ But B w W := by
      intro W hW
      have e6 : W = (sw w1 [(B, 0), (B, 1), (B, 2), (B, 11), (B, 12), (w.heap.size, 0)] xs 5).setCell ⟨w.heap.size, 0, none⟩ (.int .i64 (xs.getD 5 0)) := hW
      have r5 := row_sw [(B, 0), (B, 1), (B, 2), (B, 11), (B, 12), (w.heap.size, 0)] xs HR1.out 5 (head_at B w.heap.size)
      rw [sa_five] at r5
      have b5 := but_sw (w := w1) [(B, 0), (B, 1), (B, 2), (B, 11), (B, 12), (w.heap.size, 0)] xs 5 (head_at B w.heap.size)
      have m5 := b5.row (show w.heap.size ≠ B by omega) HM1.out
      have bw := (But.of_later (B := B) HG1.out).trans b5
      rw [e6]
      refine ⟨r5.apart _ _ _ (by omega), m5.set 0 _, ?_, bw.setNew (Nat.le_refl _) _ _⟩
      rw [World.cell?_setCell_other (h := by intro e; simp only [Addr.mk.injEq, and_true] at e; omega)]
      exact b5.cell (by omega) H11.out
    have KH := Lib.hid K
    have FH := Lib.hid F
    have HLN := Lib.hid hl
    clear K F hpc hc hn hbp hg hgw hw1 er
    go_wp2_with fail
    refine KH.out.mono ?_
    rintro e w2 ⟨rfl, hw2⟩
    obtain ⟨hr2, hm2, h12, hb2⟩ := FH.out _ hw2
    have HR2 := Lib.hid hr2
    have B2 := Lib.hid hb2
    have c0 := hm2.cell 0 rfl
    have f35 := hr2.cell 35 (show _ = some (.bool c.ab) from rfl)
    have g35 := hr2.frozen 35
    obtain ⟨m, hm⟩ : ∃ m, m = xs.getD 5 0 := ⟨_, rfl⟩
    rw [← hm] at c0
    have HMM := Lib.hid hm
    clear hw2 hr2 hb2 hm2 hm
    have fin : ∀ W, W = w2.setCell ⟨B, 35, none⟩ (.bool (m == 1)) → Row B 33 (cc (Ka.pt c 0 xs) u v) W ∧ But B w W := by
      rintro W rfl
      have h := HR2.out.set 35 (.bool (m == 1))
      rw [HMM.out] at h
      refine ⟨?_, B2.out.trans (But.set _ _ _)⟩
      rw [HMM.out]
      rwa [show (cc { c with f := xs.getD 0 0, n := xs.getD 1 0, p := xs.getD 2 0, r := xs.getD 3 0, q := xs.getD 4 0 } u v).setIfInBounds 35 (.bool (xs.getD 5 0 == 1)) = cc (Ka.pt c 0 xs) u v by kernel_rfl] at h
    have FIN := Lib.hid fin
    clear fin
    by_cases m0 : m = 0
    · have q0 : (m != 0) = false := by simp [m0]
      have q1 : (m == 1) = false := by simp [m0]
      have HK : Hid (Ka.rg 0 xs = true) := Lib.hid (by rw [HMM.out] at m0; simp only [Ka.rg, if_true, HLN.out, m0]; decide)
      rw [q1] at FIN
      clear m0
      go_wp2_with fail
      go_ret
      obtain ⟨a1, a2⟩ := FIN.out _ rfl
      exact ⟨a2, .inl ⟨HK.out, rfl, v, a1, rfl⟩⟩
    · have q0 : (m != 0) = true := by simpa using m0
      by_cases m1 : m = 1
      · have q1 : (m != 1) = false := by simp [m1]
        have q2 : (m == 1) = true := by simp [m1]
        have HK : Hid (Ka.rg 0 xs = true) := Lib.hid (by rw [HMM.out] at m1; simp only [Ka.rg, if_true, HLN.out, m1]; decide)
        rw [q2] at FIN
        clear m0 m1
        go_wp2_with fail
        go_ret
        obtain ⟨a1, a2⟩ := FIN.out _ rfl
        exact ⟨a2, .inl ⟨HK.out, rfl, v, a1, rfl⟩⟩
      · have q1 : (m != 1) = true := by simpa using m1
        have HK : Hid (Ka.rg 0 xs = false) := Lib.hid (by
          rw [HMM.out] at m0 m1
          have e0 : (xs.getD 5 0 == 0) = false := by simpa using m0
          have e1 : (xs.getD 5 0 == 1) = false := by simpa using m1
          simp only [Ka.rg, if_true, e0, e1]
          simp)
        clear m0 m1
        go_wp2_with fail
        go_ret
        exact ⟨B2.out, .inr ⟨HK.out, .inr rfl⟩⟩
  · have K := Lib.hid (put_no _ xs _ p r (.iface t0 x0) w1 HP.out HX1.out.sk (by simpa using fun h => hl h.symm) H01.out)
    have HK : Hid (Ka.rg 0 xs = false) := Lib.hid (by simp [Ka.rg, hl])
    clear hl
    go_wp2_with fail
    refine K.out.mono ?_
    rintro e w2 ⟨rfl, rfl⟩
    go_wp2_with fail
    go_ret
    exact ⟨But.of_later HG1.out, .inr ⟨HK.out, .inl rfl⟩⟩

end Go.Proofs.YtpkjbcgmhkkfiaaGreatDoor.Cod

/- A region that draws its order within a round of a loop over a function: where none of its operations calls, each order as outside. No condition but those that each theorem states. -/
namespace Go.Proofs.YtpkjbcgmhkkfiaaGreatDoor.Each
open Go.ChangeShapes Go.WideShapes Go.ChangeAt Go.RowKit
open Go.Proofs.YtpkjbcgmhkkfiaaGreatDoor.Divs Go.Proofs.YtpkjbcgmhkkfiaaGreatDoor.Grow

def appB : Callee → Bool
  | .builtin .append => true
  | _ => false

theorem appB_eq {c : Callee} (h : appB c = true) : c = .builtin .append := by
  unfold appB at h
  split at h
  · rfl
  · cases h

/-- An operation that calls no function of the program. -/
def plainB : Op → Bool
  | .load _ _ => true
  | .store _ _ _ => true
  | .nilCheck _ => true
  | .fieldAddr _ _ _ => true
  | .buildSlice _ _ _ => true
  | .call c => appB c.callee
  | _ => false

/-- What such an operation comes to. -/
def Shape (r : Result Next) : Prop := (∃ v w, r = .ok (.value v) w) ∨ (∃ w, r = .ok .skip w) ∨ ∃ h w, r = .halt h w

theorem shape_value (P : Program) (s : Sem Value) (w : World) : Shape ((do pure (Next.value (← s)) : Sem Next).run P w) := by
  simp only [Sem.run_bind]
  cases s.run P w with
  | ok v w' => exact .inl ⟨v, w', rfl⟩
  | halt h w' => exact .inr (.inr ⟨h, w', rfl⟩)

theorem shape_unit (P : Program) (s : Sem Unit) (w : World) : Shape ((do s; pure Next.skip : Sem Next).run P w) := by
  simp only [Sem.run_bind]
  cases s.run P w with
  | ok v w' => exact .inr (.inl ⟨w', rfl⟩)
  | halt h w' => exact .inr (.inr ⟨h, w', rfl⟩)

theorem shape_bind {α : Type} (P : Program) (s : Sem α) (f : α → Sem Next) (hf : ∀ x w, Shape ((f x).run P w)) (w : World) : Shape ((s >>= f).run P w) := by
  simp only [Sem.run_bind]
  cases s.run P w with
  | ok v w' => exact hf v w'
  | halt h w' => exact .inr (.inr ⟨h, w', rfl⟩)

theorem shape_halt (P : Program) {s : Sem Next} {w : World} (h : ∃ e w', s.run P w = .halt e w') : Shape (s.run P w) := by
  obtain ⟨e, w', h⟩ := h
  exact .inr (.inr ⟨e, w', h⟩)

theorem plain_shape (P : Program) (o : Oper) (h : plainB o.op = true) (ρ : Operand → Value) (w : World) : Shape ((execOp ρ o).run P w) := by
  unfold execOp
  split <;> rename_i he <;> rw [he] at h <;> first | (exfalso; simp [plainB] at h; done) | skip
  · exact shape_value P _ w
  · exact shape_value P _ w
  · exact shape_unit P _ w
  · split
    · exact shape_halt P ⟨_, _, rfl⟩
    · exact shape_halt P ⟨_, _, rfl⟩
    · exact shape_halt P ⟨_, _, rfl⟩
    · split
      · exact shape_halt P ⟨_, _, rfl⟩
      · refine shape_bind P _ _ (fun x w => shape_bind P _ _ (fun y w => ?_) w) w
        split
        · exact shape_bind P _ _ (fun _ w => .inl ⟨_, _, rfl⟩) w
        · exact .inl ⟨_, _, rfl⟩
      · exact .inl ⟨_, _, rfl⟩
    · exact .inl ⟨_, _, rfl⟩
  · exact shape_value P _ w
  · have hc := appB_eq (show appB _ = true from h)
    simp only [Sem.run_bind, resolve, hc, Sem.run_pure, Result.andThen, invoke, builtin]
    cases Sem.run P (Builtin.append_ _ _ _) w with
    | ok v w' => exact .inl ⟨v, w', rfl⟩
    | halt h w' => exact .inr (.inr ⟨h, w', rfl⟩)

theorem plain_about {o : Oper} (h : plainB o.op = true) : ∀ c, o.op ≠ .defer c := by
  intro c hc
  rw [hc] at h
  simp [plainB] at h

/-- Outside as within a round. -/
theorem opsIn_of_ops {F : Fence} {n : Nat} {P : Program} {ops : Array Oper} {K : Act → World → Prop} {Q : Exit → Act → World → Prop} (hF : ∀ f, F.fn f) (hp : ∀ (i : Nat) (o : Oper), ops[i]? = some o → plainB o.op = true) (hQ : ∀ a w, K a w → Q .normal a w) :
    ∀ (l : List Nat) (a : Act) (w : World), wpOps P ops (fun e a w => e = .normal ∧ K a w) l a w → wpOpsIn F n P ops Q l a w := by
  intro l
  induction l with
  | nil => exact fun a w h => hQ a w h.2
  | cons i rest ih =>
    intro a w h
    unfold wpOps at h
    unfold wpOpsIn
    cases ho : ops[i]? with
    | none =>
      rw [ho] at h
      exact ih a w h
    | some o =>
      rw [ho] at h
      have hb := hp i o ho
      simp only at h ⊢
      by_cases hw : Region.wanted o (yielded ops a.tmps) = true
      · rw [if_pos hw] at h ⊢
        rcases h with h | ⟨_, a', w', h', _⟩
        · refine ⟨fun f _ => hF f, ?_⟩
          rw [Oper.semAt_eq _ _ _ (plain_about hb)]
          unfold Oper.wp at h
          rcases plain_shape P o hb a.eval w with ⟨v, w', hr⟩ | ⟨w', hr⟩ | ⟨e, w', hr⟩
          · rw [hr] at h ⊢
            rw [Oper.upon_value] at h
            rw [Oper.uponIn_value]
            exact ih _ _ h
          · rw [hr] at h ⊢
            rw [Oper.upon_skip] at h
            rw [Oper.uponIn_skip]
            exact ih _ _ h
          · rw [hr] at h
            exfalso
            cases e <;> simp [Oper.upon] at h
        · cases h'
      · rw [if_neg hw] at h ⊢
        exact ⟨fun f _ => hF f, ih _ _ h⟩

/-- A region that draws its order within a round: S is kept by each of its operations. -/
theorem wpIn_region_plain {F : Fence} {n : Nat} {P : Program} {id : Nat} {ops : Array Oper} (K : Act → World → Prop) {Q : Exit → Act → World → Prop} {a : Act} {w : World} (S : World → Prop) (hm : P.follows .mixedOrders = true) (hF : ∀ f, F.fn f)
    (hp : ops.toList.all (fun o => plainB o.op) = true) (hQ : ∀ a w, K a w → Q .normal a w)
    (h : wpAnyH P .any ops (fun e a w => e = .normal ∧ K a w) S ops.size (Array.replicate ops.size false) a w.drew) : (Code.region id ops true).wpIn F n P Q a w :=
  wpIn_region_draw fun t => by
    simp only [Region.schedule, hm, Bool.true_or, if_true]
    refine opsIn_of_ops hF (fun i o ho => List.all_eq_true.1 hp o (Array.mem_toList_iff.2 (Array.mem_of_getElem? ho))) hQ _ _ _ (wpAny_sound ops.size t _ a _ (wpAny_of_held _ _ _ _ h))

theorem wpIn_region_held' {F : Fence} {n : Nat} {P : Program} {id : Nat} {ops : Array Oper} {Q : Exit → Act → World → Prop} {a : Act} {w : World} (S : World → Prop) (hm : P.follows .mixedOrders = true) (hF : ∀ f, F.fn f)
    (hp : ops.toList.all (fun o => plainB o.op) = true)
    (h : wpAnyH P .any ops (fun e a w => e = .normal ∧ Q .normal a w) S ops.size (Array.replicate ops.size false) a w.drew) : (Code.region id ops true).wpIn F n P Q a w :=
  wpIn_region_plain (fun a w => Q .normal a w) S hm hF hp (fun _ _ h => h) h

end Go.Proofs.YtpkjbcgmhkkfiaaGreatDoor.Each

/- slices.Chunk of numbers by seven, by the library's own text: what it yields. Conditions: as each theorem states. -/
namespace Go.Proofs.YtpkjbcgmhkkfiaaGreatDoor.Cod
set_option maxRecDepth 100000
open Go.ChangeShapes Go.WideShapes Go.ChangeAt Go.RowKit Go.Shelf
open Go.Proofs.YtpkjbcgmhkkfiaaGreatDoor.Divs Go.Proofs.YtpkjbcgmhkkfiaaGreatDoor.Grow Go.Proofs.YtpkjbcgmhkkfiaaGreatDoor.Zone
open Go.Proofs.YtpkjbcgmhkkfiaaGreatDoor.By (Sk SL)
open Go.Proofs.YtpkjbcgmhkkfiaaGreatDoor.Each
open Go.Proofs.YtpkjbcgmhkkfiaaGreatDoor.Zo Go.Proofs.YtpkjbcgmhkkfiaaGreatDoor.Su Go.Proofs.YtpkjbcgmhkkfiaaGreatDoor.Cf Go.Proofs.YtpkjbcgmhkkfiaaGreatDoor.Conf

attribute [local go_sem] Oper.semAt_some

theorem chunk_any (r : Value) (ad : Option Addr) (l cap : Nat) (hr : r = .slice ad l cap) (w : World) :
    Calls Tryz.prog 111 #[r, .int .i64 7] w fun e w' => e = .returned (.func (.func 114) #[] #[.pointer (some ⟨w.heap.size, 0, none⟩), .pointer (some ⟨w.heap.size + 1, 0, none⟩)]) ∧ w' = (w.alloc (.cells #[r] 22)).alloc (.cells #[.int .i64 7] 3) := by
  subst hr
  go_enter Tryz.func111, Tryz.ntmps111
  go_wp2
  go_ret
  exact ⟨rfl, rfl⟩

/-- The k-th seven of n numbers: how many they are. -/
def cnk (n k : Nat) : Nat := min 7 (n - 7 * k)

set_option maxHeartbeats 4000000 in
theorem chunk1_in (n : Nat) (hn : 1 ≤ n) (g L cap : Nat) (ad : Option Addr) (had : 0 < L → ad = some ⟨g, 0, none⟩) (hL : L ≤ cap) (hL2 : L ≤ 1000) (lo B C : Nat) (J : Nat → World → Prop) (Jx : World → Prop) (W : World)
    (hc : ∀ k W, J k W → W.cell? ⟨B, 0, none⟩ = some (.slice ad L cap) ∧ W.cell? ⟨C, 0, none⟩ = some (.int .i64 7))
    (hd : ∀ k W W', J k W → Later W W' → J k W')
    (hY : ∀ (k : Nat) W, J k W → 7 * k < L → YieldAt Fence.wide (n - 1) Tryz.prog lo #[.slice (some ⟨g, 7 * k, none⟩) (cnk L k) (cnk L k)] W fun e W' => (e = .returned (.bool true) ∧ J (k + 1) W') ∨ (e = .returned (.bool false) ∧ Jx W'))
    (h0 : J 0 W) :
    CallsIn Fence.wide n Tryz.prog 114 #[.func (.yield lo) #[] #[], .pointer (some ⟨B, 0, none⟩), .pointer (some ⟨C, 0, none⟩)] W fun e W' => (∃ v, e = .returned v) ∧ ((∃ k, L ≤ 7 * k ∧ (7 * k < L + 7) ∧ J k W') ∨ Jx W') := by
  have HC := Lib.hid hc
  have HY := Lib.hid hY
  have H0 := Lib.hid h0
  have HD := Lib.hid hd
  clear hc hY h0 hd
  refine callsIn_of_wp Tryz.func114 rfl trivial ?_ rfl
  simp only [Tryz.ntmps114, List.size_toArray, List.length_cons, List.length_nil, Nat.reduceAdd, Nat.reduceSub, Array.replicate_succ, Array.replicate_zero, List.push_toArray, List.append_toArray, List.nil_append, List.cons_append]
  gi_wp2
  gi_loopw [4] (fun i wr => ∃ k : Nat, i = .int .i64 ((7 * k : Nat) : Int) ∧ 7 * k < L + 7 ∧ J k wr) (fun i _ => L + 7 - (intOf i).toNat)
  case atStart => exact ⟨0, rfl, by omega, H0.out⟩
  case round =>
    obtain ⟨k, rfl, hk, hJ⟩ := hrel
    obtain ⟨c1, c2⟩ := HC.out k _ hJ
    have HJ := Lib.hid hJ
    clear hJ
    by_cases hlt : 7 * k < L
    · obtain rfl := had (by omega)
      obtain ⟨i, hi⟩ : ∃ i, 7 * k = i := ⟨_, rfl⟩
      rw [hi] at hlt hk ⊢
      have HI := Lib.hid hi
      have hmo : Tryz.prog.follows .mixedOrders = true := by kernel_rfl
      obtain ⟨e, he⟩ : ∃ e, cnk L k = e := ⟨_, rfl⟩
      have he' : e = min 7 (L - i) := by rw [← he, ← hi]; rfl
      have he7 : e ≤ 7 := by omega
      have he1 : 1 ≤ e := by omega
      have hei : i + e ≤ L := by omega
      have Y := HY.out k wr.drew (HD.out _ _ _ HJ.out (later_drewN wr 1)) (by omega)
      rw [he, hi] at Y
      obtain ⟨fn, tmps, assign, body, hy, hR⟩ := Y
      have HE := Lib.hid he
      have mn : ∀ W : World, (Builtin.min_ #[3, 3] 3 #[.int .i64 7, .int .i64 ((L - i : Nat) : Int)]).run Tryz.prog W = .ok (.int .i64 (e : Int)) W := by
        intro W
        have q : (if ((L - i : Nat) : Int) < 7 then ((L - i : Nat) : Int) else 7) = (e : Int) := by
          rw [he']
          split <;> omega
        simp [Builtin.min_, Builtin.min2, q]
      clear hi he he'
      gi_wp2
      gi_region_o
      all_goals gi_wp2
      refine hR.mono ?_
      rintro e W3 (⟨rfl, hJ3⟩ | ⟨rfl, hJx3⟩)
      · obtain ⟨c3, c4⟩ := HC.out _ _ hJ3
        have HJ3 := Lib.hid hJ3
        clear hJ3 hy hR mn c1 c2
        gi_wp2
        go_roundw
        case rel => exact ⟨k + 1, by rw [← HI.out]; go_num, by rw [← HI.out] at hlt; omega, HJ3.out⟩
        case measure => simp [intOf]; omega
      · have HX := Lib.hid hJx3
        clear hJx3 hy hR mn c1 c2
        gi_wp2
        exact ⟨rfl, _, results_none rfl _ _ _, ⟨_, rfl⟩, .inr HX.out⟩
    · gi_wp2
      go_end0
      exact ⟨⟨_, rfl⟩, .inl ⟨k, by omega, hk, HJ.out⟩⟩

end Go.Proofs.YtpkjbcgmhkkfiaaGreatDoor.Cod

/- What puts the windows into a configuration: what is kept between two rounds of its loop over the sevens. Conditions: as each theorem states. -/
namespace Go.Proofs.YtpkjbcgmhkkfiaaGreatDoor.Cod
set_option maxRecDepth 100000
open Go.ChangeShapes Go.WideShapes Go.ChangeAt Go.RowKit Go.Shelf
open Go.Proofs.YtpkjbcgmhkkfiaaGreatDoor.Divs Go.Proofs.YtpkjbcgmhkkfiaaGreatDoor.Grow Go.Proofs.YtpkjbcgmhkkfiaaGreatDoor.Zone
open Go.Proofs.YtpkjbcgmhkkfiaaGreatDoor.By (Sk SL)
open Go.Proofs.YtpkjbcgmhkkfiaaGreatDoor.Each
open Go.Proofs.YtpkjbcgmhkkfiaaGreatDoor.Zo Go.Proofs.YtpkjbcgmhkkfiaaGreatDoor.Su Go.Proofs.YtpkjbcgmhkkfiaaGreatDoor.Cf Go.Proofs.YtpkjbcgmhkkfiaaGreatDoor.Conf

theorem wns_snoc (k : Nat) (xs : List Int) : Ka.wns (k + 1) xs = Ka.wns k xs ++ [Ka.wn ((xs.drop (7 * k)).take 7)] := by
  induction k generalizing xs with
  | zero => simp [Ka.wns]
  | succ j ih =>
    have e : Ka.wns (j + 1 + 1) xs = Ka.wn (xs.take 7) :: Ka.wns (j + 1) (xs.drop 7) := rfl
    rw [e, ih (xs.drop 7), List.drop_drop, show 7 + 7 * j = 7 * (j + 1) by omega]
    rfl

theorem wns_len (k : Nat) (xs : List Int) : (Ka.wns k xs).length = k := by
  induction k generalizing xs with
  | zero => rfl
  | succ j ih =>
    have e : Ka.wns (j + 1) xs = Ka.wn (xs.take 7) :: Ka.wns j (xs.drop 7) := rfl
    rw [e, List.length_cons, ih]

theorem But.below {B : Nat} {w W W' : World} (h : But B w W) (g : Below w.heap.size W W') : But B w W' :=
  ⟨⟨g.os.trans h.1.1, g.tape.trans h.1.2⟩, g.output.trans h.2.1, Nat.le_trans h.2.2.1 g.size, fun k hk hb => (g.block k hk).trans (h.2.2.2 k hk hb)⟩

/-- A configuration with these windows. -/
def cws (c : Cg) (ws : List Wn) : Cg := { c with ws := ws }

/-- What the loop over the sevens keeps between two rounds, k of them having come. -/
structure WI (w : World) (B : Nat) (c : Cg) (u r y : Value) (xs : List Int) (L : Loop) (k : Nat) (W : World) : Prop where
  but : But B w W
  bc : Boxed W w.heap.size 74 (.pointer (some ⟨B, 0, none⟩))
  be : Boxed W (w.heap.size + 1) 65 y
  br : Boxed W (w.heap.size + 1 + 1) 22 r
  bn : Boxed W (w.heap.size + 1 + 1 + 1) 3 (.int .i64 7)
  df : W.heap[w.heap.size + 1 + 1 + 1 + 1]? = some (.deferred (some []))
  lp : W.heap[w.heap.size + 1 + 1 + 1 + 1 + 1]? = some (.loop L)
  le : 7 * k ≤ xs.length
  row : ∃ v, Row B 33 (cc (cws c (Ka.wns k xs)) u v) W ∧ WL W w.heap.size v (Ka.wns k xs)

theorem WI.later {w : World} {B : Nat} {c : Cg} {u r y : Value} {xs : List Int} {L : Loop} {k : Nat} {W W' : World} (h : WI w B c u r y xs L k W) (g : Later W W') : WI w B c u r y xs L k W' := by
  have o : ∀ b o, W.heap[b]? = some o → W'.heap[b]? = some o := fun b v e => (g.2.2.2 b (Array.getElem?_eq_some_iff.1 e).1).trans e
  obtain ⟨v, h1, h2⟩ := h.row
  exact ⟨h.but.trans (But.of_later g), o _ _ h.bc, o _ _ h.be, o _ _ h.br, o _ _ h.bn, o _ _ h.df, o _ _ h.lp, h.le, v, h1.later g, h2.later g⟩

theorem WI.put {w : World} {B : Nat} {c : Cg} {u r y : Value} {xs : List Int} {L L' : Loop} {k : Nat} {W : World} (h : WI w B c u r y xs L k W) (hB : B < w.heap.size) : WI w B c u r y xs L' k (W.putObj (w.heap.size + 1 + 1 + 1 + 1 + 1) (.loop L')) := by
  have o : ∀ b, b ≠ w.heap.size + 1 + 1 + 1 + 1 + 1 → (W.putObj (w.heap.size + 1 + 1 + 1 + 1 + 1) (.loop L')).heap[b]? = W.heap[b]? := fun b hb => World.putObj_heap_other (by omega)
  obtain ⟨v, h1, h2⟩ := h.row
  refine ⟨h.but.below (belowK_b (w := w) (Nat.le_refl _) W _ _ _ (by omega) h.lp rfl rfl), (o _ (by omega)).trans h.bc, (o _ (by omega)).trans h.be, (o _ (by omega)).trans h.br, (o _ (by omega)).trans h.bn, (o _ (by omega)).trans h.df, World.putObj_heap_same (Array.getElem?_eq_some_iff.1 h.lp).1, h.le, v, (o _ (by omega)).trans h1, ownsRow_putObj h2 _ h.lp rfl⟩

/-- One window more: behind the append and the store. -/
theorem WI.more {w : World} {B : Nat} {c : Cg} {u r y : Value} {xs : List Int} {L : Loop} {k : Nat} {W W4 : World} {v v' : Value} (h : WI w B c u r y xs L k W) (hB : B < w.heap.size) (hk : 7 * k + 7 ≤ xs.length)
    (h1 : Row B 33 (cc (cws c (Ka.wns k xs)) u v) W) (h2 : WL W w.heap.size v (Ka.wns k xs)) (hg : W.grownBy W4 v.ownBlock) (h4 : WL W4 w.heap.size v' (Ka.wns (k + 1) xs)) :
    WI w B c u r y xs L (k + 1) (W4.setCell ⟨B, 36, none⟩ v') := by
  have hlt : ∀ j, v.ownBlock = some j → w.heap.size ≤ j := fun j e => (World.ownsRow.lt h2 j e).1
  have nob : ∀ (b : Nat) (t : TypeId) (x : Value), t ≠ 58 → Boxed W b t x → b ≠ B → Boxed (W4.setCell ⟨B, 36, none⟩ v') b t x := fun b t x ht hx hb => by
    have e := row_apart h2 hg ht (show Row b t #[x] W from hx)
    exact (Below.heap_setCell _ _ _ _ hb).trans e
  have noo : ∀ (b : Nat) (o : Obj), o.isCells = false → W.heap[b]? = some o → b ≠ B → (W4.setCell ⟨B, 36, none⟩ v').heap[b]? = some o := fun b o ho hx hb => by
    have e : some b ≠ v.ownBlock := fun e => by
      obtain ⟨cs, h'⟩ := own_type h2 e.symm
      rw [hx] at h'
      obtain rfl := Option.some.inj h'
      cases ho
    exact (Below.heap_setCell _ _ _ _ hb).trans ((hg.block b (Array.getElem?_eq_some_iff.1 hx).1 e).trans hx)
  have r4 := row_apart h2 hg (by decide) h1
  have b4 : But B w W4 := h.but.below ((Below.refl _ W).grown hg h.but.size (fun j e => hlt j e))
  refine ⟨b4.trans (But.set _ _ _), nob _ _ _ (by decide) h.bc (by omega), nob _ _ _ (by decide) h.be (by omega), nob _ _ _ (by decide) h.br (by omega), nob _ _ _ (by decide) h.bn (by omega), noo _ _ rfl h.df (by omega), noo _ _ rfl h.lp (by omega), by omega, v', ?_, ?_⟩
  · have h := r4.set 36 v'
    rwa [show (cc (cws c (Ka.wns k xs)) u v).setIfInBounds 36 v' = cc (cws c (Ka.wns (k + 1) xs)) u v' by kernel_rfl] at h
  · exact owns_set h4 hB _ _

end Go.Proofs.YtpkjbcgmhkkfiaaGreatDoor.Cod

/- What puts the windows into a configuration, by the program: its loop over the sevens of a row. Conditions: as each theorem states. -/
namespace Go.Proofs.YtpkjbcgmhkkfiaaGreatDoor.Cod
set_option maxRecDepth 100000
open Go.ChangeShapes Go.WideShapes Go.ChangeAt Go.RowKit Go.Shelf
open Go.Proofs.YtpkjbcgmhkkfiaaGreatDoor.Divs Go.Proofs.YtpkjbcgmhkkfiaaGreatDoor.Grow Go.Proofs.YtpkjbcgmhkkfiaaGreatDoor.Zone
open Go.Proofs.YtpkjbcgmhkkfiaaGreatDoor.By (Sk SL)
open Go.Proofs.YtpkjbcgmhkkfiaaGreatDoor.Each
open Go.Proofs.YtpkjbcgmhkkfiaaGreatDoor.Zo Go.Proofs.YtpkjbcgmhkkfiaaGreatDoor.Su Go.Proofs.YtpkjbcgmhkkfiaaGreatDoor.Cf Go.Proofs.YtpkjbcgmhkkfiaaGreatDoor.Conf

attribute [local go_sem] Oper.semAt_some

/-- A loop over an iterator, met at its start: the iterator is called with yield, the loop's record lies at the end. -/
theorem range_start {P : Program} {n : Nat} {g : Operand} {ps : Array Tmp} {assign body : Code} {Q : Exit → Act → World → Prop} {a : Act} {w : World} {gf : Nat} {lb : Array Value}
    (hg : a.eval g = .func (.func gf) #[] lb) (eg : ∀ args w, (callFunc gf args).run P w = .ok (.enter gf args) w)
    (h : ∀ L : Loop, L.state = .ready → L.pending = none → L.params = ps → L.tmps = a.tmps → L.assign = assign → L.body = body →
      CallsIn Fence.wide (n - 1) P gf (#[.func (.yield (w.heap.size + 1)) #[] #[]] ++ lb) ((w.alloc (.deferred (some []))).alloc (.loop L))
        (rangePost Fence.wide n P (w.heap.size + 1) Q { a with defers := { target := .collected w.heap.size, args := #[] } :: a.defers })) :
    (Code.rangeFunc g ps assign body).wpIn Fence.wide n P Q a w := by
  refine wpIn_rangeFunc fun fn _ => ?_
  obtain ⟨L, hL⟩ : ∃ L : Loop, L = { state := .ready, pending := none, fn, tmps := a.tmps, params := ps, assign, body, defers := w.heap.size } := ⟨_, rfl⟩
  have k := h L (by rw [hL]) (by rw [hL]) (by rw [hL]) (by rw [hL]) (by rw [hL]) (by rw [hL])
  have e := run_enterLoop_outer (P := P) (w := w) fn a.tmps ps assign body
  rw [← hL] at e
  refine ⟨w.heap.size + 1, [{ target := .collected w.heap.size, args := #[] }], (w.alloc (.deferred (some []))).alloc (.loop L), { target := .fn (.func gf) lb, args := #[.func (.yield (w.heap.size + 1)) #[] #[]] }, (w.alloc (.deferred (some []))).alloc (.loop L), gf, #[.func (.yield (w.heap.size + 1)) #[] #[]] ++ lb, (w.alloc (.deferred (some []))).alloc (.loop L), e, ?_, ?_, ?_, ?_, ?_⟩
  · simp only [resolve, hg]
    simp [go_sem]
  · exact fun _ _ => trivial
  · simp [invoke, go_sem, eg]
  · intro hx
    cases hx
  · simp only [List.cons_append, List.nil_append]
    exact k

/-- One round, out of the walks of what it assigns and of its body. -/
theorem yield_of {P : Program} {m l : Nat} {args : Array Value} {W : World} {R : Ending → World → Prop} {L : Loop} (hl : W.heap[l]? = some (.loop L)) (hn : args.size = L.params.size)
    (h : L.assign.wpIn (Fence.wide.inRound l) m P (Exit.then (fun a1 w1 => ∃ w2, (Instr.beginRound l).run P w1 = .ok () w2 ∧ L.body.wpIn (Fence.wide.inRound l) m P (roundPost P l R) a1 w2) (fun _ _ _ => False))
      { tmps := (L.params.zip args).foldl (fun tmps (t, a) => tmps.setIfInBounds t a) L.tmps, defers := [] } W) : YieldAt Fence.wide m P l args W R :=
  ⟨L.fn, _, L.assign, L.body, run_yield hl hn, roundIn_of_wpIn trivial h⟩

/-- What the loop leaves when it is left early: the error lies in the result's cell. -/
def WX (w : World) (B : Nat) (E : Value) (W : World) : Prop :=
  ∃ L' : Loop, L'.state ≠ .busy ∧ L'.pending = some .ret ∧ But B w W ∧ Boxed W (w.heap.size + 1) 65 E ∧ W.heap[w.heap.size + 1 + 1 + 1 + 1]? = some (.deferred (some [])) ∧ W.heap[w.heap.size + 1 + 1 + 1 + 1 + 1]? = some (.loop L')

theorem WI.left {w : World} {B : Nat} {c : Cg} {u r y : Value} {xs : List Int} {L L' : Loop} {k : Nat} {W : World} (h : WI w B c u r y xs L k W) (E : Value) (h1 : L'.state ≠ .busy) (h2 : L'.pending = some .ret) :
    WX w B E ((W.setCell ⟨w.heap.size + 1, 0, none⟩ E).putObj (w.heap.size + 1 + 1 + 1 + 1 + 1) (.loop L')) := by
  have lp' : (W.setCell ⟨w.heap.size + 1, 0, none⟩ E).heap[w.heap.size + 1 + 1 + 1 + 1 + 1]? = some (.loop L) := (Below.heap_setCell _ _ _ _ (by show _ ≠ w.heap.size + 1; omega)).trans h.lp
  have o : ∀ b, b ≠ w.heap.size + 1 + 1 + 1 + 1 + 1 → ((W.setCell ⟨w.heap.size + 1, 0, none⟩ E).putObj (w.heap.size + 1 + 1 + 1 + 1 + 1) (.loop L')).heap[b]? = (W.setCell ⟨w.heap.size + 1, 0, none⟩ E).heap[b]? := fun b hb => World.putObj_heap_other (by omega)
  refine ⟨L', h1, h2, (h.but.setNew (by omega) 0 E).below (belowK_b (w := w) (Nat.le_refl _) _ _ _ _ (by omega) lp' rfl rfl), (o _ (by omega)).trans (Boxed.set E h.be), (o _ (by omega)).trans ((Below.heap_setCell _ _ _ _ (by show _ ≠ w.heap.size + 1; omega)).trans h.df), World.putObj_heap_same (Array.getElem?_eq_some_iff.1 lp').1⟩

theorem WX.put {w : World} {B : Nat} {E : Value} {W : World} (h : WX w B E W) (L'' : Loop) : But B w (W.putObj (w.heap.size + 1 + 1 + 1 + 1 + 1) (.loop L'')) ∧ Boxed (W.putObj (w.heap.size + 1 + 1 + 1 + 1 + 1) (.loop L'')) (w.heap.size + 1) 65 E ∧ (W.putObj (w.heap.size + 1 + 1 + 1 + 1 + 1) (.loop L'')).heap[w.heap.size + 1 + 1 + 1 + 1]? = some (.deferred (some [])) := by
  obtain ⟨L', _, _, h1, h2, h3, h4⟩ := h
  have o : ∀ b, b ≠ w.heap.size + 1 + 1 + 1 + 1 + 1 → (W.putObj (w.heap.size + 1 + 1 + 1 + 1 + 1) (.loop L'')).heap[b]? = W.heap[b]? := fun b hb => World.putObj_heap_other (by omega)
  exact ⟨h1.below (belowK_b (w := w) (Nat.le_refl _) W _ _ _ (by omega) h4 rfl rfl), (o _ (by omega)).trans h2, (o _ (by omega)).trans h3⟩

theorem but_taken {w : World} {B : Nat} {W : World} (h : But B w W) (hd : W.heap[w.heap.size + 1 + 1 + 1 + 1]? = some (.deferred (some []))) : But B w (W.putObj (w.heap.size + 1 + 1 + 1 + 1) (.deferred none)) :=
  h.below (belowK_b (w := w) (Nat.le_refl _) W _ _ _ (by omega) hd rfl rfl)

theorem wi_start (w : World) (B : Nat) (c : Cg) (u r : Value) (xs : List Int) (hR : Row B 33 (cc c u (.slice none 0 0)) w) (L : Loop) :
    WI w B c u r .nilIface xs L 0 ((((((w.alloc (.cells #[.pointer (some ⟨B, 0, none⟩)] 74)).alloc (.cells #[.nilIface] 65)).alloc (.cells #[r] 22)).alloc (.cells #[.int .i64 7] 3)).alloc (.deferred (some []))).alloc (.loop L)) := by
  have e0 := Boxed.new w 74 (.pointer (some ⟨B, 0, none⟩))
  have e1 := Boxed.new (w.alloc (.cells #[.pointer (some ⟨B, 0, none⟩)] 74)) 65 .nilIface
  have e2 := Boxed.new ((w.alloc (.cells #[.pointer (some ⟨B, 0, none⟩)] 74)).alloc (.cells #[.nilIface] 65)) 22 r
  have e3 := Boxed.new (((w.alloc (.cells #[.pointer (some ⟨B, 0, none⟩)] 74)).alloc (.cells #[.nilIface] 65)).alloc (.cells #[r] 22)) 3 (.int .i64 7)
  have e4 := World.alloc_heap_new ((((w.alloc (.cells #[.pointer (some ⟨B, 0, none⟩)] 74)).alloc (.cells #[.nilIface] 65)).alloc (.cells #[r] 22)).alloc (.cells #[.int .i64 7] 3)) (.deferred (some []))
  have e5 := World.alloc_heap_new (((((w.alloc (.cells #[.pointer (some ⟨B, 0, none⟩)] 74)).alloc (.cells #[.nilIface] 65)).alloc (.cells #[r] 22)).alloc (.cells #[.int .i64 7] 3)).alloc (.deferred (some []))) (.loop L)
  simp only [World.size_alloc] at e1 e2 e3 e4 e5
  have g : Later w ((((((w.alloc (.cells #[.pointer (some ⟨B, 0, none⟩)] 74)).alloc (.cells #[.nilIface] 65)).alloc (.cells #[r] 22)).alloc (.cells #[.int .i64 7] 3)).alloc (.deferred (some []))).alloc (.loop L)) := ((((((Later.refl w).put _).put _).put _).put _).put _).put _
  refine ⟨But.of_later g, ((((e0.alloc _).alloc _).alloc _).alloc _).alloc _, (((e1.alloc _).alloc _).alloc _).alloc _, ((e2.alloc _).alloc _).alloc _, (e3.alloc _).alloc _, (Below.heap_alloc _ _ _ (by simp)).trans e4, e5, by omega, .slice none 0 0, hR.later g, World.ownsRow_nil _ _ _ _⟩

theorem results_one {fn : Func} {p : Tmp} (h : fn.results = #[.cell p 65]) (tmps : Array Value) (W : World) (g : Nat) (v : Value) (hp : tmps.getD p undef = .pointer (some ⟨g, 0, none⟩)) (hc : W.cell? ⟨g, 0, none⟩ = some v) : (results fn tmps).run Tryz.prog W = .ok v W := by
  have hp' : tmps[p]?.getD undef = .pointer (some ⟨g, 0, none⟩) := by simpa using hp
  simp [results, h, hp', asAddr, loadVar, hc]

end Go.Proofs.YtpkjbcgmhkkfiaaGreatDoor.Cod

/- Rows that are cut, and a window struck off a row of its own. Conditions: as each theorem states. -/
namespace Go.Proofs.YtpkjbcgmhkkfiaaGreatDoor.Conf
set_option maxRecDepth 100000
open Go.ChangeShapes Go.WideShapes Go.ChangeAt Go.RowKit
open Go.Proofs.YtpkjbcgmhkkfiaaGreatDoor.Divs Go.Proofs.YtpkjbcgmhkkfiaaGreatDoor.Grow Go.Proofs.YtpkjbcgmhkkfiaaGreatDoor.Zone
open Go.Proofs.YtpkjbcgmhkkfiaaGreatDoor.By (Sk SL bool_no bool_yes)
open Go.Proofs.YtpkjbcgmhkkfiaaGreatDoor.Each
open Go.Proofs.YtpkjbcgmhkkfiaaGreatDoor.Zo Go.Proofs.YtpkjbcgmhkkfiaaGreatDoor.Su Go.Proofs.YtpkjbcgmhkkfiaaGreatDoor.Cf

theorem WL.cuts {W : World} {B : Nat} {v : Value} {xs : List Wn} (h : WL W B v xs) (hp : 0 < xs.length) : ∃ g q, v = .slice (some ⟨g, 0, none⟩) xs.length q ∧ xs.length ≤ q ∧ q ≤ 9223372036854775807 ∧ (∀ k, k ≤ xs.length → WL W B (.slice (some ⟨g, 0, none⟩) k q) (xs.take k)) ∧ (∀ j u, (fl xs)[j]? = some u → W.cell? ⟨g, j, none⟩ = some u) := by
  have hk := h.wk
  obtain ⟨h1, h2⟩ := h
  rcases h2 with ⟨_, h0⟩ | ⟨g, cap, cur, rfl, b1, b2, b3, b4, b5, b6⟩
  · omega
  · refine ⟨g, cap, rfl, b3, by simpa [maxLen] using b4, fun k hk => ?_, fun j u hu => ?_⟩
    · have hl : (xs.take k).length = k := by rw [List.length_take, Nat.min_eq_left hk]
      unfold WL
      rw [hl]
      refine ⟨by rw [fl_len, hl], .inr ⟨g, cap, cur, rfl, b1, b2, by omega, b4, b5, ?_⟩⟩
      rw [fl_take, ← b6, List.take_take, Nat.min_eq_left (by omega)]
    · obtain ⟨ad, cap', e, c1, c2, c3, c4⟩ := hk
      obtain ⟨b, off, e', c⟩ := c4 j u hu
      subst e'
      simp only [Value.slice.injEq, Option.some.injEq, Addr.mk.injEq, and_true, true_and] at e
      obtain ⟨⟨rfl, rfl⟩, _⟩ := e
      rwa [Nat.zero_add] at c

theorem ints_cuts {W : World} {B : Nat} {v : Value} {xs : List Int} (h : SL .i64 3 W B v xs) (hp : 0 < xs.length) : ∃ g q, v = .slice (some ⟨g, 0, none⟩) xs.length q ∧ xs.length ≤ q ∧ q ≤ 9223372036854775807 ∧ (∀ k, k ≤ xs.length → SL .i64 3 W B (.slice (some ⟨g, 0, none⟩) k q) (xs.take k)) := by
  obtain ⟨h1, h2⟩ := h
  rcases h2 with ⟨_, h0⟩ | ⟨g, cap, cur, rfl, b1, b2, b3, b4, b5, b6⟩
  · omega
  · refine ⟨g, cap, rfl, b3, by simpa [maxLen] using b4, fun k hk => ?_⟩
    have hl : (xs.take k).length = k := by rw [List.length_take, Nat.min_eq_left hk]
    unfold By.SL
    rw [hl]
    refine ⟨by rw [List.length_map, hl, Nat.mul_one], .inr ⟨g, cap, cur, rfl, b1, b2, by omega, b4, b5, ?_⟩⟩
    rw [List.map_take, ← b6, List.take_take, Nat.mul_one, Nat.min_eq_left (by omega)]

/-- append of windows that lie wherever, to windows that are owned: a step of a region that draws. -/
theorem step_append_wins {w : World} {ops : Array Oper} {o : Oper} {a : Act} {K : Act → World → Prop} {Q : Exit → Act → World → Prop} {E : Prop} (hg : o.guard = none) (s x : Operand)
    (ho : o.op = .call { callee := .builtin .append, args := #[s, x], argTypes := #[31, 31] })
    (B : Nat) (v : Value) (ad : Addr) (m cap : Nat) (xs ys : List Wn) (hs : a.eval s = v) (hx : a.eval x = .slice (some ad) m cap) (hown : WL w B v xs)
    (hy : ∀ j u, (fl ys)[j]? = some u → w.cell? (ad.add j) = some u) (hm : ys.length = m) (hb : xs.length + ys.length ≤ 100000) (hB : B ≤ w.heap.size)
    (hK : ∀ v' w', WL w' B v' (xs ++ ys) → w.grownBy w' v.ownBlock → K (a.put o.dst v') w') : if Region.wanted o (yielded ops a.tmps) = true then Oper.wp Tryz.prog o a w K Q else E := by
  have hw : Region.wanted o (yielded ops a.tmps) = true := by simp [Region.wanted, hg]
  rw [if_pos hw]
  subst hm
  obtain ⟨i0, hi, hz0, hz1, hz2⟩ := info_parts info_win
  refine wp_append_own w s x 31 ho B 58 i0 _ 7 56 Tryz.underlying31 hi hz0 hz1 hz2 rfl (by decide) v _ _ hs hown ad ys.length cap (fl ys) hx (fl_len ys) hy (fl_cell ys) (by simp only [maxLen]; omega) (by omega) hB ?_
  intro v' w' h1 h2 _
  refine hK v' w' ?_ h2
  unfold WL
  rw [List.length_append, fl_app]
  exact h1

/-- A configuration's stops are cut. -/
theorem cut_done {w0 W : World} {B gD : Nat} {G : Array Value} {c : Cg} {u v u' : Value} {l : List Int} (hG : G = cc c u v) (hs : SL .i64 3 W B u' l) (hw : WL W B v c.ws) (hR : Row gD 33 G W) (hL : Later w0 W) (hB : w0.heap.size ≤ gD) :
    Row gD 33 (G.setIfInBounds 3 u') (W.setCell ⟨gD, 3, none⟩ u') ∧ Own (W.setCell ⟨gD, 3, none⟩ u') B (G.setIfInBounds 3 u') (ct c l) ∧ Later w0 (W.setCell ⟨gD, 3, none⟩ u') := by
  refine ⟨hR.set 3 u', ⟨u', v, by rw [hG]; exact cc_stops c u v u' l, ?_, ?_⟩, hL.setCell hB _⟩
  · exact owns_set' hs (own_apart hs hR (by decide)) _ _
  · exact owns_set' hw (own_apart hw hR (by decide)) _ _

theorem fl_rest (xs : List Wn) (k j : Nat) (u : Value) (h : (fl (xs.drop k))[j]? = some u) : (fl xs)[k * 7 + j]? = some u := by
  rw [fl_drop, List.getElem?_drop] at h
  exact h

end Go.Proofs.YtpkjbcgmhkkfiaaGreatDoor.Conf

/- What puts the windows into a configuration, by the program. Conditions: as each theorem states. -/
namespace Go.Proofs.YtpkjbcgmhkkfiaaGreatDoor.Cod
set_option maxRecDepth 100000
open Go.ChangeShapes Go.WideShapes Go.ChangeAt Go.RowKit Go.Shelf
open Go.Proofs.YtpkjbcgmhkkfiaaGreatDoor.Divs Go.Proofs.YtpkjbcgmhkkfiaaGreatDoor.Grow Go.Proofs.YtpkjbcgmhkkfiaaGreatDoor.Zone
open Go.Proofs.YtpkjbcgmhkkfiaaGreatDoor.By (Sk SL)
open Go.Proofs.YtpkjbcgmhkkfiaaGreatDoor.Each
open Go.Proofs.YtpkjbcgmhkkfiaaGreatDoor.Zo Go.Proofs.YtpkjbcgmhkkfiaaGreatDoor.Su Go.Proofs.YtpkjbcgmhkkfiaaGreatDoor.Cf Go.Proofs.YtpkjbcgmhkkfiaaGreatDoor.Conf

attribute [local go_sem] Oper.semAt_some

theorem wl_succ {W : World} {b : Nat} {v : Value} {ws : List Wn} {x : Wn} (h : WL W b v (ws ++ [x])) : ∃ g cap, v = .slice (some ⟨g, 0, none⟩) (ws.length + 1) cap := by
  unfold WL at h
  rw [List.length_append] at h
  exact ownsRow_succ h

theorem sa_win (q : Nat) (ch : List Int) : sa #[.int .i64 0, .int .i64 0, .int .i64 0, .int .i64 0, .int .i64 0, .int .i64 0, .int .i64 0] [(q, 0), (q, 1), (q, 2), (q, 3), (q, 4), (q, 5), (q, 6)] ch 7 = (wc (Ka.wn ch)).toArray := by
  kernel_rfl

theorem win_head (q : Nat) : ∀ i, i < 7 → ([(q, 0), (q, 1), (q, 2), (q, 3), (q, 4), (q, 5), (q, 6)].getD i (0, 0)).1 = q := by
  intro i hi
  have : i = 0 ∨ i = 1 ∨ i = 2 ∨ i = 3 ∨ i = 4 ∨ i = 5 ∨ i = 6 := by omega
  rcases this with rfl | rfl | rfl | rfl | rfl | rfl | rfl <;> rfl

/-- A window's places take the seven numbers. -/
theorem put_win (q g off n : Nat) (ch : List Int) (p : Value) (cr : Nat) (w : World) (hl : ch.length = 7) (hR : Row q 58 #[.int .i64 0, .int .i64 0, .int .i64 0, .int .i64 0, .int .i64 0, .int .i64 0, .int .i64 0] w)
    (hv : Ps n w p [(q, 0), (q, 1), (q, 2), (q, 3), (q, 4), (q, 5), (q, 6)]) (hq : q < n) (hg : g < q) (hx : ∀ i, i < 7 → w.cell? ⟨g, off + i, none⟩ = some (.int .i64 (ch.getD i 0))) :
    Calls Tryz.prog 101 #[p, .slice (some ⟨g, off, none⟩) 7 cr] w fun e w' => e = .returned .nilIface ∧ Row q 58 (wc (Ka.wn ch)).toArray w' ∧ But q w w' := by
  obtain ⟨bp, cp, rfl, hn, hbp, hpc⟩ := hv
  suffices h : Calls Tryz.prog 101 #[.slice (some ⟨bp, 0, none⟩) [(q, 0), (q, 1), (q, 2), (q, 3), (q, 4), (q, 5), (q, 6)].length cp, .slice (some ⟨g, off, none⟩) ch.length cr] w fun e w' => e = .returned .nilIface ∧ w' = sw w [(q, 0), (q, 1), (q, 2), (q, 3), (q, 4), (q, 5), (q, 6)] ch ch.length by
    rw [hl] at h
    refine h.mono ?_
    rintro e w' ⟨he, rfl⟩
    have r := row_sw [(q, 0), (q, 1), (q, 2), (q, 3), (q, 4), (q, 5), (q, 6)] ch hR 7 (win_head q)
    rw [sa_win] at r
    exact ⟨he, r, but_sw _ _ _ (win_head q)⟩
  refine put_yes _ ch bp cp g off cr w hl.symm (by omega) (fun i p hp => ⟨hpc i p hp, ?_⟩) (fun i hi => hx i (by omega))
  have hrow : ∀ o, o < 7 → (∃ y, w.cell? ⟨q, o, none⟩ = some y) ∧ w.frozen? ⟨q, o, none⟩ = false ∧ q ≠ bp ∧ q ≠ g := fun o ho => ⟨⟨_, hR.cell o (Array.getElem?_eq_getElem ho)⟩, hR.frozen o, by omega, by omega⟩
  match i with
  | 0 => obtain rfl := Option.some.inj hp; exact hrow 0 (by omega)
  | 1 => obtain rfl := Option.some.inj hp; exact hrow 1 (by omega)
  | 2 => obtain rfl := Option.some.inj hp; exact hrow 2 (by omega)
  | 3 => obtain rfl := Option.some.inj hp; exact hrow 3 (by omega)
  | 4 => obtain rfl := Option.some.inj hp; exact hrow 4 (by omega)
  | 5 => obtain rfl := Option.some.inj hp; exact hrow 5 (by omega)
  | 6 => obtain rfl := Option.some.inj hp; exact hrow 6 (by omega)
  | k + 7 => simp at hp

set_option maxHeartbeats 4000000 in
theorem put_windows (B b : Nat) (c : Cg) (u r : Value) (t0 : TypeId) (x0 E1 : Value) (xs : List Int) (w : World) (hR : Row B 33 (cc c u (.slice none 0 0)) w) (hx : SL .i64 3 w b r xs) (hn : xs.length ≤ 112) (h0 : w.cell? ⟨0, 0, none⟩ = some (.iface t0 x0)) (hB : 1 ≤ B) :
    Calls Tryz.prog 104 #[.pointer (some ⟨B, 0, none⟩), r] w (Put 5 B c u (.slice none 0 0) r xs (.iface t0 x0) E1 w) := by
  have hBw := hR.lt
  obtain ⟨ad, cap, er, had, hcap⟩ : ∃ (ad : Option Addr) (cap : Nat), r = .slice ad xs.length cap ∧ (0 < xs.length → ∃ g, ad = some ⟨g, 0, none⟩) ∧ xs.length ≤ cap := by
    rcases hx.2 with ⟨hv, h0⟩ | ⟨g, cap, cur, hv, _, _, h1, _⟩
    · exact ⟨none, 0, by rw [hv, h0], fun h => by omega, by omega⟩
    · exact ⟨some ⟨g, 0, none⟩, cap, hv, fun _ => ⟨g, rfl⟩, h1⟩
  obtain ⟨g, hg⟩ : ∃ g, 0 < xs.length → ad = some ⟨g, 0, none⟩ := by
    by_cases h : 0 < xs.length
    · obtain ⟨g, hg⟩ := had h
      exact ⟨g, fun _ => hg⟩
    · exact ⟨0, fun k => absurd k h⟩
  have hcell : ∀ i, i < xs.length → w.cell? ⟨g, i, none⟩ = some (.int .i64 (xs.getD i 0)) := fun i hi => by
    obtain ⟨g', off, cp, e, _, _, _, hc⟩ := hx.sk.has (by omega)
    have e2 := hg (by omega)
    rw [er, e2] at e
    simp only [Value.slice.injEq, Option.some.injEq, Addr.mk.injEq, and_true, true_and] at e
    obtain ⟨⟨rfl, rfl⟩, _⟩ := e
    have := hc i hi
    rwa [Nat.zero_add] at this
  have hgw : 0 < xs.length → g < w.heap.size ∧ g ≠ B := fun h => by
    have c0 := hcell 0 h
    refine ⟨World.block_lt_of_cell? _ _ c0, ?_⟩
    have e2 := hg h
    subst er
    rw [e2] at hx
    exact fun e => row_ne hR hx (by decide) e.symm
  have HGW := Lib.hid hgw
  have HCELL := Lib.hid hcell
  have HQ0 := Lib.hid (wi_start w B c u r xs hR)
  have H0 := Lib.hid h0
  have M := Lib.hid (fun W => chunk_any r ad xs.length cap er W)
  have HAD := Lib.hid hg
  have HER := Lib.hid er
  have HB1 := Lib.hid hB
  clear hR hx h0 had hgw hcell hg er
  refine (callsIn_wide (n := 5)).1 ?_
  refine callsIn_of_wp_marks Tryz.func104 rfl trivial ?_ rfl
  simp only [Tryz.ntmps104, List.size_toArray, List.length_cons, List.length_nil, Nat.reduceAdd, Nat.reduceSub, Array.replicate_succ, Array.replicate_zero, List.push_toArray, List.append_toArray, List.nil_append, List.cons_append]
  gi_wp2_with (refine ⟨trivial, ?_⟩; gi_at_call 111; refine (callsIn_wide.2 (M.out _)).mono ?_; rintro e w1 ⟨rfl, rfl⟩)
  refine range_start (gf := 114) rfl (enters_of Tryz.func114 (by kernel_rfl) rfl) ?_
  intro L l1 l2 l3 l4 l5 l6
  have HQ := Lib.hid (HQ0.out L)
  clear HQ0
  simp only [World.size_alloc]
  have step : ∀ (k : Nat) W, WI w B c u r .nilIface xs L k W → 7 * k < xs.length → YieldAt Fence.wide (5 - 1 - 1) Tryz.prog (w.heap.size + 1 + 1 + 1 + 1 + 1) #[.slice (some ⟨g, 7 * k, none⟩) (cnk xs.length k) (cnk xs.length k)] W fun e W' =>
      (e = .returned (.bool true) ∧ WI w B c u r .nilIface xs L (k + 1) W') ∨ (e = .returned (.bool false) ∧ Ka.rg 5 xs = false ∧ WX w B (.iface t0 x0) W') := by
    intro k W hW hlt
    refine yield_of hW.lp (by rw [l3]; rfl) ?_
    rw [l3, l4, l5, l6]
    have H1 := Lib.hid l1
    have H2 := Lib.hid l2
    have HW := Lib.hid hW
    clear l1 l2 l3 l4 l5 l6 hW HQ M
    gi_wp2
    refine ⟨_, run_beginRound HW.out.lp H1.out, ?_⟩
    obtain ⟨Wb, hWb⟩ : ∃ Wb, W.putObj (w.heap.size + 1 + 1 + 1 + 1 + 1) (.loop { L with state := .busy }) = Wb := ⟨_, rfl⟩
    rw [hWb]
    have HV := Lib.hid (show WI w B c u r .nilIface xs { L with state := .busy } k Wb from hWb ▸ HW.out.put hBw)
    clear hWb HW
    have KP := Lib.hid (fun q W => places_window q W)
    by_cases hk7 : 7 * k + 7 ≤ xs.length
    · have hc7 : cnk xs.length k = 7 := by unfold cnk; omega
      rw [hc7]
      have HG := Lib.hid (HGW.out (by omega))
      obtain ⟨ch, hch⟩ : ∃ ch, (xs.drop (7 * k)).take 7 = ch := ⟨_, rfl⟩
      have hl7 : ch.length = 7 := by rw [← hch, List.length_take, List.length_drop]; omega
      have hcg : ∀ i, i < 7 → w.cell? ⟨g, 7 * k + i, none⟩ = some (.int .i64 (ch.getD i 0)) := fun i hi => by
        rw [HCELL.out _ (by omega), ← hch]
        simp only [List.getD_eq_getElem?_getD, List.getElem?_take_of_lt hi, List.getElem?_drop]
      have HCG := Lib.hid hcg
      have HCH := Lib.hid hch
      have hqb := HV.out.but.size
      have HQB := Lib.hid hqb
      clear hcg hch hqb hc7
      gi_wp2_with (refine ⟨trivial, ?_⟩; gi_at_call 66; refine (CallsIn.inRound _ (callsIn_wide.2 (KP.out _ _))).mono ?_; rintro e w3 ⟨p, rfl, hp, hg3⟩; have HP := Lib.hid hp; have HG3 := Lib.hid hg3; clear hp hg3)
      have PW := Lib.hid (put_win Wb.heap.size g (7 * k) _ ch p 7 w3 hl7 ((Row.new Wb _ _).later HG3.out) HP.out (by simp) (by have := HQB.out; have := HG.out.1; omega) (fun i hi => gsome (off_put HG3.out) (HV.out.but.cell HG.out.2 (HCG.out i hi))))
      have HW3 := Lib.hid (off_put HG3.out)
      clear hl7
      gi_wp2_with (refine ⟨trivial, ?_⟩; gi_at_call 101; refine (CallsIn.inRound _ (callsIn_wide.2 PW.out)).mono ?_; rintro e w4 ⟨rfl, hr4, hb4⟩; have HR4 := Lib.hid hr4; have HW4 := Lib.hid (hb4.later HW3.out (Nat.le_refl _)); clear hr4 hb4)
      obtain ⟨x, hxw⟩ : ∃ x, Ka.wn ch = x := ⟨_, rfl⟩
      have HXW := Lib.hid hxw
      rw [hxw] at HR4
      clear hxw
      obtain ⟨v, hrow, hwl⟩ := HV.out.row
      have HVB := Lib.hid (fun j e => (World.ownsRow.lt hwl j e).2)
      have HROW := Lib.hid (hrow.later HW4.out)
      have HWL := Lib.hid (hwl.later HW4.out)
      have HV4 := Lib.hid (HV.out.later HW4.out)
      clear hrow hwl
      obtain ⟨S, hS⟩ : ∃ S : World → Prop, S = fun W => W.cell? ⟨w.heap.size, 0, none⟩ = some (.pointer (some ⟨B, 0, none⟩)) ∧ W.cell? ⟨Wb.heap.size, 0, none⟩ = some (.int .i64 x.k) ∧ W.cell? ⟨Wb.heap.size, 1, none⟩ = some (.int .i64 x.m) ∧ W.cell? ⟨Wb.heap.size, 2, none⟩ = some (.int .i64 x.p) ∧ W.cell? ⟨Wb.heap.size, 3, none⟩ = some (.int .i64 x.a) ∧ W.cell? ⟨Wb.heap.size, 4, none⟩ = some (.int .i64 x.h) ∧ W.cell? ⟨Wb.heap.size, 5, none⟩ = some (.int .i64 x.u) ∧ W.cell? ⟨Wb.heap.size, 6, none⟩ = some (.int .i64 x.l) := ⟨_, rfl⟩
      have hS1 : ∀ W, Boxed W w.heap.size 74 (.pointer (some ⟨B, 0, none⟩)) → Row Wb.heap.size 58 (wc x).toArray W → S W := fun W h1 h2 => by
        rw [hS]
        exact ⟨h1.cell, h2.cell 0 rfl, h2.cell 1 rfl, h2.cell 2 rfl, h2.cell 3 rfl, h2.cell 4 rfl, h2.cell 5 rfl, h2.cell 6 rfl⟩
      have hS0 : S w4.drew := hS1 _ HV4.out.bc HR4.out
      have HS1 := Lib.hid hS1
      clear hS1
      obtain ⟨W5, hW5⟩ : ∃ W5, w4.drew.alloc (.cells #[.int .i64 x.k, .int .i64 x.m, .int .i64 x.p, .int .i64 x.a, .int .i64 x.h, .int .i64 x.u, .int .i64 x.l] 58) = W5 := ⟨_, rfl⟩
      have l5 : Later w4 W5 := hW5 ▸ (show Later w4 (w4.drew.alloc _) from ((later_drewN w4 1).put _))
      have n5 : At W5 w4.heap.size (wc x).toArray := hW5 ▸ At.new w4.drew _ _
      have HV5 := Lib.hid (HV4.out.later l5)
      have HROW5 := Lib.hid (HROW.out.later l5)
      have HWL5 := Lib.hid (HWL.out.later l5)
      have HR5 := Lib.hid (HR4.out.later l5)
      have HN5 := Lib.hid n5
      have HS5 := Lib.hid (HS1.out _ HV5.out.bc HR5.out)
      have HL5 := Lib.hid l5
      clear l5 n5
      have TAILS : Hid (∀ v' w6, WL w6 w.heap.size v' (Ka.wns k xs ++ [x]) → W5.grownBy w6 v.ownBlock → S w6 ∧ w6.cell? ⟨B, 36, none⟩ = some v ∧ w6.frozen? ⟨B, 36, none⟩ = false ∧ S (w6.setCell ⟨B, 36, none⟩ v') ∧ WI w B c u r .nilIface xs { L with state := .busy } (k + 1) (w6.setCell ⟨B, 36, none⟩ v')) := Lib.hid (fun v' w6 ho hg => by
        have qb : Wb.heap.size ≠ B := by have := HQB.out; omega
        have r6 := row_apart HWL5.out hg (by decide) HROW5.out
        have b6 := row_apart HWL5.out hg (by decide) (show Row w.heap.size 74 #[.pointer (some ⟨B, 0, none⟩)] W5 from HV5.out.bc)
        have q6 : Row Wb.heap.size 58 (wc x).toArray w6 := HR5.out.grown hg (fun e => by have := HVB.out _ e.symm; omega)
        have ho' : WL w6 w.heap.size v' (Ka.wns (k + 1) xs) := by
          rw [wns_snoc, HCH.out, HXW.out]
          exact ho
        refine ⟨HS1.out _ b6 q6, r6.cell 36 rfl, r6.frozen 36, HS1.out _ ?_ (q6.apart _ _ _ qb), HV5.out.more hBw hk7 HROW5.out HWL5.out hg ho'⟩
        exact (show Row w.heap.size 74 #[.pointer (some ⟨B, 0, none⟩)] w6 from b6).apart _ _ _ (by omega))
      refine wpIn_region_held' S (by kernel_rfl) (fun _ => trivial) (by kernel_rfl) ?_
      refine wpAnyH_take (i := 0) (v := .pointer (some ⟨B, 0, none⟩)) rfl (by kernel_rfl) (by kernel_rfl) (by kernel_rfl) (fun _ _ _ h => h) (Or.inl ⟨by rfl, ?_⟩) hS0 ?_
      · intro W hW
        rw [hS] at hW
        obtain ⟨hc, e0, e1, e2, e3, e4, e5, e6⟩ := hW
        go_simp
      refine wpAnyH_take (i := 1) (v := .pointer (some ⟨B, 0, none⟩)) rfl (by kernel_rfl) (by kernel_rfl) (by kernel_rfl) (fun _ _ _ h => h) (Or.inl ⟨by rfl, ?_⟩) hS0 ?_
      · intro W hW
        rw [hS] at hW
        obtain ⟨hc, e0, e1, e2, e3, e4, e5, e6⟩ := hW
        go_simp
      refine wpAnyH_take (i := 2) (v := .pointer (some ⟨B, 0, none⟩)) rfl (by kernel_rfl) (by kernel_rfl) (by kernel_rfl) (fun _ _ _ h => h) (Or.inl ⟨by rfl, ?_⟩) hS0 ?_
      · intro W hW
        rw [hS] at hW
        obtain ⟨hc, e0, e1, e2, e3, e4, e5, e6⟩ := hW
        go_simp
      refine wpAnyH_take (i := 3) (v := .pointer (some ⟨B, 36, none⟩)) rfl (by kernel_rfl) (by kernel_rfl) (by kernel_rfl) (fun _ _ _ h => h) (Or.inl ⟨by rfl, ?_⟩) hS0 ?_
      · intro W hW
        rw [hS] at hW
        obtain ⟨hc, e0, e1, e2, e3, e4, e5, e6⟩ := hW
        go_simp
      refine wpAnyH_take (i := 5) (v := (.agg #[.int .i64 x.k, .int .i64 x.m, .int .i64 x.p, .int .i64 x.a, .int .i64 x.h, .int .i64 x.u, .int .i64 x.l])) rfl (by kernel_rfl) (by kernel_rfl) (by kernel_rfl) (fun _ _ _ h => h) (Or.inl ⟨by rfl, ?_⟩) hS0 ?_
      · intro W hW
        rw [hS] at hW
        obtain ⟨hc, e0, e1, e2, e3, e4, e5, e6⟩ := hW
        go_simp
      refine wpAnyH_ready (rs := [4, 6]) (by kernel_rfl) (by simp) (AllReadyH.cons rfl (fun K hK => ?_) (AllReadyH.cons rfl (fun K hK => ?_) AllReadyH.nil))
      · have c36 := HROW.out.cell 36 (show _ = some v from rfl)
        have c36' : w4.drew.cell? ⟨B, 36, none⟩ = some v := c36
        refine ite_yes rfl ?_
        unfold Oper.wp
        go_simp
        refine hK.out _ _ hS0 (fun _ => ?_)
        clear hK K
        refine wpAnyH_ready (rs := [6]) (by kernel_rfl) (by simp) (AllReadyH.cons rfl (fun K hK => ?_) AllReadyH.nil)
        refine ite_yes rfl ?_
        unfold Oper.wp
        go_simp
        refine hK.out _ _ HS5.out (fun _ => ?_)
        clear hK K c36 c36'
        refine wpAnyH_ready (rs := [7]) (by kernel_rfl) (by simp) (AllReadyH.cons rfl (fun K hK => ?_) AllReadyH.nil)
        refine step_append_wins rfl (.tmp 21) (.tmp 23) rfl w.heap.size v ⟨w4.heap.size, 0, none⟩ 1 1 (Ka.wns k xs) [x] rfl rfl HWL5.out (fun j y hy => by rw [By.add_zero]; exact HN5.out j y (by simpa [fl] using hy)) rfl (by rw [wns_len]; simp; omega) (by have := HV5.out.but.size; exact this) ?_
        intro v' w6 ho6 hg6
        obtain ⟨g', cap', rfl⟩ := wl_succ ho6
        obtain ⟨s6, c6, f6, t6, i6⟩ := TAILS.out _ w6 ho6 hg6
        have HI6 := Lib.hid i6
        clear i6 ho6 hg6
        refine hK.out _ _ s6 (fun _ => ?_)
        clear hK K
        refine wpAnyH_take (i := 8) (v := .pointer (some ⟨B, 0, none⟩)) rfl (by kernel_rfl) (by kernel_rfl) (by kernel_rfl) (fun _ _ _ h => h) (Or.inl ⟨by rfl, ?_⟩) s6 ?_
        · intro W hW
          go_simp
        refine wpAnyH_take (i := 9) (v := .pointer (some ⟨B, 36, none⟩)) rfl (by kernel_rfl) (by kernel_rfl) (by kernel_rfl) (fun _ _ _ h => h) (Or.inl ⟨by rfl, ?_⟩) s6 ?_
        · intro W hW
          go_simp
        refine wpAnyH_ready (rs := [10]) (by kernel_rfl) (by simp) (AllReadyH.cons rfl (fun K hK => ?_) AllReadyH.nil)
        refine ite_yes rfl ?_
        unfold Oper.wp
        go_simp
        refine hK.out _ _ t6 (fun _ => ?_)
        clear hK K
        refine wpAnyH_done (by kernel_rfl) ⟨rfl, ?_⟩ _
        gi_wp2
        refine ⟨_, _, run_endRound none HI6.out.lp, .inl ⟨rfl, ?_⟩⟩
        have e : ({ { L with state := .busy } with state := if (none : Option Code).isNone then .ready else .done, pending := none } : Loop) = L := by
          have a1 := H1.out
          have a2 := H2.out
          cases L
          simp_all
        rw [e]
        exact HI6.out.put (L' := L) hBw
      · refine ite_yes rfl ?_
        unfold Oper.wp
        go_simp
        refine hK.out _ _ HS5.out (fun _ => ?_)
        clear hK K
        refine wpAnyH_ready (rs := [4]) (by kernel_rfl) (by simp) (AllReadyH.cons rfl (fun K hK => ?_) AllReadyH.nil)
        have c36 := HROW5.out.cell 36 (show _ = some v from rfl)
        refine ite_yes rfl ?_
        unfold Oper.wp
        go_simp
        refine hK.out _ _ HS5.out (fun _ => ?_)
        clear hK K
        refine wpAnyH_ready (rs := [7]) (by kernel_rfl) (by simp) (AllReadyH.cons rfl (fun K hK => ?_) AllReadyH.nil)
        refine step_append_wins rfl (.tmp 21) (.tmp 23) rfl w.heap.size v ⟨w4.heap.size, 0, none⟩ 1 1 (Ka.wns k xs) [x] rfl rfl HWL5.out (fun j y hy => by rw [By.add_zero]; exact HN5.out j y (by simpa [fl] using hy)) rfl (by rw [wns_len]; simp; omega) (by have := HV5.out.but.size; exact this) ?_
        intro v' w6 ho6 hg6
        obtain ⟨g', cap', rfl⟩ := wl_succ ho6
        obtain ⟨s6, c6, f6, t6, i6⟩ := TAILS.out _ w6 ho6 hg6
        have HI6 := Lib.hid i6
        clear i6 ho6 hg6
        refine hK.out _ _ s6 (fun _ => ?_)
        clear hK K
        refine wpAnyH_take (i := 8) (v := .pointer (some ⟨B, 0, none⟩)) rfl (by kernel_rfl) (by kernel_rfl) (by kernel_rfl) (fun _ _ _ h => h) (Or.inl ⟨by rfl, ?_⟩) s6 ?_
        · intro W hW
          go_simp
        refine wpAnyH_take (i := 9) (v := .pointer (some ⟨B, 36, none⟩)) rfl (by kernel_rfl) (by kernel_rfl) (by kernel_rfl) (fun _ _ _ h => h) (Or.inl ⟨by rfl, ?_⟩) s6 ?_
        · intro W hW
          go_simp
        refine wpAnyH_ready (rs := [10]) (by kernel_rfl) (by simp) (AllReadyH.cons rfl (fun K hK => ?_) AllReadyH.nil)
        refine ite_yes rfl ?_
        unfold Oper.wp
        go_simp
        refine hK.out _ _ t6 (fun _ => ?_)
        clear hK K
        refine wpAnyH_done (by kernel_rfl) ⟨rfl, ?_⟩ _
        gi_wp2
        refine ⟨_, _, run_endRound none HI6.out.lp, .inl ⟨rfl, ?_⟩⟩
        have e : ({ { L with state := .busy } with state := if (none : Option Code).isNone then .ready else .done, pending := none } : Loop) = L := by
          have a1 := H1.out
          have a2 := H2.out
          cases L
          simp_all
        rw [e]
        exact HI6.out.put (L' := L) hBw
    · obtain ⟨e, he⟩ : ∃ e, cnk xs.length k = e := ⟨_, rfl⟩
      have he' : e = xs.length - 7 * k := by rw [← he]; unfold cnk; omega
      rw [he]
      have HG := Lib.hid (HGW.out (by omega))
      have hsk : ∀ W, Later Wb W → Sk .i64 W (.slice (some ⟨g, 7 * k, none⟩) e e) (xs.drop (7 * k)) := fun W hW => by
        have hl : (xs.drop (7 * k)).length = e := by rw [List.length_drop, he']
        refine ⟨some ⟨g, 7 * k, none⟩, e, by rw [hl], by omega, by omega, by simp, fun i y hy => ⟨g, 7 * k, rfl, ?_⟩⟩
        have hi := (List.getElem?_eq_some_iff.1 hy).1
        have c := HCELL.out (7 * k + i) (by omega)
        rw [List.getElem?_drop] at hy
        rw [List.getD_eq_getElem?_getD, hy] at c
        exact gsome hW (HV.out.but.cell HG.out.2 c)
      have HSK := Lib.hid hsk
      have hrg : Ka.rg 5 xs = false := by
        simp only [Ka.rg]
        simp
        omega
      have HRG := Lib.hid hrg
      have hne : ([(Wb.heap.size, 0), (Wb.heap.size, 1), (Wb.heap.size, 2), (Wb.heap.size, 3), (Wb.heap.size, 4), (Wb.heap.size, 5), (Wb.heap.size, 6)] : List (Nat × Nat)).length ≠ (xs.drop (7 * k)).length := by
        rw [List.length_drop]
        simp
        omega
      have HNE := Lib.hid hne
      clear hsk hrg hne he he'
      gi_wp2_with (refine ⟨trivial, ?_⟩; gi_at_call 66; refine (CallsIn.inRound _ (callsIn_wide.2 (KP.out _ _))).mono ?_; rintro e w3 ⟨p, rfl, hp, hg3⟩; have HP := Lib.hid hp; have HG3 := Lib.hid (off_put hg3); clear hp hg3)
      have PN := Lib.hid (put_no _ (xs.drop (7 * k)) _ p (.slice (some ⟨g, 7 * k, none⟩) e e) (.iface t0 x0) w3 HP.out (HSK.out w3 HG3.out) HNE.out (gsome HG3.out (HV.out.but.cell (by omega) H0.out)))
      have HV3 := Lib.hid (HV.out.later HG3.out)
      have c1 := HV3.out.be.cell
      have f1 := HV3.out.be.frozen
      gi_wp2_with (refine ⟨trivial, ?_⟩; gi_at_call 101; refine (CallsIn.inRound _ (callsIn_wide.2 PN.out)).mono ?_; rintro e w4 ⟨rfl, rfl⟩)
      have lp' : (w3.setCell ⟨w.heap.size + 1, 0, none⟩ (.iface t0 x0)).heap[w.heap.size + 1 + 1 + 1 + 1 + 1]? = some (.loop { L with state := .busy }) := (Below.heap_setCell _ _ _ _ (by show _ ≠ w.heap.size + 1; omega)).trans HV3.out.lp
      exact ⟨_, _, run_endRound (some .ret) lp', .inr ⟨rfl, HRG.out, HV3.out.left _ (by simp) rfl⟩⟩
  have STEP := Lib.hid step
  clear step
  refine (chunk1_in (5 - 1) (by omega) g xs.length cap ad HAD.out hcap (by omega) (w.heap.size + 1 + 1 + 1 + 1 + 1) (w.heap.size + 1 + 1) (w.heap.size + 1 + 1 + 1) (WI w B c u r .nilIface xs L) (fun W' => Ka.rg 5 xs = false ∧ WX w B (.iface t0 x0) W') _
    (fun k W h => by rw [← HER.out]; exact ⟨h.br.cell, h.bn.cell⟩) (fun k W W' h g => h.later g) STEP.out HQ.out).mono ?_
  have LP := Lib.hid l2
  have LST : L.state ≠ .busy := by rw [l1]; simp
  clear STEP HQ l1 l2 l3 l4 l5 l6 M
  rintro e W2 ⟨⟨v, rfl⟩, ⟨k, hk1, hk2, hX⟩ | ⟨hrg, hX⟩⟩
  · have hle := hX.le
    have hlen : xs.length = 7 * k := by omega
    refine ⟨_, _, run_endLoop hX.lp LST, ?_⟩
    obtain ⟨W3, hW3⟩ : ∃ W3, W2.putObj (w.heap.size + 1 + 1 + 1 + 1 + 1) (.loop { L with state := .exhausted }) = W3 := ⟨_, rfl⟩
    rw [hW3, LP.out]
    have HV := Lib.hid (show WI w B c u r .nilIface xs { L with state := .exhausted } k W3 from hW3 ▸ hX.put hBw)
    clear hW3 hX
    have c1 := HV.out.be.cell
    have f1 := HV.out.be.frozen
    dsimp only
    gi_wp2
    have df' : (W3.setCell ⟨w.heap.size + 1, 0, none⟩ .nilIface).heap[w.heap.size + 1 + 1 + 1 + 1]? = some (.deferred (some [])) := (Below.heap_setCell _ _ _ _ (by show _ ≠ w.heap.size + 1; omega)).trans HV.out.df
    have o : ∀ b, b ≠ w.heap.size + 1 + 1 + 1 + 1 → ((W3.setCell ⟨w.heap.size + 1, 0, none⟩ .nilIface).putObj (w.heap.size + 1 + 1 + 1 + 1) (.deferred none)).heap[b]? = (W3.setCell ⟨w.heap.size + 1, 0, none⟩ .nilIface).heap[b]? := fun b hb => World.putObj_heap_other (by omega)
    obtain ⟨v, hrow, hwl⟩ := HV.out.row
    refine ⟨by simp, .inl ⟨_, _, rfl, run_takeDeferred df', ?_⟩⟩
    refine ⟨_, results_one rfl _ _ (w.heap.size + 1) .nilIface rfl ((World.cell?_of_block (o _ (by dsimp only; omega))).trans (Boxed.set .nilIface HV.out.be).cell), ?_⟩
    have ek : xs.length / 7 = k := by omega
    have er : Ka.rg 5 xs = true := by
      simp only [Ka.rg]
      simp
      omega
    refine ⟨but_taken (HV.out.but.setNew (by omega) 0 _) df', .inl ⟨er, rfl, v, ?_, ?_⟩⟩
    · have e : cc (cws c (Ka.wns k xs)) u v = cc (Ka.pt c 5 xs) u v := by kernel_rfl
      rw [e] at hrow
      exact (o _ (by omega)).trans (hrow.apart _ _ _ (by omega))
    · show WL _ w.heap.size v (Ka.wns (xs.length / 7) xs)
      rw [ek]
      exact ownsRow_putObj ((show WL W3 w.heap.size v _ from hwl).kept (grownBy_setCell' W3 (w.heap.size + 1) .nilIface) (.inr (HV.out.be.not_row (by decide) hwl).symm)) _ df' rfl
  · obtain ⟨L', p1, p2, hR⟩ := hX
    refine ⟨_, _, run_endLoop hR.2.2.2 p1, ?_⟩
    obtain ⟨W3, hW3⟩ : ∃ W3, W2.putObj (w.heap.size + 1 + 1 + 1 + 1 + 1) (.loop { L' with state := .exhausted }) = W3 := ⟨_, rfl⟩
    rw [hW3, p2]
    have HV := Lib.hid (show But B w W3 ∧ Boxed W3 (w.heap.size + 1) 65 (.iface t0 x0) ∧ W3.heap[w.heap.size + 1 + 1 + 1 + 1]? = some (.deferred (some [])) from hW3 ▸ WX.put ⟨L', p1, p2, hR⟩ _)
    clear hW3 hR p1 p2
    have c1 := HV.out.2.1.cell
    show (Code.ret).wpIn Fence.wide 5 Tryz.prog _ _ W3
    gi_wp2
    refine ⟨by simp, .inl ⟨_, _, rfl, run_takeDeferred HV.out.2.2, ?_⟩⟩
    refine ⟨_, results_one rfl _ _ (w.heap.size + 1) (.iface t0 x0) rfl ((World.cell?_of_block (World.putObj_heap_other (by dsimp only; omega))).trans c1), ?_⟩
    exact ⟨but_taken HV.out.1 HV.out.2.2, .inr ⟨hrg, .inl rfl⟩⟩

end Go.Proofs.YtpkjbcgmhkkfiaaGreatDoor.Cod

/- What readRows answers, by the program. Conditions: as each theorem states. -/
namespace Go.Proofs.YtpkjbcgmhkkfiaaGreatDoor.Cod
set_option maxRecDepth 100000
open Go.ChangeShapes Go.WideShapes Go.ChangeAt Go.RowKit Go.Shelf
open Go.Proofs.YtpkjbcgmhkkfiaaGreatDoor.Divs Go.Proofs.YtpkjbcgmhkkfiaaGreatDoor.Grow Go.Proofs.YtpkjbcgmhkkfiaaGreatDoor.Zone
open Go.Proofs.YtpkjbcgmhkkfiaaGreatDoor.By (Sk SL)
open Go.Proofs.YtpkjbcgmhkkfiaaGreatDoor.Zo Go.Proofs.YtpkjbcgmhkkfiaaGreatDoor.Su Go.Proofs.YtpkjbcgmhkkfiaaGreatDoor.Cf Go.Proofs.YtpkjbcgmhkkfiaaGreatDoor.Conf

/-- The cells in which all is 0. -/
def zr : Array Value := cc Ka.c0 (.slice none 0 0) (.slice none 0 0)

theorem results_two {fn : Func} {p q : Tmp} (h : fn.results = #[.cell p 33, .tmp q]) (tmps : Array Value) (W : World) (g : Nat) (C : Array Value) (hC : C.size = 37) (hp : tmps.getD p undef = .pointer (some ⟨g, 0, none⟩)) (hA : At W g C) :
    (results fn tmps).run Tryz.prog W = .ok (.tuple #[.agg C, tmps.getD q undef]) W := by
  have hi : (Tryz.prog.info? 33).map (·.size) = some C.toList.length := by
    rw [Array.length_toList, hC]
    kernel_rfl
  have := run_loadVar_mid (P := Tryz.prog) W g 0 33 C.toList _ (fun j v hv => by rw [Nat.zero_add]; exact hA j v (by simpa using hv)) Tryz.underlying33 rfl hi
  rw [results_cell_tmp h, hp]
  simp [asAddr, this, Result.andThen]

/-- An error of this number, as it is told inside. -/
inductive ErrV (a0 a1 : Addr) (n : Int) (E : Value) : Prop where
  | num : E = .iface 37 (.int .i64 n) → ErrV a0 a1 n E
  | row (i : Int) : E = .iface 119 (.agg #[.int .i64 i, .iface 37 (.int .i64 n)]) → ErrV a0 a1 n E
  | mark (i : Int) (a : Addr) : (a = a0 ∨ a = a1) → n = 112 → E = .iface 119 (.agg #[.int .i64 i, .iface 175 (.pointer (some a))]) → ErrV a0 a1 n E

/-- The functions that put the rows. -/
def fns : Array Value := #[.func (.func 98) #[] #[], .func (.func 99) #[] #[], .func (.func 100) #[] #[], .func (.func 102) #[] #[], .func (.func 103) #[] #[], .func (.func 104) #[] #[]]

theorem putters_any (w : World) : Calls Tryz.prog 78 #[] w fun e w' => e = .returned (.slice (some ⟨w.heap.size, 0, none⟩) 6 6) ∧ w' = w.alloc (.cells fns 115) := by
  go_enter Tryz.func78, Tryz.ntmps78
  go_wp2_with fail
  go_ret
  exact ⟨rfl, rfl⟩

theorem putter (k : Nat) (hk : k < 6) : ∃ F : FuncId, fns[k]? = some (.func (.func F) #[] #[]) ∧ (∀ args w, (callFunc F args).run Tryz.prog w = .ok (.enter F args) w) ∧
    ∀ (B b : Nat) (c : Cg) (u r : Value) (t0 t1 : TypeId) (x0 x1 : Value) (xs : List Int) (w : World), Row B 33 (cc c u (.slice none 0 0)) w → SL .i64 3 w b r xs → xs.length ≤ 112 → w.cell? ⟨0, 0, none⟩ = some (.iface t0 x0) → w.cell? ⟨1, 0, none⟩ = some (.iface t1 x1) → 2 ≤ B →
      Calls Tryz.prog F #[.pointer (some ⟨B, 0, none⟩), r] w (Put k B c u (.slice none 0 0) r xs (.iface t0 x0) (.iface t1 x1) w) := by
  have : k = 0 ∨ k = 1 ∨ k = 2 ∨ k = 3 ∨ k = 4 ∨ k = 5 := by omega
  rcases this with rfl | rfl | rfl | rfl | rfl | rfl
  · exact ⟨_, rfl, enters_of Tryz.func98 (by kernel_rfl) rfl, fun B b c u r t0 t1 x0 x1 xs w h1 h2 h3 h4 h5 h6 => put_building B b c u _ r t0 t1 x0 x1 xs w h1 h2 h4 h5 h6⟩
  · exact ⟨_, rfl, enters_of Tryz.func99 (by kernel_rfl) rfl, fun B b c u r t0 t1 x0 x1 xs w h1 h2 h3 h4 h5 h6 => put_stops B b c u _ r _ _ xs w h1 h2⟩
  · exact ⟨_, rfl, enters_of Tryz.func100 (by kernel_rfl) rfl, fun B b c u r t0 t1 x0 x1 xs w h1 h2 h3 h4 h5 h6 => put_times B b c u _ r _ _ xs w h1 h2 h4⟩
  · exact ⟨_, rfl, enters_of Tryz.func102 (by kernel_rfl) rfl, fun B b c u r t0 t1 x0 x1 xs w h1 h2 h3 h4 h5 h6 => put_zone B b c u _ r _ _ xs w h1 h2 h4⟩
  · exact ⟨_, rfl, enters_of Tryz.func103 (by kernel_rfl) rfl, fun B b c u r t0 t1 x0 x1 xs w h1 h2 h3 h4 h5 h6 => put_sun B b c u _ r _ _ xs w h1 h2 h4⟩
  · exact ⟨_, rfl, enters_of Tryz.func104 (by kernel_rfl) rfl, fun B b c u r t0 t1 x0 x1 xs w h1 h2 h3 h4 h5 h6 => put_windows B b c u r t0 x0 _ xs w h1 h2 h3 h4 (by omega)⟩

theorem pt_st (c : Cg) (k : Nat) (r : List Int) (hk : k < 6) : (Ka.pt c k r).st = if k = 1 then r else c.st := by
  have : k = 0 ∨ k = 1 ∨ k = 2 ∨ k = 3 ∨ k = 4 ∨ k = 5 := by omega
  rcases this with rfl | rfl | rfl | rfl | rfl | rfl <;> rfl

theorem pt_ws (c : Cg) (k : Nat) (r : List Int) (hk : k < 5) : (Ka.pt c k r).ws = c.ws := by
  have : k = 0 ∨ k = 1 ∨ k = 2 ∨ k = 3 ∨ k = 4 := by omega
  rcases this with rfl | rfl | rfl | rfl | rfl <;> rfl

theorem but_own {B b m n : Nat} {e t : TypeId} {v : Value} {xs : List Value} {D : Array Value} {W W' : World} (h : W.ownsRow b e m v n xs) (g : But B W W') (hR : Row B t D W) (ht : t ≠ e) : W'.ownsRow b e m v n xs := by
  refine ⟨h.1, ?_⟩
  rcases h.2 with h2 | ⟨k, cap, cur, hv, h1, h2, h3⟩
  · exact .inl h2
  · refine .inr ⟨k, cap, cur, hv, h1, ?_, h3⟩
    have hne : k ≠ B := by
      subst hv
      exact fun e => row_ne hR h ht e.symm
    exact (g.2.2.2 k (Array.getElem?_eq_some_iff.1 h2).1 hne).trans h2

def RR (bs : List Int) (w : World) (g : Nat) (a i : Value) (wr : World) : Prop :=
  ∃ (k : Nat) (c : Cg) (u v : Value) (p : Int), k ≤ 6 ∧ i = .int .i64 (k : Int) ∧ a = .int .i64 p ∧ Row (w.heap.size + 1) 33 (cc c u v) wr ∧ Row w.heap.size 33 zr wr ∧ Row g 115 fns wr ∧ SL .i64 3 wr 0 u c.st ∧ WL wr 0 v c.ws ∧ (k ≤ 5 → v = .slice none 0 0 ∧ c.ws = []) ∧
    Ka.dr bs 6 0 0 Ka.c0 = Ka.dr bs (6 - k) k p c ∧ Later w wr

end Go.Proofs.YtpkjbcgmhkkfiaaGreatDoor.Cod

/- What readRows answers, by the program. Conditions: as each theorem states. -/
namespace Go.Proofs.YtpkjbcgmhkkfiaaGreatDoor.Cod
set_option maxRecDepth 100000
open Go.ChangeShapes Go.WideShapes Go.ChangeAt Go.RowKit Go.Shelf
open Go.Proofs.YtpkjbcgmhkkfiaaGreatDoor.Divs Go.Proofs.YtpkjbcgmhkkfiaaGreatDoor.Grow Go.Proofs.YtpkjbcgmhkkfiaaGreatDoor.Zone
open Go.Proofs.YtpkjbcgmhkkfiaaGreatDoor.By (Sk SL)
open Go.Proofs.YtpkjbcgmhkkfiaaGreatDoor.Zo Go.Proofs.YtpkjbcgmhkkfiaaGreatDoor.Su Go.Proofs.YtpkjbcgmhkkfiaaGreatDoor.Cf Go.Proofs.YtpkjbcgmhkkfiaaGreatDoor.Conf
open Go.Proofs.YtpkjbcgmhkkfiaaGreatDoor.Wi (grow)

theorem wl_base {W : World} {b c : Nat} {v : Value} {ws : List Wn} (h : WL W b v ws) (hb : c ≤ b) : WL W c v ws := by
  refine ⟨h.1, ?_⟩
  rcases h.2 with h | ⟨g, cap, cur, hv, h1, h2⟩
  · exact .inl h
  · exact .inr ⟨g, cap, cur, hv, Nat.le_trans hb h1, h2⟩

theorem own_same {B b m n : Nat} {e t : TypeId} {v : Value} {xs : List Value} {D : Array Value} {W W' : World} (h : W.ownsRow b e m v n xs) (g : ∀ k, k ≠ B → W'.heap[k]? = W.heap[k]?) (hR : Row B t D W) (ht : t ≠ e) : W'.ownsRow b e m v n xs := by
  refine ⟨h.1, ?_⟩
  rcases h.2 with h2 | ⟨k, cap, cur, hv, h1, h2, h3⟩
  · exact .inl h2
  · refine .inr ⟨k, cap, cur, hv, h1, ?_, h3⟩
    have hne : k ≠ B := by
      subst hv
      exact fun e => row_ne hR h ht e.symm
    exact (g k hne).trans h2

theorem zr_one : zr.all (·.oneCell') = true := cc_one _ _ _ _ _ _ _

/-- What readRows leaves. -/
def Rd (a0 a1 : Addr) (bs : List Int) (w : World) (e : Ending) (w' : World) : Prop :=
  ∃ D E, e = .returned (.tuple #[.agg D, E]) ∧ Later w w' ∧ (((Ka.d6 bs).2 = 0 ∧ E = .nilIface ∧ ∃ u v, D = cc (Ka.d6 bs).1 u v ∧ SL .i64 3 w' 0 u (Ka.d6 bs).1.st ∧ WL w' 0 v (Ka.d6 bs).1.ws) ∨ ((Ka.d6 bs).2 ≠ 0 ∧ ErrV a0 a1 (Ka.d6 bs).2 E ∧ D = zr))

theorem d6_err {bs : List Int} (h : (Ka.dr bs 6 0 0 Ka.c0).2.2 ≠ 0) : (Ka.d6 bs).2 = (Ka.dr bs 6 0 0 Ka.c0).2.2 := by
  unfold Ka.d6
  rw [if_neg h]

theorem dr_no1 {bs : List Int} {j k : Nat} {p : Int} {c : Cg} (h : (grow bs p 112).2.2 ≠ 0) : (Ka.dr bs (j + 1) k p c).2.2 = (grow bs p 112).2.2 := by
  rw [Ka.dr, if_neg h]

theorem dr_no2 {bs : List Int} {j k : Nat} {p : Int} {c : Cg} (h : (grow bs p 112).2.2 = 0) (hr : Ka.rg k (grow bs p 112).1 = false) : (Ka.dr bs (j + 1) k p c).2.2 = 112 := by
  rw [Ka.dr, if_pos h, if_neg (by rw [hr]; simp)]

theorem dr_yes {bs : List Int} {j k : Nat} {p : Int} {c : Cg} (h : (grow bs p 112).2.2 = 0) (hr : Ka.rg k (grow bs p 112).1 = true) : Ka.dr bs (j + 1) k p c = Ka.dr bs j (k + 1) (grow bs p 112).2.1 (Ka.pt c k (grow bs p 112).1) := by
  rw [Ka.dr, if_pos h, if_pos hr]

theorem grow_len (bs : List Int) (p m : Int) (h : (grow bs p m).2.2 = 0) (hb : ∀ x ∈ bs, 0 ≤ x ∧ x ≤ 255) : ((grow bs p m).1.length : Int) ≤ m := by
  by_cases hp : 0 ≤ p ∧ p ≤ bs.length
  · obtain ⟨q, rfl⟩ := Int.eq_ofNat_of_zero_le hp.1
    obtain ⟨_, _, _, _, h4, _⟩ := Ka.grow_ok bs hb q m h
    exact h4
  · have hE : Wi.gE bs p = 80 := by unfold Wi.gE; rw [if_neg hp]
    unfold grow at h
    rw [if_neg (by omega)] at h
    simp only at h
    omega

set_option maxHeartbeats 4000000 in
theorem rows_read (bs : List Int) (v : Value) (w : World) (hs : Sk .u8 w v bs) (hb : ∀ x ∈ bs, 0 ≤ x ∧ x ≤ 255) (a0 a1 : Addr) (h0 : w.cell? ⟨0, 0, none⟩ = some (.iface 175 (.pointer (some a0)))) (h1 : w.cell? ⟨1, 0, none⟩ = some (.iface 175 (.pointer (some a1)))) :
    Calls Tryz.prog 60 #[v] w (Rd a0 a1 bs w) := by
  have G := Lib.hid (fun p W (g : Later w W) => Wire.getrow_any bs p 112 v W (hs.later g) hb (by omega))
  have GL := Lib.hid (fun p h => grow_len bs p 112 h hb)
  have KP := Lib.hid (fun W => putters_any W)
  obtain ⟨ad, cap, rfl, hm⟩ := hs.len
  have hw1 := World.block_lt_of_cell? _ _ h1
  have H0 := Lib.hid h0
  have H1 := Lib.hid h1
  have HW1 := Lib.hid hw1
  have e0 := Row.new w zr 33
  have e1 := Row.new (w.alloc (.cells zr 33)) zr 33
  rw [size_one] at e1
  have HL0 : Hid (∀ W, W = (w.alloc (.cells zr 33)).alloc (.cells zr 33) → Row w.heap.size 33 zr W ∧ Row (w.heap.size + 1) 33 zr W ∧ Later w W) := Lib.hid (fun W h => h ▸ ⟨e0.later ((Later.refl _).put _), e1, ((Later.refl w).put _).put _⟩)
  clear hs h0 h1 e0 e1
  go_enter Tryz.func60, Tryz.ntmps60
  go_wp2_with fail
  obtain ⟨f1, f2, f3⟩ := HL0.out _ rfl
  refine (KP.out _).mono ?_
  rintro e w1 ⟨rfl, rfl⟩
  have F1 := Lib.hid (f1.later ((Later.refl _).put (.cells fns 115)))
  have F2 := Lib.hid (f2.later ((Later.refl _).put (.cells fns 115)))
  have F3 := Lib.hid (gtrans f3 ((Later.refl _).put (.cells fns 115)))
  have F4 : Hid (Row (w.heap.size + 2) 115 fns (((w.alloc (.cells zr 33)).alloc (.cells zr 33)).alloc (.cells fns 115))) := Lib.hid (by
    have h := Row.new ((w.alloc (.cells zr 33)).alloc (.cells zr 33)) fns 115
    rwa [size_one, size_one] at h)
  clear f1 f2 f3 HL0 KP
  go_wp2_with fail
  go_loopw [5, 14] (fun a i wr => RR bs w (w.heap.size + 2) a i wr) (fun _ i _ => 6 - (intOf i).toNat)
  case atStart => exact ⟨0, Ka.c0, .slice none 0 0, .slice none 0 0, 0, by omega, rfl, rfl, F2.out, F1.out, F4.out, SL.nil _ _ _ _, World.ownsRow_nil _ _ _ _, fun _ => ⟨rfl, rfl⟩, rfl, F3.out⟩
  case round =>
    obtain ⟨k, c, u, vv, p, hk, rfl, rfl, hrow, hz, hf, hu, hv, h5, hd, hg⟩ := hrel
    have HR := Lib.hid hrow
    have HZ := Lib.hid hz
    have HF := Lib.hid hf
    have HU := Lib.hid hu
    have HV := Lib.hid hv
    have HD := Lib.hid hd
    have HG := Lib.hid hg
    clear hrow hz hf hu hv hd hg
    by_cases hlt : k < 6
    · obtain ⟨rfl, hws⟩ := h5 (by omega)
      have HWS := Lib.hid hws
      obtain ⟨F, hF, eF, pF⟩ := putter k hlt
      have c1 := HF.out.cell k hF
      have PF := Lib.hid pF
      have HK := Lib.hid hlt
      obtain ⟨j, hj⟩ : ∃ j, 6 - k = j + 1 := ⟨5 - k, by omega⟩
      have HJ := Lib.hid hj
      rw [hj] at HD
      clear hws hF pF h5 hj
      go_wp2_with fail
      refine (G.out p _ HG.out).mono ?_
      rintro e w3 ⟨r, rfl, hr, hg3⟩
      have HR3 := Lib.hid hr
      have HG3 := Lib.hid (gtrans HG.out hg3)
      have R3 := Lib.hid (HR.out.later hg3)
      have Z3 := Lib.hid (HZ.out.later hg3)
      have F3' := Lib.hid (HF.out.later hg3)
      have U3 := Lib.hid (HU.out.later hg3)
      clear hr hg3 c1
      obtain ⟨Q, hQ⟩ : ∃ Q, Wi.grow bs p 112 = Q := ⟨_, rfl⟩
      have HQ := Lib.hid hQ
      rw [hQ] at HR3 ⊢
      clear hQ
      by_cases hE : Q.2.2 = 0
      · have t : (Q.2.2 != 0) = false := by simpa using hE
        have HE := Lib.hid hE
        clear hE
        go_wp2_with fail
        refine (PF.out (w.heap.size + 1) _ c u r _ _ _ _ Q.1 w3 R3.out HR3.out (by have := GL.out p (by rw [HQ.out]; exact HE.out); rw [HQ.out] at this; omega) (gsome HG3.out H0.out) (gsome HG3.out H1.out) (by have := HW1.out; omega)).mono ?_
        rintro e w4 ⟨hb4, hcase⟩
        have HB4 := Lib.hid hb4
        have HG4 := Lib.hid (hb4.later HG3.out (by omega))
        have Z4 := Lib.hid (hb4.row (by omega) Z3.out)
        have F4' := Lib.hid (hb4.row (by omega) F3'.out)
        rcases hcase with ⟨hrg, rfl, v', hr4, hw4⟩ | ⟨hrg, he⟩
        · have HRG := Lib.hid hrg
          have HR4 := Lib.hid hr4
          have HW4 := Lib.hid hw4
          clear hb4 hrg hr4 hw4
          go_wp2_with fail
          go_roundw
          case rel =>
            refine ⟨k + 1, Ka.pt c k Q.1, if k = 1 then r else u, v', Q.2.1, by have := HK.out; omega, by go_num, rfl, HR4.out, Z4.out, F4'.out, ?_, ?_, ?_, ?_, HG4.out⟩
            · rw [pt_st c k _ HK.out]
              by_cases h1 : k = 1
              · rw [if_pos h1, if_pos h1]
                exact but_own (By.SL.base HR3.out (Nat.zero_le _)) HB4.out R3.out (by decide)
              · rw [if_neg h1, if_neg h1]
                exact but_own U3.out HB4.out R3.out (by decide)
            · have h := HW4.out
              by_cases h5 : k = 5
              · rw [if_pos h5] at h
                exact wl_base h (Nat.zero_le _)
              · rw [if_neg h5] at h
                rw [h, pt_ws c k _ (by have := HK.out; omega), HWS.out]
                exact World.ownsRow_nil _ _ _ _
            · intro hk5
              have h := HW4.out
              rw [if_neg (by omega)] at h
              exact ⟨h, by rw [pt_ws c k _ (by omega), HWS.out]⟩
            · rw [HD.out, dr_yes (by rw [HQ.out]; exact HE.out) (by rw [HQ.out]; exact HRG.out), HQ.out]
              congr 1
              have := HJ.out
              omega
          case measure => have := HK.out; simp [intOf]; omega
        · have HRG := Lib.hid hrg
          have hn : (Ka.d6 bs).2 = 112 := by
            have h2 := dr_no2 (j := j) (c := c) (by rw [HQ.out]; exact HE.out) (by rw [HQ.out]; exact HRG.out)
            rw [← HD.out] at h2
            rw [d6_err (by rw [h2]; decide), h2]
          have HN := Lib.hid hn
          clear hb4 hrg hn
          rcases he with rfl | rfl
          · go_wp2_with (refine store_row rfl (.tmp 2) (.tmp 40) rfl w.heap.size rfl zr rfl zr_one rfl _ rfl Z4.out w HG4.out (Nat.le_refl _) ?_; intro W' hR hL ho)
            refine bodyPost_ret (results_two (fn := Tryz.f60) Tryz.results60 _ _ w.heap.size zr rfl rfl hR.at) rfl ?_
            exact ⟨zr, _, rfl, hL, .inr ⟨by rw [HN.out]; decide, .mark _ a0 (.inl rfl) HN.out rfl, rfl⟩⟩
          · go_wp2_with (refine store_row rfl (.tmp 2) (.tmp 40) rfl w.heap.size rfl zr rfl zr_one rfl _ rfl Z4.out w HG4.out (Nat.le_refl _) ?_; intro W' hR hL ho)
            refine bodyPost_ret (results_two (fn := Tryz.f60) Tryz.results60 _ _ w.heap.size zr rfl rfl hR.at) rfl ?_
            exact ⟨zr, _, rfl, hL, .inr ⟨by rw [HN.out]; decide, .mark _ a1 (.inr rfl) HN.out rfl, rfl⟩⟩
      · have t : (Q.2.2 != 0) = true := by simpa using hE
        have HE := Lib.hid hE
        have hn : (Ka.d6 bs).2 = Q.2.2 := by
          have h2 := dr_no1 (j := j) (k := k) (c := c) (bs := bs) (p := p) (by rw [HQ.out]; exact hE)
          rw [← HD.out, HQ.out] at h2
          rw [d6_err (by rw [h2]; exact hE), h2]
        have HN := Lib.hid hn
        clear hE hn
        go_wp2_with (refine store_row rfl (.tmp 2) (.tmp 28) rfl w.heap.size rfl zr rfl zr_one rfl _ rfl Z3.out w HG3.out (Nat.le_refl _) ?_; intro W' hR hL ho)
        refine bodyPost_ret (results_two (fn := Tryz.f60) Tryz.results60 _ _ w.heap.size zr rfl rfl hR.at) rfl ?_
        exact ⟨zr, _, rfl, hL, .inr ⟨by rw [HN.out]; exact HE.out, by rw [HN.out]; exact .row _ rfl, rfl⟩⟩
    · obtain rfl : k = 6 := by omega
      have hd := HD.out
      have hd' : Ka.dr bs 6 0 0 Ka.c0 = (c, p, 0) := hd
      by_cases hpl : p < (bs.length : Int)
      · have hn : (Ka.d6 bs).2 = 113 := by
          unfold Ka.d6
          rw [hd', if_pos rfl, if_pos hpl]
        have HN := Lib.hid hn
        have t : decide (p < (bs.length : Int)) = true := by simpa using hpl
        clear hn hd hd' hpl h5
        go_wp2_with (refine store_row rfl (.tmp 2) (.tmp 52) rfl w.heap.size rfl zr rfl zr_one rfl _ rfl HZ.out w HG.out (Nat.le_refl _) ?_; intro W' hR hL ho)
        refine bodyPost_ret (results_two (fn := Tryz.f60) Tryz.results60 _ _ w.heap.size zr rfl rfl hR.at) rfl ?_
        exact ⟨zr, _, rfl, hL, .inr ⟨by rw [HN.out]; decide, by rw [HN.out]; exact .num rfl, rfl⟩⟩
      · have hn : Ka.d6 bs = (c, 0) := by
          unfold Ka.d6
          rw [hd', if_pos rfl, if_neg hpl]
        have HN := Lib.hid hn
        have t : decide (p < (bs.length : Int)) = false := by simpa using hpl
        have HI := Lib.hid (show Is wr (cc c u vv) c from ⟨u, vv, rfl, HU.out.sk, HV.out.wk⟩)
        have HS := Lib.hid HI.out.size
        have HO := Lib.hid HI.out.one
        obtain ⟨D, hD⟩ : ∃ D, cc c u vv = D := ⟨_, rfl⟩
        have HDD := Lib.hid hD
        rw [hD] at HR HS HO
        clear hn hd hd' hpl h5 hD HI
        go_wp2_with (first
          | (refine load_at D HS.out rfl (.tmp 4) rfl (w.heap.size + 1) rfl HR.out.at ?_)
          | (refine store_row rfl (.tmp 2) (.tmp 54) rfl w.heap.size rfl D HS.out HO.out rfl _ rfl HZ.out w HG.out (Nat.le_refl _) ?_; intro W' hR hL ho))
        refine bodyPost_ret (results_two (fn := Tryz.f60) Tryz.results60 _ _ w.heap.size D HS.out rfl hR.at) rfl ?_
        refine ⟨D, _, rfl, hL, .inl ⟨by rw [HN.out], rfl, u, vv, ?_, ?_, ?_⟩⟩
        · rw [HN.out]; exact HDD.out.symm
        · rw [HN.out]; exact own_same HU.out ho HZ.out (by decide)
        · rw [HN.out]; exact own_same HV.out ho HZ.out (by decide)

end Go.Proofs.YtpkjbcgmhkkfiaaGreatDoor.Cod

/- What behindHead answers, by the program and the library's own text of bytes.CutPrefix. Conditions: the bytes are bytes. -/
namespace Go.Proofs.YtpkjbcgmhkkfiaaGreatDoor.Cod
set_option maxRecDepth 100000
open Go.ChangeShapes Go.WideShapes Go.ChangeAt Go.RowKit
open Go.Proofs.YtpkjbcgmhkkfiaaGreatDoor.Divs Go.Proofs.YtpkjbcgmhkkfiaaGreatDoor.Grow Go.Proofs.YtpkjbcgmhkkfiaaGreatDoor.Zone
open Go.Proofs.YtpkjbcgmhkkfiaaGreatDoor.By (Sk SL)
open Go.Proofs.YtpkjbcgmhkkfiaaGreatDoor.Conf

theorem str_two (a b : Int) (ha : 0 ≤ a ∧ a ≤ 255) (hb : 0 ≤ b ∧ b ≤ 255) : ((strOfNums [a, b]).toList == (strOfNums [78, 87]).toList) = decide ([a, b] = [78, 87]) := by
  rw [ByteArray.toList_eq, ByteArray.toList_eq, strOfNums_data, strOfNums_data]
  by_cases h : [a, b] = [78, 87]
  · rw [h]
    decide
  · rw [decide_eq_false h]
    apply beq_false_of_ne
    intro e2
    apply h
    simp only [List.map_cons, List.map_nil, List.cons.injEq, and_true] at e2
    obtain ⟨x, y⟩ := e2
    have x' := congrArg UInt8.toNat x
    have y' := congrArg UInt8.toNat y
    simp at x' y'
    simp
    omega

theorem equal_any (u v : Value) (a b : Int) (w : World) (hu : Sk .u8 w u [a, b]) (hv : Sk .u8 w v [78, 87]) (ha : 0 ≤ a ∧ a ≤ 255) (hb : 0 ≤ b ∧ b ≤ 255) :
    Calls Tryz.prog 110 #[u, v] w fun e w' => e = .returned (.bool (decide ([a, b] = [78, 87]))) ∧ w = w' := by
  obtain ⟨g1, o1, c1, rfl, _, _, _, k1⟩ := hu.has (by simp)
  obtain ⟨g2, o2, c2, rfl, _, _, _, k2⟩ := hv.has (by simp)
  have q1 := run_convert_bytes_arg (P := Tryz.prog) w 36 5 Tryz.underlying36 Tryz.underlying5 g1 o1 2 c1 [a, b] rfl k1 9 Tryz.underlying9
  have q2 := run_convert_bytes_arg (P := Tryz.prog) w 36 5 Tryz.underlying36 Tryz.underlying5 g2 o2 2 c2 [78, 87] rfl k2 9 Tryz.underlying9
  have HE := Lib.hid (str_two a b ha hb)
  clear k1 k2 hu hv
  generalize strOfNums [a, b] = s1 at *
  generalize strOfNums [78, 87] = s2 at *
  go_enter Tryz.func110, Tryz.ntmps110
  go_wp2_with fail
  go_ret
  exact ⟨by rw [← HE.out]; rfl, rfl⟩

/-- A slice cut at its start. -/
theorem cut_l {bs : List Int} {v : Value} {w : World} (hs : Sk .u8 w v bs) (l : Nat) (hl : l ≤ bs.length) :
    ∃ ad cap u, v = .slice ad bs.length cap ∧ (∀ W : World, (Instr.slice 36 (.slice ad bs.length cap) (some (.int .i64 (l : Int))) none none).run Tryz.prog W = .ok u W) ∧ Sk .u8 w u (bs.drop l) := by
  obtain ⟨ad, cap, rfl, h1, h2, h3, h4⟩ := hs
  refine ⟨ad, cap, sliced ad l bs.length cap 1, rfl, fun W => ?_, ?_⟩
  · have := run_slice_l (P := Tryz.prog) W 36 ad bs.length cap (by kernel_rfl) .i64 l (by omega) (by omega)
    rw [this]
    go_simp
  · unfold sliced
    refine ⟨if cap = l then ad else ad.map (·.add (l * 1)), cap - l, ?_, ?_, by omega, ?_, ?_⟩
    · rw [List.length_drop]
    · rw [List.length_drop]; omega
    · intro hn
      by_cases e : cap = l
      · omega
      · rw [if_neg e] at hn
        have := h3 (by cases ad with
          | none => rfl
          | some a => simp at hn)
        omega
    · intro i x hx
      have hi := (List.getElem?_eq_some_iff.1 hx).1
      rw [List.length_drop] at hi
      rw [List.getElem?_drop] at hx
      obtain ⟨b, off, rfl, c⟩ := h4 (l + i) x hx
      refine ⟨b, off + l, ?_, ?_⟩
      · rw [if_neg (by omega)]
        simp [Addr.add]
      · rw [Nat.add_assoc]; exact c

theorem prefix_any (bs : List Int) (v u : Value) (w : World) (hs : Sk .u8 w v bs) (hb : ∀ x ∈ bs, 0 ≤ x ∧ x ≤ 255) (hu : Sk .u8 w u [78, 87]) :
    Calls Tryz.prog 97 #[v, u] w fun e w' => e = .returned (.bool (decide (bs.take 2 = [78, 87]))) ∧ Later w w' := by
  by_cases hl : 2 ≤ bs.length
  · match bs, hl with
    | a :: b :: r, hl =>
      obtain ⟨ad, cap, p, rfl, sl, hp⟩ := By.cut_h hs 2 hl
      rw [show ((2 : Nat) : Int) = 2 from rfl] at sl
      have KE := Lib.hid (equal_any p u a b w hp hu (hb a (by simp)) (hb b (by simp)))
      have e2 : (a :: b :: r).take 2 = [a, b] := rfl
      rw [e2]
      obtain ⟨n, hn⟩ : ∃ n, (a :: b :: r).length = n := ⟨_, rfl⟩
      rw [hn] at sl hl ⊢
      have t : decide ((n : Int) ≥ 2) = true := by simp; omega
      generalize decide ([a, b] = [78, 87]) = B at *
      obtain ⟨a2, c2, rfl, _⟩ := hu.len
      clear hs hp hu
      go_enter Tryz.func97, Tryz.ntmps97
      go_wp2_with fail
      refine KE.out.mono ?_
      rintro e w1 ⟨rfl, rfl⟩
      go_wp2_with fail
      go_ret
      exact ⟨rfl, Later.refl _⟩
  · have hd : decide (bs.take 2 = [78, 87]) = false := by
      apply decide_eq_false
      intro e
      have := congrArg List.length e
      rw [List.length_take] at this
      simp at this
      omega
    rw [hd]
    have t : decide ((bs.length : Int) ≥ 2) = false := by simp; omega
    obtain ⟨a1, c1, rfl, _⟩ := hs.len
    obtain ⟨a2, c2, rfl, _⟩ := hu.len
    clear hs hu hd
    go_enter Tryz.func97, Tryz.ntmps97
    go_wp2_with fail
    go_ret
    exact ⟨rfl, Later.refl _⟩

theorem cutp_any (bs : List Int) (v u : Value) (w : World) (hs : Sk .u8 w v bs) (hb : ∀ x ∈ bs, 0 ≤ x ∧ x ≤ 255) (hu : Sk .u8 w u [78, 87]) :
    Calls Tryz.prog 77 #[v, u] w fun e w' => ∃ r, e = .returned (.tuple #[r, .bool (decide (bs.take 2 = [78, 87]))]) ∧ Sk .u8 w' r (if bs.take 2 = [78, 87] then bs.drop 2 else bs) ∧ Later w w' := by
  have KH := Lib.hid (prefix_any bs v u w hs hb hu)
  by_cases h : bs.take 2 = [78, 87]
  · have hl : 2 ≤ bs.length := by
      have := congrArg List.length h
      rw [List.length_take] at this
      simp at this
      omega
    obtain ⟨ad, cap, p, rfl, sl, hp⟩ := cut_l hs 2 hl
    rw [show ((2 : Nat) : Int) = 2 from rfl] at sl
    obtain ⟨a2, c2, rfl, _⟩ := hu.len
    have HP := Lib.hid hp
    rw [decide_eq_true h] at KH ⊢
    rw [if_pos h]
    clear hs hp hu h
    go_enter Tryz.func77, Tryz.ntmps77
    go_wp2_with fail
    refine KH.out.mono ?_
    rintro e w1 ⟨rfl, hg⟩
    go_wp2_with fail
    go_ret2
    exact ⟨_, rfl, HP.out.later hg, hg⟩
  · rw [decide_eq_false h] at KH ⊢
    rw [if_neg h]
    have HS := Lib.hid hs
    clear hs hu h
    go_enter Tryz.func77, Tryz.ntmps77
    go_wp2_with fail
    refine KH.out.mono ?_
    rintro e w1 ⟨rfl, hg⟩
    go_wp2_with fail
    go_ret2
    exact ⟨_, rfl, HS.out.later hg, hg⟩

theorem head_any (bs : List Int) (v : Value) (w : World) (hs : Sk .u8 w v bs) (hb : ∀ x ∈ bs, 0 ≤ x ∧ x ≤ 255) :
    Calls Tryz.prog 59 #[v] w fun e w' => ∃ r E, e = .returned (.tuple #[r, E]) ∧ ((Ka.hE bs = 0 ∧ E = .nilIface ∧ Sk .u8 w' r (bs.drop 3)) ∨ (Ka.hE bs ≠ 0 ∧ E = .iface 37 (.int .i64 (Ka.hE bs)))) ∧ Later w w' := by
  have kc := fun (W : World) (C : Array Value) (n c : Nat) => Lib.run_convert_bytes_const (P := Tryz.prog) W 36 5 C n c Tryz.underlying36 Tryz.underlying5
  have l0 : Later w (w.alloc (.cells #[.int .u8 78, .int .u8 87] 5 (2, 3))) := (Later.refl w).put _
  have HL0 := Lib.hid l0
  have KC := Lib.hid (cutp_any bs v (.slice (some ⟨w.heap.size, 0, none⟩) 2 2) _ (hs.later l0) hb (sk_const w (2, 3) [78, 87] (by simp)))
  clear hs l0
  by_cases h : bs.take 2 = [78, 87]
  · rw [decide_eq_true h, if_pos h] at KC
    by_cases h2 : bs.drop 2 = []
    · have e : Ka.hE bs = 111 := by unfold Ka.hE; rw [if_pos h, if_pos (.inl h2)]
      rw [e]
      rw [h2] at KC
      clear h h2 e
      go_enter Tryz.func59, Tryz.ntmps59
      go_wp2_with fail
      refine KC.out.mono ?_
      rintro e w1 ⟨r, rfl, hr, hg⟩
      obtain ⟨a2, c2, rfl, _⟩ := hr.len
      have HG := Lib.hid (gtrans HL0.out hg)
      clear hr hg
      go_wp2_with fail
      go_ret2
      exact ⟨_, _, rfl, .inr ⟨by decide, rfl⟩, HG.out⟩
    · obtain ⟨x, rs, hx⟩ : ∃ x rs, bs.drop 2 = x :: rs := by
        cases hd : bs.drop 2 with
        | nil => exact absurd hd h2
        | cons x rs => exact ⟨x, rs, rfl⟩
      rw [hx] at KC
      have hd3 : bs.drop 3 = rs := by
        have := congrArg (List.drop 1) hx
        rw [List.drop_drop] at this
        exact this
      rw [hd3]
      by_cases h1 : x = 1
      · have e : Ka.hE bs = 0 := by
          unfold Ka.hE
          rw [if_pos h, hx, if_neg (by simp [h1])]
        rw [e]
        subst h1
        clear h h2 e hx hd3
        go_enter Tryz.func59, Tryz.ntmps59
        go_wp2_with fail
        refine KC.out.mono ?_
        rintro e w1 ⟨r, rfl, hr, hg⟩
        obtain ⟨ad, cap, p, rfl, sl, hp⟩ := cut_l hr 1 (by simp)
        rw [show ((1 : Nat) : Int) = 1 from rfl] at sl
        obtain ⟨g, off, cp, e2, _, _, _, hc⟩ := hr.has (by simp)
        simp only [Value.slice.injEq] at e2
        obtain ⟨rfl, _, rfl⟩ := e2
        have c0 : w1.cell? ⟨g, off, none⟩ = some (.int .u8 1) := hc 0 (by simp)
        have HP := Lib.hid hp
        have HG := Lib.hid (gtrans HL0.out hg)
        obtain ⟨n, hn⟩ : ∃ n, (1 :: rs : List Int).length = n := ⟨_, rfl⟩
        rw [hn] at sl ⊢
        have t : ((n : Int) == 0) = false := by
          have : n = rs.length + 1 := hn.symm
          simp
          omega
        have hn1 : 1 ≤ n := by
          have : n = rs.length + 1 := hn.symm
          omega
        clear hr hg hp hc hn
        go_wp2_with fail
        go_ret2
        exact ⟨_, _, rfl, .inl ⟨trivial, rfl, HP.out⟩, HG.out⟩
      · have e : Ka.hE bs = 111 := by
          unfold Ka.hE
          rw [if_pos h, hx, if_pos (.inr (by simpa using h1))]
        rw [e]
        have t1 : (x != 1) = true := by simpa using h1
        clear h h2 e hx hd3 h1
        go_enter Tryz.func59, Tryz.ntmps59
        go_wp2_with fail
        refine KC.out.mono ?_
        rintro e w1 ⟨r, rfl, hr, hg⟩
        obtain ⟨g, off, cp, rfl, _, _, _, hc⟩ := hr.has (by simp)
        have c0 : w1.cell? ⟨g, off, none⟩ = some (.int .u8 x) := hc 0 (by simp)
        have HG := Lib.hid (gtrans HL0.out hg)
        obtain ⟨n, hn⟩ : ∃ n, (x :: rs : List Int).length = n := ⟨_, rfl⟩
        rw [hn]
        have t : ((n : Int) == 0) = false := by
          have : n = rs.length + 1 := hn.symm
          simp
          omega
        have hn1 : 1 ≤ n := by
          have : n = rs.length + 1 := hn.symm
          omega
        clear hr hg hc hn
        go_wp2_with fail
        go_ret2
        exact ⟨_, _, rfl, .inr ⟨by decide, rfl⟩, HG.out⟩
  · have e : Ka.hE bs = 110 := by unfold Ka.hE; rw [if_neg h]
    rw [e]
    rw [decide_eq_false h, if_neg h] at KC
    clear h e
    go_enter Tryz.func59, Tryz.ntmps59
    go_wp2_with fail
    refine KC.out.mono ?_
    rintro e w1 ⟨r, rfl, hr, hg⟩
    have HG := Lib.hid (gtrans HL0.out hg)
    clear hr hg
    go_wp2_with fail
    go_ret2
    exact ⟨_, _, rfl, .inr ⟨by decide, rfl⟩, HG.out⟩

end Go.Proofs.YtpkjbcgmhkkfiaaGreatDoor.Cod

/- errors.Is and errors.As, as the program calls them: of nothing, of a number, of what is wrong with a row. Conditions: as each theorem states. -/
namespace Go.Proofs.YtpkjbcgmhkkfiaaGreatDoor.Cod
set_option maxRecDepth 100000
open Go.ChangeShapes Go.WideShapes Go.ChangeAt Go.RowKit Go.Extern
open Go.Proofs.YtpkjbcgmhkkfiaaGreatDoor.Divs Go.Proofs.YtpkjbcgmhkkfiaaGreatDoor.Grow Go.Proofs.YtpkjbcgmhkkfiaaGreatDoor.Zone
open Go.Proofs.YtpkjbcgmhkkfiaaGreatDoor.By (Sk SL)
open Go.Proofs.YtpkjbcgmhkkfiaaGreatDoor.Conf

theorem typeOf_err (v : Value) (w : World) : (Extern.ReflectliteType.typeOf #[.iface 175 v]).run Tryz.prog w = .ok (.iface 151 (.agg #[.pointer (some ⟨4, 175, none⟩)])) w := by kernel_rfl
theorem comparable_err (w : World) : ((Extern.ReflectliteType.method fun t => do Extern.Rtype.noPackHeld "Comparable" t; (fun a => Value.bool a.comparable) <$> typeInfo t) #[.agg #[.pointer (some ⟨4, 175, none⟩)]]).run Tryz.prog w = .ok (.bool true) w := by kernel_rfl
theorem err_comp : (Tryz.prog.info? 175).map (·.comparable) = some true := by kernel_rfl
theorem err_size : (Tryz.prog.info? 197).map (·.size) = some 1 := by kernel_rfl

theorem noIs175 (v : Value) (xT : TypeId) (w : World) : (Instr.typeAssert (.iface 175 v) xT 153 true).run Tryz.prog w = .ok (.tuple #[.nilIface, .bool false]) w := run_typeAssert_lacksB Tryz.underlying153 (by kernel_rfl) (by kernel_rfl) v xT w
theorem noUn175 (v : Value) (xT : TypeId) (w : World) : (Instr.typeAssert (.iface 175 v) xT 156 true).run Tryz.prog w = .ok (.tuple #[.nilIface, .bool false]) w := run_typeAssert_lacksB Tryz.underlying156 (by kernel_rfl) (by kernel_rfl) v xT w
theorem noUs175 (v : Value) (xT : TypeId) (w : World) : (Instr.typeAssert (.iface 175 v) xT 158 true).run Tryz.prog w = .ok (.tuple #[.nilIface, .bool false]) w := run_typeAssert_lacksB Tryz.underlying158 (by kernel_rfl) (by kernel_rfl) v xT w
theorem noIs37 (v : Value) (xT : TypeId) (w : World) : (Instr.typeAssert (.iface 37 v) xT 153 true).run Tryz.prog w = .ok (.tuple #[.nilIface, .bool false]) w := run_typeAssert_lacksB Tryz.underlying153 (by kernel_rfl) (by kernel_rfl) v xT w
theorem noUn37 (v : Value) (xT : TypeId) (w : World) : (Instr.typeAssert (.iface 37 v) xT 156 true).run Tryz.prog w = .ok (.tuple #[.nilIface, .bool false]) w := run_typeAssert_lacksB Tryz.underlying156 (by kernel_rfl) (by kernel_rfl) v xT w
theorem noUs37 (v : Value) (xT : TypeId) (w : World) : (Instr.typeAssert (.iface 37 v) xT 158 true).run Tryz.prog w = .ok (.tuple #[.nilIface, .bool false]) w := run_typeAssert_lacksB Tryz.underlying158 (by kernel_rfl) (by kernel_rfl) v xT w
theorem noIs119 (v : Value) (xT : TypeId) (w : World) : (Instr.typeAssert (.iface 119 v) xT 153 true).run Tryz.prog w = .ok (.tuple #[.nilIface, .bool false]) w := run_typeAssert_lacksB Tryz.underlying153 (by kernel_rfl) (by kernel_rfl) v xT w
theorem noAs119 (v : Value) (xT : TypeId) (w : World) : (Instr.typeAssert (.iface 119 v) xT 163 true).run Tryz.prog w = .ok (.tuple #[.nilIface, .bool false]) w := run_typeAssert_lacksB Tryz.underlying163 (by kernel_rfl) (by kernel_rfl) v xT w
theorem hasUn119 (v : Value) (xT : TypeId) (w : World) : (Instr.typeAssert (.iface 119 v) xT 156 true).run Tryz.prog w = .ok (.tuple #[.iface 119 v, .bool true]) w := run_typeAssert_hasB Tryz.underlying156 (by kernel_rfl) v xT w

theorem m151c (v : Value) (w : World) : (Go.method 308 151 v "Comparable").run Tryz.prog w = .ok (140, v) w := by kernel_rfl
theorem m119u (v : Value) (w : World) : (Go.method 308 119 v "Unwrap").run Tryz.prog w = .ok (134, v) w := by kernel_rfl

theorem unwrap_any (i : Int) (t : TypeId) (x : Value) (w : World) : Calls Tryz.prog 134 #[.agg #[.int .i64 i, .iface t x]] w fun e w' => e = .returned (.iface t x) ∧ Later w w' := by
  go_enter Tryz.func134, Tryz.ntmps134
  go_wp2_with fail
  go_ret
  exact ⟨rfl, (Later.refl w).alloc _ _⟩

/-- errors.Is of nothing. -/
theorem is_nil (b : Addr) (w : World) : Calls Tryz.prog 61 #[.nilIface, .iface 175 (.pointer (some b))] w fun e w' => e = .returned (.bool false) ∧ Later w w' := by
  have hn := run_eql_iface_nil_left (P := Tryz.prog) w 175 (.pointer (some b)) Tryz.underlying65
  go_enter Tryz.func61, Tryz.ntmps61
  go_wp2_with fail
  go_ret
  exact ⟨rfl, Later.refl w⟩

theorem is_num (n : Int) (b : Addr) (w : World) : Calls Tryz.prog 61 #[.iface 37 (.int .i64 n), .iface 175 (.pointer (some b))] w fun e w' => e = .returned (.bool false) ∧ Later w w' := by
  have h80 := @run_callFunc_extern Tryz.prog 80 _ Extern.ReflectliteType.typeOf Tryz.func80 (by kernel_rfl) (by kernel_rfl) (by kernel_rfl) (by kernel_rfl)
  have h140 := @run_callFunc_extern Tryz.prog 140 _ (Extern.ReflectliteType.method fun t => do Extern.Rtype.noPackHeld "Comparable" t; pure (.bool (← typeInfo t).comparable)) Tryz.func140 (by kernel_rfl) (by kernel_rfl) (by kernel_rfl) (by kernel_rfl)
  have tT := typeOf_err
  have cT := comparable_err
  have mC := m151c
  have nE := noIs37
  have uE := noUn37
  have vE := noUs37
  have hty := run_eql_iface_types (P := Tryz.prog) 37 175 (.int .i64 n) (.pointer (some b)) Tryz.underlying65 (by decide) w
  go_enter Tryz.func61, Tryz.ntmps61
  go_wp2
  refine wp_loop_rounds 1 ?_
  rw [rounds_succ]
  go_wp2
  go_ret
  exact ⟨rfl, Later.refl w⟩

/-- errors.Is of a row's number. -/
theorem is_row_num (i n : Int) (b : Addr) (w : World) : Calls Tryz.prog 61 #[.iface 119 (.agg #[.int .i64 i, .iface 37 (.int .i64 n)]), .iface 175 (.pointer (some b))] w fun e w' => e = .returned (.bool false) ∧ Later w w' := by
  have h80 := @run_callFunc_extern Tryz.prog 80 _ Extern.ReflectliteType.typeOf Tryz.func80 (by kernel_rfl) (by kernel_rfl) (by kernel_rfl) (by kernel_rfl)
  have h140 := @run_callFunc_extern Tryz.prog 140 _ (Extern.ReflectliteType.method fun t => do Extern.Rtype.noPackHeld "Comparable" t; pure (.bool (← typeInfo t).comparable)) Tryz.func140 (by kernel_rfl) (by kernel_rfl) (by kernel_rfl) (by kernel_rfl)
  have tT := typeOf_err
  have cT := comparable_err
  have mC := m151c
  have nE := noIs37
  have uE := noUn37
  have vE := noUs37
  have nR := noIs119
  have uR := hasUn119
  have mU := m119u
  have hty := fun W => run_eql_iface_types (P := Tryz.prog) 37 175 (.int .i64 n) (.pointer (some b)) Tryz.underlying65 (by decide) W
  have htr := fun W => run_eql_iface_types (P := Tryz.prog) 119 175 (.agg #[.int .i64 i, .iface 37 (.int .i64 n)]) (.pointer (some b)) Tryz.underlying65 (by decide) W
  have U := Lib.hid (unwrap_any i 37 (.int .i64 n) w)
  go_enter Tryz.func61, Tryz.ntmps61
  go_wp2
  refine wp_loop_rounds 2 ?_
  rw [rounds_succ]
  go_wp2_with fail
  refine U.out.mono ?_
  rintro e w1 ⟨rfl, hg1⟩
  go_wp2
  rw [rounds_succ]
  go_wp2
  go_ret
  exact ⟨rfl, hg1⟩

/-- errors.Is of a row's mark that is looked for. -/
theorem is_row_same (i : Int) (b : Addr) (w : World) : Calls Tryz.prog 61 #[.iface 119 (.agg #[.int .i64 i, .iface 175 (.pointer (some b))]), .iface 175 (.pointer (some b))] w fun e w' => e = .returned (.bool true) ∧ Later w w' := by
  obtain ⟨ti, hi, hcmp⟩ := Option.map_eq_some_iff.1 err_comp
  obtain ⟨tj, hj, hjs⟩ := Option.map_eq_some_iff.1 err_size
  have h80 := @run_callFunc_extern Tryz.prog 80 _ Extern.ReflectliteType.typeOf Tryz.func80 (by kernel_rfl) (by kernel_rfl) (by kernel_rfl) (by kernel_rfl)
  have h140 := @run_callFunc_extern Tryz.prog 140 _ (Extern.ReflectliteType.method fun t => do Extern.Rtype.noPackHeld "Comparable" t; pure (.bool (← typeInfo t).comparable)) Tryz.func140 (by kernel_rfl) (by kernel_rfl) (by kernel_rfl) (by kernel_rfl)
  have tT := typeOf_err
  have cT := comparable_err
  have mC := m151c
  have nR := noIs119
  have uR := hasUn119
  have mU := m119u
  have htr := fun W => run_eql_iface_types (P := Tryz.prog) 119 175 (.agg #[.int .i64 i, .iface 175 (.pointer (some b))]) (.pointer (some b)) Tryz.underlying65 (by decide) W
  have heq := fun W => run_eql_iface_ptr_same (P := Tryz.prog) W b Tryz.underlying65 Tryz.underlying175 hi hcmp hj
  have U := Lib.hid (unwrap_any i 175 (.pointer (some b)) w)
  go_enter Tryz.func61, Tryz.ntmps61
  go_wp2
  refine wp_loop_rounds 2 ?_
  rw [rounds_succ]
  go_wp2_with fail
  refine U.out.mono ?_
  rintro e w1 ⟨rfl, hg1⟩
  go_wp2
  rw [rounds_succ]
  go_wp2
  go_ret
  exact ⟨rfl, hg1⟩

/-- errors.Is of a row's other mark. -/
theorem is_row_other (i : Int) (a b : Addr) (ca cb : Array Value) (ta tb : TypeId) (w : World) (hne : a ≠ b) (ha : w.heap[a.block]? = some (.cells ca ta (0, 0))) (hb : w.heap[b.block]? = some (.cells cb tb (0, 0))) : Calls Tryz.prog 61 #[.iface 119 (.agg #[.int .i64 i, .iface 175 (.pointer (some a))]), .iface 175 (.pointer (some b))] w fun e w' => e = .returned (.bool false) ∧ Later w w' := by
  obtain ⟨ti, hi, hcmp⟩ := Option.map_eq_some_iff.1 err_comp
  obtain ⟨tj, hj, hjs⟩ := Option.map_eq_some_iff.1 err_size
  have h80 := @run_callFunc_extern Tryz.prog 80 _ Extern.ReflectliteType.typeOf Tryz.func80 (by kernel_rfl) (by kernel_rfl) (by kernel_rfl) (by kernel_rfl)
  have h140 := @run_callFunc_extern Tryz.prog 140 _ (Extern.ReflectliteType.method fun t => do Extern.Rtype.noPackHeld "Comparable" t; pure (.bool (← typeInfo t).comparable)) Tryz.func140 (by kernel_rfl) (by kernel_rfl) (by kernel_rfl) (by kernel_rfl)
  have tT := typeOf_err
  have cT := comparable_err
  have mC := m151c
  have nR := noIs119
  have uR := hasUn119
  have mU := m119u
  have nE := noIs175
  have uE := noUn175
  have vE := noUs175
  have htr := fun W => run_eql_iface_types (P := Tryz.prog) 119 175 (.agg #[.int .i64 i, .iface 175 (.pointer (some a))]) (.pointer (some b)) Tryz.underlying65 (by decide) W
  have heq := fun W ha hb => run_eql_iface_ptr_other (P := Tryz.prog) W Tryz.underlying65 Tryz.underlying175 hi hcmp hj (by rw [hjs]; decide) hne (ca := ca) (ta := ta) (cb := cb) (tb := tb) ha hb
  have U := Lib.hid (unwrap_any i 175 (.pointer (some a)) w)
  go_enter Tryz.func61, Tryz.ntmps61
  go_wp2
  refine wp_loop_rounds 2 ?_
  rw [rounds_succ]
  go_wp2_with fail
  refine U.out.mono ?_
  rintro e w1 ⟨rfl, hg1⟩
  have h := heq w1 ((hg1.2.2.2 _ (Array.getElem?_eq_some_iff.1 ha).1).trans ha) ((hg1.2.2.2 _ (Array.getElem?_eq_some_iff.1 hb).1).trans hb)
  clear heq ha hb
  go_wp2
  rw [rounds_succ]
  go_wp2
  go_ret
  exact ⟨rfl, hg1⟩

end Go.Proofs.YtpkjbcgmhkkfiaaGreatDoor.Cod

/- errors.As, as the program calls it: of nothing, of a number, of a number that is wrong with a row. Conditions: as each theorem states; the library's own type of errors lies where it is laid. -/
namespace Go.Proofs.YtpkjbcgmhkkfiaaGreatDoor.Cod
set_option maxRecDepth 100000
open Go.ChangeShapes Go.WideShapes Go.ChangeAt Go.RowKit Go.Extern
open Go.Proofs.YtpkjbcgmhkkfiaaGreatDoor.Divs Go.Proofs.YtpkjbcgmhkkfiaaGreatDoor.Grow Go.Proofs.YtpkjbcgmhkkfiaaGreatDoor.Zone
open Go.Proofs.YtpkjbcgmhkkfiaaGreatDoor.By (Sk SL)
open Go.Proofs.YtpkjbcgmhkkfiaaGreatDoor.Conf

theorem valueOf_ptr (p : Addr) (w : World) : (ReflectliteValue.unpack (.iface 95 (.pointer (some p)))).run Tryz.prog w = .ok (.agg #[.pointer (some ⟨4, 95, none⟩), .pointer (some ⟨w.heap.size, 0, none⟩), .int .u64 150]) (w.alloc (.cells #[.pointer (some p)] 95)) := by kernel_rfl
theorem valueOf_num (n : Int) (w : World) : (ReflectliteValue.unpack (.iface 37 (.int .i64 n))).run Tryz.prog w = .ok (.agg #[.pointer (some ⟨4, 37, none⟩), .pointer (some ⟨w.heap.size, 0, none⟩), .int .u64 130]) (w.alloc (.cells #[.int .i64 n] 37)) := by kernel_rfl
theorem type_ptr (a : Addr) (w : World) : (ReflectliteValue.methodAny (ReflectliteValue.valueError "reflectlite.Value.Type" 0) (fun t _ _ _ => ReflectliteType.toType t) #[.agg #[.pointer (some ⟨4, 95, none⟩), .pointer (some a), .int .u64 150]]).run Tryz.prog w = .ok (.iface 151 (.agg #[.pointer (some ⟨4, 95, none⟩)])) w := by kernel_rfl
theorem m151k (t : Nat) (w : World) : (Go.method 308 151 (.agg #[.pointer (some ⟨4, t, none⟩)]) "Kind").run Tryz.prog w = .ok (129, .pointer (some ⟨4, t, none⟩)) w := by kernel_rfl
theorem m151e (v : Value) (w : World) : (Go.method 308 151 v "Elem").run Tryz.prog w = .ok (141, v) w := by kernel_rfl
theorem m151i (v : Value) (w : World) : (Go.method 308 151 v "Implements").run Tryz.prog w = .ok (142, v) w := by kernel_rfl
theorem m151a (v : Value) (w : World) : (Go.method 308 151 v "AssignableTo").run Tryz.prog w = .ok (139, v) w := by kernel_rfl
theorem kind_ptr (w : World) : (ReflectliteType.abiMethod (fun t => (fun a : Nat => Value.int .u8 (a : Int)) <$> Rtype.kind t) #[.pointer (some ⟨4, 95, none⟩)]).run Tryz.prog w = .ok (.int .u8 22) w := by kernel_rfl
theorem kind_num (w : World) : (ReflectliteType.abiMethod (fun t => (fun a : Nat => Value.int .u8 (a : Int)) <$> Rtype.kind t) #[.pointer (some ⟨4, 37, none⟩)]).run Tryz.prog w = .ok (.int .u8 2) w := by kernel_rfl
theorem elem_ptr (w : World) : (ReflectliteType.method ReflectliteType.elem #[.agg #[.pointer (some ⟨4, 95, none⟩)]]).run Tryz.prog w = .ok (.iface 151 (.agg #[.pointer (some ⟨4, 37, none⟩)])) w := by kernel_rfl
theorem impl_num (w : World) : (ReflectliteType.relation "Implements" ReflectliteType.implements_ #[.agg #[.pointer (some ⟨4, 37, none⟩)], .iface 151 (.agg #[.pointer (some ⟨4, 65, none⟩)])]).run Tryz.prog w = .ok (.bool true) w := by kernel_rfl
theorem typeOf_num (v : Value) (w : World) : (ReflectliteType.typeOf #[.iface 37 v]).run Tryz.prog w = .ok (.iface 151 (.agg #[.pointer (some ⟨4, 37, none⟩)])) w := by kernel_rfl
theorem typeOf_row (v : Value) (w : World) : (ReflectliteType.typeOf #[.iface 119 v]).run Tryz.prog w = .ok (.iface 151 (.agg #[.pointer (some ⟨4, 119, none⟩)])) w := by kernel_rfl
theorem assign_num (w : World) : (ReflectliteType.relation "AssignableTo" ReflectliteType.assignableTo #[.agg #[.pointer (some ⟨4, 37, none⟩)], .iface 151 (.agg #[.pointer (some ⟨4, 37, none⟩)])]).run Tryz.prog w = .ok (.bool true) w := by kernel_rfl
theorem assign_row (w : World) : (ReflectliteType.relation "AssignableTo" ReflectliteType.assignableTo #[.agg #[.pointer (some ⟨4, 119, none⟩)], .iface 151 (.agg #[.pointer (some ⟨4, 37, none⟩)])]).run Tryz.prog w = .ok (.bool false) w := by kernel_rfl

theorem parts_ptr (a : Addr) (w : World) : (ReflectliteValue.parts (.agg #[.pointer (some ⟨4, 95, none⟩), .pointer (some a), .int .u64 150])).run Tryz.prog w = .ok (some (95, a, 150)) w := by kernel_rfl
theorem parts_num (a : Addr) (w : World) : (ReflectliteValue.parts (.agg #[.pointer (some ⟨4, 37, none⟩), .pointer (some a), .int .u64 130])).run Tryz.prog w = .ok (some (37, a, 130)) w := by kernel_rfl
theorem parts_dst (a : Addr) (w : World) : (ReflectliteValue.parts (.agg #[.pointer (some ⟨4, 37, none⟩), .pointer (some a), .int .u64 386])).run Tryz.prog w = .ok (some (37, a, 386)) w := by kernel_rfl
theorem elem95 (w : World) : (Rtype.elem? 95).run Tryz.prog w = .ok (some 37) w := by kernel_rfl
theorem mk37 (a : Addr) (w : World) : (ReflectliteValue.mk 37 a 256).run Tryz.prog w = .ok (.agg #[.pointer (some ⟨4, 37, none⟩), .pointer (some a), .int .u64 386]) w := by kernel_rfl
theorem direct37 (w : World) : (Rtype.directlyAssignable 37 37).run Tryz.prog w = .ok true w := by kernel_rfl

theorem isNil_ptr (a p : Addr) (w : World) (h : w.cell? a = some (.pointer (some p))) : (ReflectliteValue.method (ReflectliteValue.valueError "reflectlite.Value.IsNil" 0) ReflectliteValue.isNil #[.agg #[.pointer (some ⟨4, 95, none⟩), .pointer (some a), .int .u64 150]]).run Tryz.prog w = .ok (.bool false) w := by
  rw [Lib.rl_method]
  simp only [Sem.run_bind, parts_ptr, Result.andThen]
  simp [ReflectliteValue.isNil, loadVar, h, Result.andThen]

theorem velem_ptr (a p : Addr) (w : World) (h : w.cell? a = some (.pointer (some p))) : (ReflectliteValue.method (ReflectliteValue.valueError "reflectlite.Value.Elem" 0) ReflectliteValue.elem #[.agg #[.pointer (some ⟨4, 95, none⟩), .pointer (some a), .int .u64 150]]).run Tryz.prog w = .ok (.agg #[.pointer (some ⟨4, 37, none⟩), .pointer (some p), .int .u64 386]) w := by
  rw [Lib.rl_method]
  simp only [Sem.run_bind, parts_ptr, Result.andThen]
  simp [ReflectliteValue.elem, loadVar, h, elem95, mk37, ReflectliteValue.flagAddr, Result.andThen]

theorem set_eq (v x : Value) : ReflectliteValue.set #[v, x] = (do
    let (some (dst, a, fl), some (src, b, _)) := (← ReflectliteValue.parts v, ← ReflectliteValue.parts x)
      | unsupported (.noEntry "extern/(internal/reflectlite.Value).Set.zeroValue")
    if fl / ReflectliteValue.flagAddr % 2 == 0 then unsupported (.noEntry "extern/(internal/reflectlite.Value).Set.unaddressable")
    let val ← loadVar src b
    if ← Rtype.directlyAssignable dst src then storeVar dst a val
    else if ← Rtype.implements dst src then
      if (← Rtype.kind src) == 20 then
        match val with
        | .nilIface => unsupported (.noEntry "extern/reflectlite: a nil value of one interface type handed on as a value of another")
        | _ => storeVar dst a val
      else storeVar dst a (.iface src val)
    else panicString ("reflectlite.Set: value of type " ++ (← Rtype.spelt src) ++ " is not assignable to type " ++ (← Rtype.spelt dst))
    pure (.tuple #[])) := rfl

theorem set_num (a b : Addr) (n : Int) (o : Value) (w : World) (hb : w.cell? b = some (.int .i64 n)) (ha : w.cell? a = some o) (hf : w.frozen? a = false) :
    (ReflectliteValue.set #[.agg #[.pointer (some ⟨4, 37, none⟩), .pointer (some a), .int .u64 386], .agg #[.pointer (some ⟨4, 37, none⟩), .pointer (some b), .int .u64 130]]).run Tryz.prog w = .ok (.tuple #[]) (w.setCell a (.int .i64 n)) := by
  obtain ⟨ie, hie, hs⟩ := Option.map_eq_some_iff.1 (show (Tryz.prog.info? 37).map (·.size) = some 1 by kernel_rfl)
  have st := Lib.rl_storeVar_one (P := Tryz.prog) 37 ie hie hs a (.int .i64 n) o rfl w ha hf
  rw [set_eq]
  simp only [Sem.run_bind, parts_dst, parts_num, Result.andThen]
  simp [ReflectliteValue.flagAddr, loadVar, hb, direct37, st, Result.andThen]

/-- errors.As of nothing. -/
theorem as_nil (p : Addr) (w : World) : Calls Tryz.prog 62 #[.nilIface, .iface 95 (.pointer (some p))] w fun e w' => e = .returned (.bool false) ∧ w' = w := by
  go_enter Tryz.func62, Tryz.ntmps62
  go_wp2_with fail
  go_ret
  exact ⟨rfl, rfl⟩

/-- errors.As of a number. -/
theorem as_num (n : Int) (N : Nat) (y : Value) (w : World) (hc : w.cell? ⟨N, 0, none⟩ = some y) (hf : w.frozen? ⟨N, 0, none⟩ = false) (he : w.cell? ⟨2, 0, none⟩ = some (.iface 151 (.agg #[.pointer (some ⟨4, 65, none⟩)]))) :
    Calls Tryz.prog 62 #[.iface 37 (.int .i64 n), .iface 95 (.pointer (some ⟨N, 0, none⟩))] w fun e w' => e = .returned (.bool true) ∧ w'.cell? ⟨N, 0, none⟩ = some (.int .i64 n) ∧ But N w w' := by
  have h80 := @run_callFunc_extern Tryz.prog 80 _ (Extern.ReflectliteType.typeOf) Tryz.func80 (by kernel_rfl) (by kernel_rfl) (by kernel_rfl) (by kernel_rfl)
  have h82 := @run_callFunc_extern Tryz.prog 82 _ (fun args => ReflectliteValue.unpack (args.getD 0 (.tuple #[]))) Tryz.func82 (by kernel_rfl) (by kernel_rfl) (by kernel_rfl) (by kernel_rfl)
  have h83 := @run_callFunc_extern Tryz.prog 83 _ (ReflectliteValue.methodAny (ReflectliteValue.valueError "reflectlite.Value.Type" 0) fun t _ _ _ => ReflectliteType.toType t) Tryz.func83 (by kernel_rfl) (by kernel_rfl) (by kernel_rfl) (by kernel_rfl)
  have h84 := @run_callFunc_extern Tryz.prog 84 _ (ReflectliteValue.method (ReflectliteValue.valueError "reflectlite.Value.IsNil" 0) ReflectliteValue.isNil) Tryz.func84 (by kernel_rfl) (by kernel_rfl) (by kernel_rfl) (by kernel_rfl)
  have h106 := @run_callFunc_extern Tryz.prog 106 _ (ReflectliteValue.method (ReflectliteValue.valueError "reflectlite.Value.Elem" 0) ReflectliteValue.elem) Tryz.func106 (by kernel_rfl) (by kernel_rfl) (by kernel_rfl) (by kernel_rfl)
  have h107 := @run_callFunc_extern Tryz.prog 107 _ (ReflectliteValue.set) Tryz.func107 (by kernel_rfl) (by kernel_rfl) (by kernel_rfl) (by kernel_rfl)
  have h129 := @run_callFunc_extern Tryz.prog 129 _ (ReflectliteType.abiMethod fun t => do pure (.int .u8 (← Rtype.kind t))) Tryz.func129 (by kernel_rfl) (by kernel_rfl) (by kernel_rfl) (by kernel_rfl)
  have h139 := @run_callFunc_extern Tryz.prog 139 _ (ReflectliteType.relation "AssignableTo" ReflectliteType.assignableTo) Tryz.func139 (by kernel_rfl) (by kernel_rfl) (by kernel_rfl) (by kernel_rfl)
  have h141 := @run_callFunc_extern Tryz.prog 141 _ (ReflectliteType.method ReflectliteType.elem) Tryz.func141 (by kernel_rfl) (by kernel_rfl) (by kernel_rfl) (by kernel_rfl)
  have h142 := @run_callFunc_extern Tryz.prog 142 _ (ReflectliteType.relation "Implements" ReflectliteType.implements_) Tryz.func142 (by kernel_rfl) (by kernel_rfl) (by kernel_rfl) (by kernel_rfl)
  have vP := valueOf_ptr
  have vN := valueOf_num
  have tP := type_ptr
  have mK := m151k
  have mE := m151e
  have mI := m151i
  have mA := m151a
  have kP := kind_ptr
  have kN := kind_num
  have eP := elem_ptr
  have iN := impl_num
  have tN := typeOf_num
  have aN := assign_num
  have nP := isNil_ptr
  have xP := velem_ptr
  have sN := set_num
  go_enter Tryz.func62, Tryz.ntmps62
  have l1 := (Later.refl w).put (.cells #[.pointer (some ⟨N, 0, none⟩)] 95)
  have l2 := l1.put (.cells #[.pointer (some ⟨4, 95, none⟩), .pointer (some ⟨w.heap.size, 0, none⟩), .int .u64 150] 127)
  have l3 := l2.put (.cells #[.pointer (some ⟨4, 95, none⟩), .pointer (some ⟨w.heap.size, 0, none⟩), .int .u64 150] 127)
  have l4 := l3.put (.cells #[.int .i64 n] 37)
  have g2 := gsome l2 he
  have c3 : (((w.alloc (.cells #[.pointer (some ⟨N, 0, none⟩)] 95)).alloc (.cells #[.pointer (some ⟨4, 95, none⟩), .pointer (some ⟨w.heap.size, 0, none⟩), .int .u64 150] 127)).alloc (.cells #[.pointer (some ⟨4, 95, none⟩), .pointer (some ⟨w.heap.size, 0, none⟩), .int .u64 150] 127)).cell? ⟨w.heap.size, 0, none⟩ = some (.pointer (some ⟨N, 0, none⟩)) := ((At.new w #[.pointer (some ⟨N, 0, none⟩)] 95).put _).put _ 0 _ rfl
  have c4 := gsome l4 hc
  have f4 := (gfrozen l4 N 0 (World.block_lt_of_cell? _ _ hc)).trans hf
  have HL := Lib.hid l4
  clear l1 l2 l3 l4 he
  go_wp2
  refine wp_loop_rounds 1 ?_
  rw [rounds_succ]
  go_wp2
  go_ret
  exact ⟨rfl, World.cell?_setCell_same _ _ _ c4, (But.of_later HL.out).trans (But.set _ _ _)⟩

end Go.Proofs.YtpkjbcgmhkkfiaaGreatDoor.Cod

/- errors.As, as the program calls it, of a number that is wrong with a row. Conditions: as each theorem states; the library's own type of errors lies where it is laid. -/
namespace Go.Proofs.YtpkjbcgmhkkfiaaGreatDoor.Cod
set_option maxRecDepth 100000
open Go.ChangeShapes Go.WideShapes Go.ChangeAt Go.RowKit Go.Extern
open Go.Proofs.YtpkjbcgmhkkfiaaGreatDoor.Divs Go.Proofs.YtpkjbcgmhkkfiaaGreatDoor.Grow Go.Proofs.YtpkjbcgmhkkfiaaGreatDoor.Zone
open Go.Proofs.YtpkjbcgmhkkfiaaGreatDoor.By (Sk SL)
open Go.Proofs.YtpkjbcgmhkkfiaaGreatDoor.Conf

set_option maxHeartbeats 4000000 in
theorem as_row (i n : Int) (N : Nat) (y : Value) (w : World) (hc : w.cell? ⟨N, 0, none⟩ = some y) (hf : w.frozen? ⟨N, 0, none⟩ = false) (he : w.cell? ⟨2, 0, none⟩ = some (.iface 151 (.agg #[.pointer (some ⟨4, 65, none⟩)]))) :
    Calls Tryz.prog 62 #[.iface 119 (.agg #[.int .i64 i, .iface 37 (.int .i64 n)]), .iface 95 (.pointer (some ⟨N, 0, none⟩))] w fun e w' => e = .returned (.bool true) ∧ w'.cell? ⟨N, 0, none⟩ = some (.int .i64 n) ∧ But N w w' := by
  have h80 := @run_callFunc_extern Tryz.prog 80 _ (Extern.ReflectliteType.typeOf) Tryz.func80 (by kernel_rfl) (by kernel_rfl) (by kernel_rfl) (by kernel_rfl)
  have h82 := @run_callFunc_extern Tryz.prog 82 _ (fun args => ReflectliteValue.unpack (args.getD 0 (.tuple #[]))) Tryz.func82 (by kernel_rfl) (by kernel_rfl) (by kernel_rfl) (by kernel_rfl)
  have h83 := @run_callFunc_extern Tryz.prog 83 _ (ReflectliteValue.methodAny (ReflectliteValue.valueError "reflectlite.Value.Type" 0) fun t _ _ _ => ReflectliteType.toType t) Tryz.func83 (by kernel_rfl) (by kernel_rfl) (by kernel_rfl) (by kernel_rfl)
  have h84 := @run_callFunc_extern Tryz.prog 84 _ (ReflectliteValue.method (ReflectliteValue.valueError "reflectlite.Value.IsNil" 0) ReflectliteValue.isNil) Tryz.func84 (by kernel_rfl) (by kernel_rfl) (by kernel_rfl) (by kernel_rfl)
  have h106 := @run_callFunc_extern Tryz.prog 106 _ (ReflectliteValue.method (ReflectliteValue.valueError "reflectlite.Value.Elem" 0) ReflectliteValue.elem) Tryz.func106 (by kernel_rfl) (by kernel_rfl) (by kernel_rfl) (by kernel_rfl)
  have h107 := @run_callFunc_extern Tryz.prog 107 _ (ReflectliteValue.set) Tryz.func107 (by kernel_rfl) (by kernel_rfl) (by kernel_rfl) (by kernel_rfl)
  have h129 := @run_callFunc_extern Tryz.prog 129 _ (ReflectliteType.abiMethod fun t => do pure (.int .u8 (← Rtype.kind t))) Tryz.func129 (by kernel_rfl) (by kernel_rfl) (by kernel_rfl) (by kernel_rfl)
  have h139 := @run_callFunc_extern Tryz.prog 139 _ (ReflectliteType.relation "AssignableTo" ReflectliteType.assignableTo) Tryz.func139 (by kernel_rfl) (by kernel_rfl) (by kernel_rfl) (by kernel_rfl)
  have h141 := @run_callFunc_extern Tryz.prog 141 _ (ReflectliteType.method ReflectliteType.elem) Tryz.func141 (by kernel_rfl) (by kernel_rfl) (by kernel_rfl) (by kernel_rfl)
  have h142 := @run_callFunc_extern Tryz.prog 142 _ (ReflectliteType.relation "Implements" ReflectliteType.implements_) Tryz.func142 (by kernel_rfl) (by kernel_rfl) (by kernel_rfl) (by kernel_rfl)
  have vP := valueOf_ptr
  have vN := valueOf_num
  have tP := type_ptr
  have mK := m151k
  have mE := m151e
  have mI := m151i
  have mA := m151a
  have kP := kind_ptr
  have kN := kind_num
  have eP := elem_ptr
  have iN := impl_num
  have tN := typeOf_num
  have aN := assign_num
  have nP := isNil_ptr
  have xP := velem_ptr
  have sN := set_num
  go_enter Tryz.func62, Tryz.ntmps62
  have tR := typeOf_row
  have aR := assign_row
  have nR := noAs119
  have uR := hasUn119
  have mU := m119u
  have U := Lib.hid (fun W => unwrap_any i 37 (.int .i64 n) W)
  have l1 := (Later.refl w).put (.cells #[.pointer (some ⟨N, 0, none⟩)] 95)
  have l2 := l1.put (.cells #[.pointer (some ⟨4, 95, none⟩), .pointer (some ⟨w.heap.size, 0, none⟩), .int .u64 150] 127)
  have l3 := l2.put (.cells #[.pointer (some ⟨4, 95, none⟩), .pointer (some ⟨w.heap.size, 0, none⟩), .int .u64 150] 127)
  have g2 := gsome l2 he
  have c3 : (((w.alloc (.cells #[.pointer (some ⟨N, 0, none⟩)] 95)).alloc (.cells #[.pointer (some ⟨4, 95, none⟩), .pointer (some ⟨w.heap.size, 0, none⟩), .int .u64 150] 127)).alloc (.cells #[.pointer (some ⟨4, 95, none⟩), .pointer (some ⟨w.heap.size, 0, none⟩), .int .u64 150] 127)).cell? ⟨w.heap.size, 0, none⟩ = some (.pointer (some ⟨N, 0, none⟩)) := ((At.new w #[.pointer (some ⟨N, 0, none⟩)] 95).put _).put _ 0 _ rfl
  have b3 : At (((w.alloc (.cells #[.pointer (some ⟨N, 0, none⟩)] 95)).alloc (.cells #[.pointer (some ⟨4, 95, none⟩), .pointer (some ⟨w.heap.size, 0, none⟩), .int .u64 150] 127)).alloc (.cells #[.pointer (some ⟨4, 95, none⟩), .pointer (some ⟨w.heap.size, 0, none⟩), .int .u64 150] 127)) (w.heap.size + 2) #[.pointer (some ⟨4, 95, none⟩), .pointer (some ⟨w.heap.size, 0, none⟩), .int .u64 150] := by
    have h := At.new ((w.alloc (.cells #[.pointer (some ⟨N, 0, none⟩)] 95)).alloc (.cells #[.pointer (some ⟨4, 95, none⟩), .pointer (some ⟨w.heap.size, 0, none⟩), .int .u64 150] 127)) #[.pointer (some ⟨4, 95, none⟩), .pointer (some ⟨w.heap.size, 0, none⟩), .int .u64 150] 127
    rw [size_one, size_one] at h
    exact h
  have HB := Lib.hid b3
  have C3 := Lib.hid c3
  have HL := Lib.hid l3
  have HC := Lib.hid hc
  have HF := Lib.hid hf
  clear l1 l2 l3 he c3 b3 hc hf
  go_wp2
  refine wp_loop_rounds 2 ?_
  rw [rounds_succ]
  go_wp2_with fail
  refine (U.out _).mono ?_
  rintro e w1 ⟨rfl, hg1⟩
  have d0 := HB.out.later hg1 0 _ rfl
  have d1 := HB.out.later hg1 1 _ rfl
  have d2 := HB.out.later hg1 2 _ rfl
  have l4 := (gtrans HL.out hg1).put (.cells #[.int .i64 n] 37)
  have c3 := gsome hg1 C3.out
  have c4 := gsome l4 HC.out
  have f4 := (gfrozen l4 N 0 (World.block_lt_of_cell? _ _ HC.out)).trans HF.out
  have HL4 := Lib.hid l4
  clear l4 hg1 g2
  go_wp2
  rw [rounds_succ]
  go_wp2
  go_ret
  exact ⟨rfl, World.cell?_setCell_same _ _ _ c4, (But.of_later HL4.out).trans (But.set _ _ _)⟩

end Go.Proofs.YtpkjbcgmhkkfiaaGreatDoor.Cod

/- What numberOf, read and Decode answer, by the program. Conditions: the variables lie where the program lays them; the bytes are bytes, as many as each theorem says. -/
namespace Go.Proofs.YtpkjbcgmhkkfiaaGreatDoor.Cod
set_option maxRecDepth 100000
open Go.ChangeShapes Go.WideShapes Go.ChangeAt Go.RowKit
open Go.Proofs.YtpkjbcgmhkkfiaaGreatDoor.Divs Go.Proofs.YtpkjbcgmhkkfiaaGreatDoor.Grow Go.Proofs.YtpkjbcgmhkkfiaaGreatDoor.Zone
open Go.Proofs.YtpkjbcgmhkkfiaaGreatDoor.By (Sk SL)
open Go.Proofs.YtpkjbcgmhkkfiaaGreatDoor.Crc (Laid)
open Go.Proofs.YtpkjbcgmhkkfiaaGreatDoor.Zo Go.Proofs.YtpkjbcgmhkkfiaaGreatDoor.Su Go.Proofs.YtpkjbcgmhkkfiaaGreatDoor.Cf Go.Proofs.YtpkjbcgmhkkfiaaGreatDoor.Conf

/-- The variables as the program lays them. -/
structure Base (a0 a1 : Addr) (W : World) : Prop where
  laid : Laid W
  v0 : W.cell? ⟨0, 0, none⟩ = some (.iface 175 (.pointer (some a0)))
  v1 : W.cell? ⟨1, 0, none⟩ = some (.iface 175 (.pointer (some a1)))
  v2 : W.cell? ⟨2, 0, none⟩ = some (.iface 151 (.agg #[.pointer (some ⟨4, 65, none⟩)]))
  ne : a0 ≠ a1
  b0 : ∃ c t, W.heap[a0.block]? = some (.cells c t (0, 0))
  b1 : ∃ c t, W.heap[a1.block]? = some (.cells c t (0, 0))

theorem Base.later {a0 a1 : Addr} {W W' : World} (h : Base a0 a1 W) (g : Later W W') : Base a0 a1 W' := by
  obtain ⟨c0, t0, e0⟩ := h.b0
  obtain ⟨c1, t1, e1⟩ := h.b1
  exact ⟨h.laid.grown g, gsome g h.v0, gsome g h.v1, gsome g h.v2, h.ne, ⟨c0, t0, (g.2.2.2 _ (Array.getElem?_eq_some_iff.1 e0).1).trans e0⟩, ⟨c1, t1, (g.2.2.2 _ (Array.getElem?_eq_some_iff.1 e1).1).trans e1⟩⟩

theorem num_nil (a0 a1 : Addr) (w : World) (hb : Base a0 a1 w) : Calls Tryz.prog 32 #[.nilIface] w fun e w' => e = .returned (.int .i64 0) ∧ Later w w' := by
  have K0 := Lib.hid (fun W => is_nil a0 W)
  have K1 := Lib.hid (fun W => is_nil a1 W)
  have KA := Lib.hid (fun p W => as_nil p W)
  have HB := Lib.hid hb
  have g0 := hb.v0
  clear hb
  go_enter Tryz.func32, Tryz.ntmps32
  go_wp2_with fail
  refine (K0.out _).mono ?_
  rintro e w1 ⟨rfl, hg1⟩
  have g1 := (HB.out.later hg1).v1
  have HG1 := Lib.hid hg1
  clear hg1 g0
  go_wp2_with fail
  refine (K1.out _).mono ?_
  rintro e w2 ⟨rfl, hg2⟩
  have HG2 := Lib.hid (gtrans HG1.out hg2)
  clear hg2 g1
  go_wp2_with fail
  refine (KA.out _ _).mono ?_
  rintro e w3 ⟨rfl, rfl⟩
  go_wp2_with fail
  go_ret
  exact ⟨rfl, gtrans HG2.out ((Later.refl _).put _)⟩

/-- A number, told inside or not: what the two questions of Is and that of As answer. -/
theorem num_as (a0 a1 : Addr) (n : Int) (E : Value) (t : TypeId) (x : Value) (hE : E = .iface t x) (w : World) (hb : Base a0 a1 w)
    (h0 : ∀ b W, Calls Tryz.prog 61 #[E, .iface 175 (.pointer (some b))] W fun e w' => e = .returned (.bool false) ∧ Later W w')
    (hA : ∀ (N : Nat) (y : Value) (W : World), W.cell? ⟨N, 0, none⟩ = some y → W.frozen? ⟨N, 0, none⟩ = false → W.cell? ⟨2, 0, none⟩ = some (.iface 151 (.agg #[.pointer (some ⟨4, 65, none⟩)])) →
      Calls Tryz.prog 62 #[E, .iface 95 (.pointer (some ⟨N, 0, none⟩))] W fun e w' => e = .returned (.bool true) ∧ w'.cell? ⟨N, 0, none⟩ = some (.int .i64 n) ∧ But N W w') :
    Calls Tryz.prog 32 #[E] w fun e w' => e = .returned (.int .i64 n) ∧ Later w w' := by
  subst hE
  have K0 := Lib.hid h0
  have KA := Lib.hid hA
  have HB := Lib.hid hb
  have g0 := hb.v0
  clear hb h0 hA
  go_enter Tryz.func32, Tryz.ntmps32
  go_wp2_with fail
  refine (K0.out _ _).mono ?_
  rintro e w1 ⟨rfl, hg1⟩
  have g1 := (HB.out.later hg1).v1
  have HG1 := Lib.hid hg1
  clear hg1 g0
  go_wp2_with fail
  refine (K0.out _ _).mono ?_
  rintro e w2 ⟨rfl, hg2⟩
  have HG2 := Lib.hid (gtrans HG1.out hg2)
  clear hg2 g1
  have hr := Row.new w2 #[.int .i64 0] 37
  have HR := Lib.hid hr
  clear hr
  go_wp2_with fail
  refine (KA.out _ _ _ (HR.out.cell 0 rfl) (HR.out.frozen 0) (HB.out.later (gtrans HG2.out ((Later.refl _).put _))).v2).mono ?_
  rintro e w3 ⟨rfl, hc, hb3⟩
  have HB3 := Lib.hid hb3
  clear hb3
  go_wp2_with fail
  go_ret
  exact ⟨rfl, HB3.out.later (gtrans HG2.out ((Later.refl _).put _)) HG2.out.size⟩

theorem num_mark (a0 a1 : Addr) (i : Int) (a : Addr) (ha : a = a0 ∨ a = a1) (w : World) (hb : Base a0 a1 w) :
    Calls Tryz.prog 32 #[.iface 119 (.agg #[.int .i64 i, .iface 175 (.pointer (some a))])] w fun e w' => e = .returned (.int .i64 112) ∧ Later w w' := by
  have HB := Lib.hid hb
  have g0 := hb.v0
  rcases ha with rfl | rfl
  · have K := Lib.hid (is_row_same i a w)
    clear hb
    go_enter Tryz.func32, Tryz.ntmps32
    go_wp2_with fail
    refine K.out.mono ?_
    rintro e w1 ⟨rfl, hg1⟩
    go_wp2_with fail
    go_ret
    exact ⟨rfl, hg1⟩
  · obtain ⟨c0, t0, e0⟩ := hb.b0
    obtain ⟨c1, t1, e1⟩ := hb.b1
    have K := Lib.hid (is_row_other i a a0 c1 c0 t1 t0 w (Ne.symm hb.ne) e1 e0)
    have K2 := Lib.hid (fun W => is_row_same i a W)
    clear hb
    go_enter Tryz.func32, Tryz.ntmps32
    go_wp2_with fail
    refine K.out.mono ?_
    rintro e w1 ⟨rfl, hg1⟩
    have g1 := (HB.out.later hg1).v1
    have HG1 := Lib.hid hg1
    clear hg1 g0
    go_wp2_with fail
    refine (K2.out _).mono ?_
    rintro e w2 ⟨rfl, hg2⟩
    go_wp2_with fail
    go_ret
    exact ⟨rfl, gtrans HG1.out hg2⟩

theorem num_any (a0 a1 : Addr) (n : Int) (E : Value) (w : World) (hb : Base a0 a1 w) (h : ErrV a0 a1 n E) :
    Calls Tryz.prog 32 #[E] w fun e w' => e = .returned (.int .i64 n) ∧ Later w w' := by
  cases h with
  | num h => exact num_as a0 a1 n E _ _ h w hb (fun b W => by rw [h]; exact is_num n b W) (fun N y W h1 h2 h3 => by rw [h]; exact as_num n N y W h1 h2 h3)
  | row i h => exact num_as a0 a1 n E _ _ h w hb (fun b W => by rw [h]; exact is_row_num i n b W) (fun N y W h1 h2 h3 => by rw [h]; exact as_row i n N y W h1 h2 h3)
  | mark i a ha hn h =>
    rw [h, hn]
    exact num_mark a0 a1 i a ha w hb

end Go.Proofs.YtpkjbcgmhkkfiaaGreatDoor.Cod

/- From the condition on the laid variables (what the program's own text, and the library's, lays there) to what the walks ask, and a start that meets it; slices of bytes as arguments. No further condition. -/
namespace Go.Proofs.YtpkjbcgmhkkfiaaGreatDoor.Cod
set_option maxRecDepth 100000
open Go.ChangeShapes Go.WideShapes Go.ChangeAt Go.RowKit
open Go.Proofs.YtpkjbcgmhkkfiaaGreatDoor.Divs Go.Proofs.YtpkjbcgmhkkfiaaGreatDoor.Grow
open Go.Proofs.YtpkjbcgmhkkfiaaGreatDoor.By (Sk SL sk_nil)
open Go.Proofs.YtpkjbcgmhkkfiaaGreatDoor.Crc (Laid)

theorem cells36 : Tryz.prog.cellsOf 136 = 1 := by kernel_rfl
theorem cells41 : Tryz.prog.cellsOf 166 = 16 := by kernel_rfl
theorem gHalves : Tryz.prog.globalNamed "newel/crc.halves" = some 3 := by kernel_rfl
theorem tHalves : (Tryz.prog.globals[3]?).map (·.type) = some 166 := by kernel_rfl
theorem gLength : Tryz.prog.globalNamed "newel/codec.errLength" = some 0 := by kernel_rfl
theorem tLength : (Tryz.prog.globals[0]?).map (·.type) = some 65 := by kernel_rfl
theorem gMark : Tryz.prog.globalNamed "newel/codec.errMark" = some 1 := by kernel_rfl
theorem tMark : (Tryz.prog.globals[1]?).map (·.type) = some 65 := by kernel_rfl
theorem gType : Tryz.prog.globalNamed "errors.errorType" = some 2 := by kernel_rfl

theorem star : "*" ++ "errors.errorString" = "*errors.errorString" := by decide

theorem only_name (u : TypeId) (h : Tryz.prog.typeName? 3 u = some "*errors.errorString") : u = 175 :=
  typeName_ptr_named (nm := "errors.errorString") (by rw [star]; kernel_rfl) (by kernel_rfl) (by decide) u (by rw [star]; exact h)

theorem only_handle (t : TypeId) (hlt : t < Tryz.prog.types.size) (h : Tryz.prog.rowNamed t [101, 114, 114, 111, 114] = true) : t = 65 := by
  have hall : ((List.range Tryz.prog.types.size).all fun t => !(Tryz.prog.rowNamed t [101, 114, 114, 111, 114]) || t == 65) = true := by kernel_rfl
  have := List.all_eq_true.1 hall t (List.mem_range.2 hlt)
  rw [h] at this
  simpa using this

def laidL : List (String × DataW Unit) := [("errors.errorType", Rows.laid_errors_errorType), ("newel/crc.halves", Rows.laid_newel_crc_halves), ("newel/codec.errLength", Rows.laid_newel_codec_errLength), ("newel/codec.errMark", Rows.laid_newel_codec_errMark)]

theorem of_laid {W : World} (h : laidMetH Tryz.prog laidL W) : ∃ a0 a1, Base a0 a1 W := by
  have h' : laidMet Tryz.prog [("newel/crc.halves", Rows.laid_newel_crc_halves), ("newel/codec.errLength", Rows.laid_newel_codec_errLength), ("newel/codec.errMark", Rows.laid_newel_codec_errMark)] W ∧ handlesMet Tryz.prog [("errors.errorType", Rows.laid_errors_errorType)] W := h
  obtain ⟨hd, hh⟩ := h'
  have t : Lib.TabIs Tryz.prog W "newel/crc.halves" .u16 [0, 4129, 8258, 12387, 16516, 20645, 24774, 28903, 33032, 37161, 41290, 45419, 49548, 53677, 57806, 61935] :=
    Lib.tabIs_of_head gHalves tHalves Tryz.underlying166 Tryz.underlying136 cells36 cells41 hd
  have k : ∀ j : Fin 16, [0, 4129, 8258, 12387, 16516, 20645, 24774, 28903, 33032, 37161, 41290, 45419, 49548, 53677, 57806, 61935].getD j.val 0 = ((Crc.tb j.val).toNat : Int) := by decide +kernel
  obtain ⟨a0, a1, s0, s1, c0, c1, t0, t1, hv0, hv1, _, _, _, _, _, _, hne, hb0, hb1⟩ := laid_sentinels2 (ti := 65) (tp := 175) (te := 197) (ts := 9) hd.tail gLength tLength gMark tMark Tryz.underlying65 only_name Tryz.underlying175 Tryz.underlying197 rfl rfl Tryz.underlying9 (by kernel_rfl) (by kernel_rfl)
  obtain ⟨name, u, ty, hn, hu, hlt, hrow, hv⟩ := hh _ (List.mem_singleton.2 rfl)
  have en : [101, 114, 114, 111, 114] = name := Option.some.inj (show some [101, 114, 114, 111, 114] = some name from hn)
  have eu : 151 = u := Option.some.inj ((show (Tryz.prog.cutTypes.find? (·.1 == "internal/reflectlite.rtype")).map (·.2) = some 151 by kernel_rfl).symm.trans hu)
  subst en
  have et := only_handle ty hlt hrow
  subst et
  subst eu
  refine ⟨a0, a1, ?_, by rw [World.var?_cell gLength hv0 0]; rfl, by rw [World.var?_cell gMark hv1 0]; rfl, by rw [World.var?_cell gType hv 0]; rfl, hne, ⟨c0, t0, hb0⟩, ⟨c1, t1, hb1⟩⟩
  intro i hi
  rw [t.cell gHalves i (by simpa using hi), ← k ⟨i, hi⟩]

theorem door_met (os : Os) (args : Array Value) : laidMetH Tryz.prog laidL ((World.doorLaid Tryz.prog 400 os).forCall (fun _ _ => 0) ⟨#[], args, []⟩).memory :=
  laidMetH_of_parts3 (fuel := 8) (laidMet_of_run' 8 (by kernel_rfl) (by kernel_rfl)) (by kernel_rfl) (by kernel_rfl)

section
variable {H : Type} {enc : TypeId × Value → H} {w : World} {base : Nat} {spare : Nat → Bool} {held : Bool}

/-- A slice of bytes as an argument: its cells. -/
theorem open_bytes {r : Reach} {b0 : Nat} {v : Value} {d : DataW H} {p : List MemPlace} (hv : Value.okWide Tryz.prog w r b0 36 v) (h : DataW.Trod enc Tryz.prog w base spare held 36 v d p) :
    ∃ xs : List Int, Sk .u8 w v xs ∧ ∀ x ∈ xs, 0 ≤ x ∧ x ≤ 255 := by
  obtain ⟨a, len, cap, rfl⟩ := okWide_slice Tryz.underlying36 hv
  obtain ⟨fuel, hf⟩ := h
  rcases open_ints Tryz.underlying36 Tryz.underlying5 (by kernel_rfl) hf with ⟨hcs, _⟩ | ⟨x, l, c, zs, hcs, _, hl, hm, hz, _, hcell, hwz⟩
  · simp [Value.cells] at hcs
    obtain ⟨rfl, rfl, rfl⟩ := hcs
    exact ⟨[], sk_nil _ _, by simp⟩
  · simp [Value.cells] at hcs
    obtain ⟨rfl, rfl, rfl⟩ := hcs
    have h2 : zs.length = if spare x.block = true then cap else len := by simpa using hz
    have hz' : len ≤ zs.length := by rw [h2]; split <;> omega
    have he : (zs.take len).length = len := by rw [List.length_take]; omega
    refine ⟨zs.take len, ⟨some x, cap, by rw [he], by rw [he]; exact hl, by simpa [maxLen] using hm, by simp, fun i y hy => ?_⟩, fun n hn => bounds_u8 (hwz n (List.mem_of_mem_take hn))⟩
    have hi : i < len := by
      have := (List.getElem?_eq_some_iff.1 hy).1
      omega
    obtain ⟨b, off, rfl, hc⟩ := ints_at hcell (by omega)
    refine ⟨b, off, rfl, ?_⟩
    rw [List.getElem?_take_of_lt hi] at hy
    have := hc i (by omega)
    rwa [List.getD_eq_getElem?_getD, hy] at this

end

end Go.Proofs.YtpkjbcgmhkkfiaaGreatDoor.Cod

/- What read and Decode answer, by the program. Conditions: the variables lie where the program lays them; the bytes are bytes, at most 20000. -/
namespace Go.Proofs.YtpkjbcgmhkkfiaaGreatDoor.Cod
set_option maxRecDepth 100000
open Go.ChangeShapes Go.WideShapes Go.ChangeAt Go.RowKit
open Go.Proofs.YtpkjbcgmhkkfiaaGreatDoor.Divs Go.Proofs.YtpkjbcgmhkkfiaaGreatDoor.Grow Go.Proofs.YtpkjbcgmhkkfiaaGreatDoor.Zone
open Go.Proofs.YtpkjbcgmhkkfiaaGreatDoor.By (Sk SL)
open Go.Proofs.YtpkjbcgmhkkfiaaGreatDoor.Crc (Laid)
open Go.Proofs.YtpkjbcgmhkkfiaaGreatDoor.Zo Go.Proofs.YtpkjbcgmhkkfiaaGreatDoor.Su Go.Proofs.YtpkjbcgmhkkfiaaGreatDoor.Cf Go.Proofs.YtpkjbcgmhkkfiaaGreatDoor.Conf

/-- D are the cells of c, its slices of its own. -/
def Hv (W : World) (D : Array Value) (c : Cg) : Prop := ∃ u v, D = cc c u v ∧ SL .i64 3 W 0 u c.st ∧ WL W 0 v c.ws

theorem Hv.is {W : World} {D : Array Value} {c : Cg} (h : Hv W D c) : Is W D c := by
  obtain ⟨u, v, rfl, hu, hv⟩ := h
  exact ⟨u, v, rfl, hu.sk, hv.wk⟩

theorem Hv.later {W W' : World} {D : Array Value} {c : Cg} (h : Hv W D c) (g : Later W W') : Hv W' D c := by
  obtain ⟨u, v, rfl, hu, hv⟩ := h
  exact ⟨u, v, rfl, hu.later g, hv.later g⟩

theorem Hv.same {W W' : World} {D D' : Array Value} {c : Cg} {g : Nat} (h : Hv W D c) (ho : ∀ b, b ≠ g → W'.heap[b]? = W.heap[b]?) (hR : Row g 33 D' W) : Hv W' D c := by
  obtain ⟨u, v, rfl, hu, hv⟩ := h
  exact ⟨u, v, rfl, own_same hu ho hR (by decide), own_same hv ho hR (by decide)⟩

/-- What read leaves. -/
def Rx (a0 a1 : Addr) (bs : List Int) (w : World) (e : Ending) (w' : World) : Prop :=
  ∃ D E, e = .returned (.tuple #[.agg D, E]) ∧ Later w w' ∧ (((Ka.de bs).2 = 0 ∧ E = .nilIface ∧ Hv w' D (Ka.de bs).1) ∨ ((Ka.de bs).2 ≠ 0 ∧ ErrV a0 a1 (Ka.de bs).2 E ∧ D = zr))

theorem ErrV.form {a0 a1 : Addr} {n : Int} {E : Value} (h : ErrV a0 a1 n E) : ∃ t x, E = .iface t x := by
  cases h with
  | num h => exact ⟨_, _, h⟩
  | row i h => exact ⟨_, _, h⟩
  | mark i a _ _ h => exact ⟨_, _, h⟩

set_option maxHeartbeats 4000000 in
theorem read_any (bs : List Int) (v : Value) (w : World) (hs : Sk .u8 w v bs) (hb : ∀ x ∈ bs, 0 ≤ x ∧ x ≤ 255) (hn : bs.length ≤ 20000) (a0 a1 : Addr) (hB : Base a0 a1 w) :
    Calls Tryz.prog 31 #[v] w (Rx a0 a1 bs w) := by
  have ob := Cr.op_byte bs hb
  have KO := Lib.hid (fun W (g : Later w W) => Crc.open_any bs v W (hs.later g) hb hn (hB.laid.grown g))
  have KH := Lib.hid (fun u W (h : Sk .u8 W u (Cr.op bs).1) => head_any (Cr.op bs).1 u W h ob)
  have KR := Lib.hid (fun u W (g : Later w W) (h : Sk .u8 W u ((Cr.op bs).1.drop 3)) => rows_read ((Cr.op bs).1.drop 3) u W h (fun x hx => ob x (List.mem_of_mem_drop hx)) a0 a1 (gsome g hB.v0) (gsome g hB.v1))
  have r0 := Row.new w zr 33
  have HW0 : Hid (∀ W, W = w.alloc (.cells zr 33) → Row w.heap.size 33 zr W ∧ Later w W) := Lib.hid (fun W h => h ▸ ⟨r0, (Later.refl w).put _⟩)
  have HDE := Lib.hid (show Ka.de bs = _ from by unfold Ka.de; rfl)
  clear hs hb hn hB ob r0
  go_enter Tryz.func31, Tryz.ntmps31
  go_wp2_with fail
  obtain ⟨f1, f2⟩ := HW0.out _ rfl
  refine (KO.out _ f2).mono ?_
  rintro e w1 ⟨u, rfl, hu, hg1⟩
  have Z1 := Lib.hid (f1.later hg1)
  have G1 := Lib.hid (gtrans f2 hg1)
  have HU := Lib.hid hu
  clear f1 f2 hg1 hu HW0
  by_cases h1 : (Cr.op bs).2 = 0
  · have t1 : ((Cr.op bs).2 != 0) = false := by simpa using h1
    have H1 := Lib.hid h1
    clear h1
    go_wp2_with fail
    refine (KH.out _ _ HU.out).mono ?_
    rintro e w2 ⟨r, E, rfl, hcase, hg2⟩
    have Z2 := Lib.hid (Z1.out.later hg2)
    have G2 := Lib.hid (gtrans G1.out hg2)
    clear hg2
    rcases hcase with ⟨h2, rfl, hr⟩ | ⟨h2, rfl⟩
    · have H2 := Lib.hid h2
      have HRr := Lib.hid hr
      clear h2 hr
      go_wp2_with fail
      refine (KR.out _ _ G2.out HRr.out).mono ?_
      rintro e w3 ⟨D, E, rfl, hg3, hcase⟩
      have Z3 := Lib.hid (Z2.out.later hg3)
      have G3 := Lib.hid (gtrans G2.out hg3)
      clear hg3
      rcases hcase with ⟨h3, rfl, u', v', hD, hu', hv'⟩ | ⟨h3, hE, rfl⟩
      · have HV := Lib.hid (show Hv w3 D _ from ⟨u', v', hD, hu', hv'⟩)
        have HS := Lib.hid HV.out.is.size
        have HO := Lib.hid HV.out.is.one
        have H3 := Lib.hid h3
        clear hD hu' hv' h3
        have R8 := Lib.hid (Row.new w3 zr 33)
        have L8 := Lib.hid ((Later.refl w3).put (.cells zr 33))
        go_wp2_with (first
          | (refine store_row rfl (.tmp 8) (.tmp 32) rfl w3.heap.size rfl D HS.out HO.out rfl _ rfl R8.out w3 L8.out (Nat.le_refl _) ?_; intro w4 hR4 hL4 ho4; have A3 := Lib.hid hR4.at; have HV4 := Lib.hid (HV.out.later hL4); have Z4 := Lib.hid (Z3.out.later hL4); have G4 := Lib.hid (gtrans G3.out hL4); clear hR4 hL4 ho4)
          | (refine load_at D HS.out rfl (.tmp 8) rfl w3.heap.size rfl A3.out ?_))
        have KC := Lib.hid (check_of HV4.out.is)
        refine KC.out.mono ?_
        rintro e w5 ⟨rfl, hg5⟩
        have A5 := Lib.hid (A3.out.later hg5)
        have Z5 := Lib.hid (Z4.out.later hg5)
        have G5 := Lib.hid (gtrans G4.out hg5)
        have HV5 := Lib.hid (HV4.out.later hg5)
        clear hg5
        by_cases h4 : ce (Ka.d6 ((Cr.op bs).1.drop 3)).1 = 0
        · have t4 : (ce (Ka.d6 ((Cr.op bs).1.drop 3)).1 != 0) = false := by simpa using h4
          have hde : Ka.de bs = ((Ka.d6 ((Cr.op bs).1.drop 3)).1, 0) := by
            rw [HDE.out, if_pos H1.out, if_pos H2.out, if_pos H3.out, if_pos h4]
          have HX := Lib.hid hde
          clear h4 hde
          go_wp2_with (first
            | (refine load_at D HS.out rfl (.tmp 8) rfl w3.heap.size rfl A5.out ?_)
            | (refine store_row rfl (.tmp 2) (.tmp 45) rfl w.heap.size rfl D HS.out HO.out rfl _ rfl Z5.out w G5.out (Nat.le_refl _) ?_; intro W' hR hL ho))
          refine bodyPost_ret (results_two (fn := Tryz.f31) Tryz.results31 _ _ w.heap.size D HS.out rfl hR.at) rfl ?_
          refine ⟨D, _, rfl, hL, .inl ⟨by rw [HX.out], rfl, ?_⟩⟩
          rw [HX.out]
          exact HV5.out.same ho Z5.out
        · have t4 : (ce (Ka.d6 ((Cr.op bs).1.drop 3)).1 != 0) = true := by simpa using h4
          have hde : (Ka.de bs).2 = ce (Ka.d6 ((Cr.op bs).1.drop 3)).1 := by
            rw [HDE.out, if_pos H1.out, if_pos H2.out, if_pos H3.out, if_neg h4]
          have HX := Lib.hid hde
          have HN := Lib.hid h4
          clear h4 hde
          go_wp2_with (refine store_row rfl (.tmp 2) (.tmp 42) rfl w.heap.size rfl zr rfl zr_one rfl _ rfl Z5.out w G5.out (Nat.le_refl _) ?_; intro W' hR hL ho)
          refine bodyPost_ret (results_two (fn := Tryz.f31) Tryz.results31 _ _ w.heap.size zr rfl rfl hR.at) rfl ?_
          exact ⟨zr, _, rfl, hL, .inr ⟨by rw [HX.out]; exact HN.out, by rw [HX.out]; exact .num rfl, rfl⟩⟩
      · have hde : (Ka.de bs).2 = (Ka.d6 ((Cr.op bs).1.drop 3)).2 := by
          rw [HDE.out, if_pos H1.out, if_pos H2.out, if_neg h3]
        have HX := Lib.hid hde
        have HE := Lib.hid hE
        have HN := Lib.hid h3
        obtain ⟨t, x, rfl⟩ := hE.form
        have R8 := Lib.hid (Row.new w3 zr 33)
        have L8 := Lib.hid ((Later.refl w3).put (.cells zr 33))
        clear h3 hE hde
        go_wp2_with (first
          | (refine store_row rfl (.tmp 8) (.tmp 32) rfl w3.heap.size rfl zr rfl zr_one rfl _ rfl R8.out w3 L8.out (Nat.le_refl _) ?_; intro w4 hR4 hL4 ho4; have Z4 := Lib.hid (Z3.out.later hL4); have G4 := Lib.hid (gtrans G3.out hL4); clear hR4 hL4 ho4)
          | (refine store_row rfl (.tmp 2) (.tmp 36) rfl w.heap.size rfl zr rfl zr_one rfl _ rfl Z4.out w G4.out (Nat.le_refl _) ?_; intro W' hR hL ho))
        refine bodyPost_ret (results_two (fn := Tryz.f31) Tryz.results31 _ _ w.heap.size zr rfl rfl hR.at) rfl ?_
        exact ⟨zr, _, rfl, hL, .inr ⟨by rw [HX.out]; exact HN.out, by rw [HX.out]; exact HE.out, rfl⟩⟩
    · have hde : (Ka.de bs).2 = Ka.hE (Cr.op bs).1 := by
        rw [HDE.out, if_pos H1.out, if_neg h2]
      have HX := Lib.hid hde
      have HN := Lib.hid h2
      clear h2 hde
      go_wp2_with (refine store_row rfl (.tmp 2) (.tmp 27) rfl w.heap.size rfl zr rfl zr_one rfl _ rfl Z2.out w G2.out (Nat.le_refl _) ?_; intro W' hR hL ho)
      refine bodyPost_ret (results_two (fn := Tryz.f31) Tryz.results31 _ _ w.heap.size zr rfl rfl hR.at) rfl ?_
      exact ⟨zr, _, rfl, hL, .inr ⟨by rw [HX.out]; exact HN.out, by rw [HX.out]; exact .num rfl, rfl⟩⟩
  · have t1 : ((Cr.op bs).2 != 0) = true := by simpa using h1
    have hde : (Ka.de bs).2 = (Cr.op bs).2 := by
      rw [HDE.out, if_neg h1]
    have HX := Lib.hid hde
    have HN := Lib.hid h1
    clear h1 hde
    go_wp2_with (refine store_row rfl (.tmp 2) (.tmp 17) rfl w.heap.size rfl zr rfl zr_one rfl _ rfl Z1.out w G1.out (Nat.le_refl _) ?_; intro W' hR hL ho)
    refine bodyPost_ret (results_two (fn := Tryz.f31) Tryz.results31 _ _ w.heap.size zr rfl rfl hR.at) rfl ?_
    exact ⟨zr, _, rfl, hL, .inr ⟨by rw [HX.out]; exact HN.out, by rw [HX.out]; exact .num rfl, rfl⟩⟩

end Go.Proofs.YtpkjbcgmhkkfiaaGreatDoor.Cod

/- What Decode answers, by the program. Conditions: the variables lie where the program lays them; the bytes are bytes, at most 20000. -/
namespace Go.Proofs.YtpkjbcgmhkkfiaaGreatDoor.Cod
set_option maxRecDepth 100000
open Go.ChangeShapes Go.WideShapes Go.ChangeAt Go.RowKit
open Go.Proofs.YtpkjbcgmhkkfiaaGreatDoor.Divs Go.Proofs.YtpkjbcgmhkkfiaaGreatDoor.Grow Go.Proofs.YtpkjbcgmhkkfiaaGreatDoor.Zone
open Go.Proofs.YtpkjbcgmhkkfiaaGreatDoor.By (Sk SL)
open Go.Proofs.YtpkjbcgmhkkfiaaGreatDoor.Crc (Laid)
open Go.Proofs.YtpkjbcgmhkkfiaaGreatDoor.Each
open Go.Proofs.YtpkjbcgmhkkfiaaGreatDoor.Zo Go.Proofs.YtpkjbcgmhkkfiaaGreatDoor.Su Go.Proofs.YtpkjbcgmhkkfiaaGreatDoor.Cf Go.Proofs.YtpkjbcgmhkkfiaaGreatDoor.Conf

theorem but_sets (B : Nat) (vs : List Value) : ∀ (W : World) (o : Nat), But B W (W.setCells B o vs) := by
  induction vs with
  | nil => intro W o; exact But.refl _ _
  | cons y r ih => intro W o; exact (But.set W o y).trans (ih _ _)

/-- A configuration is stored whole: a step of a region that draws. -/
theorem step_store_row {ops : Array Oper} {o : Oper} {a : Act} {W : World} {K : Act → World → Prop} {Q : Exit → Act → World → Prop} {E : Prop} (hg : o.guard = none) (x y : Operand) (ho : o.op = .store 33 x y) (g : Nat) (hx : a.eval x = .pointer (some ⟨g, 0, none⟩)) (D : Array Value) (hD : D.size = 37) (hone : D.all (·.oneCell') = true) (hy : a.eval y = .agg D)
    (cs : Array Value) {t : TypeId} (hcs : cs.size = 37) (hR : Row g t cs W) (hK : ∀ W', Row g t D W' → But g W W' → (∀ b, b ≠ g → W'.heap[b]? = W.heap[b]?) → K (a.put o.dst undef) W') : if Region.wanted o (yielded ops a.tmps) = true then Oper.wp Tryz.prog o a W K Q else E := by
  have hw : Region.wanted o (yielded ops a.tmps) = true := by simp [Region.wanted, hg]
  rw [if_pos hw]
  refine wp_store_mid 33 x y ho g 0 D hx hy ?_ (by rw [hD]; kernel_rfl) hone ?_
  · have := hR.there
    rw [hcs] at this
    rw [hD]
    exact this
  · refine hK _ ?_ (but_sets g _ _ _) (fun b hb => heap_sets_other hb _ _ _)
    have := Row.sets D.toList W cs 0 hR
    rwa [sets_all cs D (by omega)] at this

/-- What Decode leaves. -/
def Dc (bs : List Int) (w : World) (e : Ending) (w' : World) : Prop :=
  ∃ D, e = .returned (.tuple #[.agg D, .int .i64 (Ka.de bs).2]) ∧ Later w w' ∧ (((Ka.de bs).2 = 0 ∧ Hv w' D (Ka.de bs).1) ∨ ((Ka.de bs).2 ≠ 0 ∧ D = zr))

set_option maxHeartbeats 4000000 in
theorem decode_any (bs : List Int) (v : Value) (w : World) (hs : Sk .u8 w v bs) (hb : ∀ x ∈ bs, 0 ≤ x ∧ x ≤ 255) (hn : bs.length ≤ 20000) (a0 a1 : Addr) (hB : Base a0 a1 w) :
    Calls Tryz.prog 15 #[v] w (Dc bs w) := by
  have KR := Lib.hid (fun W (g : Later w W) => read_any bs v W (hs.later g) hb hn a0 a1 (hB.later g))
  have HB := Lib.hid hB
  have r0 := Row.new w zr 33
  have HW0 : Hid (∀ W, W = w.alloc (.cells zr 33) → Row w.heap.size 33 zr W ∧ Later w W) := Lib.hid (fun W h => h ▸ ⟨r0, (Later.refl w).put _⟩)
  clear hs hb hn hB r0
  go_enter Tryz.func15, Tryz.ntmps15
  go_wp2_with fail
  obtain ⟨f1, f2⟩ := HW0.out _ rfl
  refine (KR.out _ f2).mono ?_
  rintro e w1 ⟨D, E, rfl, hg1, hcase⟩
  have Z1 := Lib.hid (f1.later hg1)
  have G1 := Lib.hid (gtrans f2 hg1)
  obtain ⟨N, hN⟩ : ∃ N, (Ka.de bs).2 = N := ⟨_, rfl⟩
  have HN := Lib.hid hN
  obtain ⟨Y, hY⟩ : ∃ Y : Prop, Y = True := ⟨_, rfl⟩
  have HALL : Hid (D.size = 37 ∧ D.all (·.oneCell') = true ∧ (E = .nilIface ∧ N = 0 ∧ Hv w1 D (Ka.de bs).1 ∨ N ≠ 0 ∧ ErrV a0 a1 N E ∧ D = zr)) := Lib.hid (by
    rcases hcase with ⟨h1, h2, h3⟩ | ⟨h1, h2, h3⟩
    · exact ⟨h3.is.size, h3.is.one, .inl ⟨h2, by rw [← hN]; exact h1, h3⟩⟩
    · rw [hN] at h1 h2
      exact ⟨by rw [h3]; rfl, by rw [h3]; exact zr_one, .inr ⟨h1, h2, h3⟩⟩)
  have KN : Hid (∀ W, Later w1 W → Calls Tryz.prog 32 #[E] W fun e w' => e = .returned (.int .i64 N) ∧ Later W w') := Lib.hid (fun W g => by
    rcases HALL.out.2.2 with ⟨h2, h1, _⟩ | ⟨_, h2, _⟩
    · rw [h2, h1]
      exact num_nil a0 a1 W (HB.out.later (gtrans G1.out g))
    · exact num_any a0 a1 N E W (HB.out.later (gtrans G1.out g)) h2)
  have R8 := Lib.hid (Row.new w1 zr 33)
  have L8 := Lib.hid ((Later.refl w1).put (.cells zr 33))
  clear f1 f2 hg1 hcase hN hY Y HW0
  go_wp2_with (refine store_row rfl (.tmp 4) (.tmp 9) rfl w1.heap.size rfl D HALL.out.1 HALL.out.2.1 rfl _ rfl R8.out w1 L8.out (Nat.le_refl _) ?_; intro w4 hR4 hL4 ho4; have A4 := Lib.hid hR4; have Z4 := Lib.hid (Z1.out.later hL4); have G4 := Lib.hid (gtrans G1.out hL4); have HL4 := Lib.hid hL4; clear hR4 hL4 ho4)
  have hpw : w.heap.size ≠ w1.heap.size := by have := Z1.out.lt; omega
  obtain ⟨S, hS⟩ : ∃ S : World → Prop, S = fun W => At W w1.heap.size D := ⟨_, rfl⟩
  have hS0 : S w4.drew := by rw [hS]; exact A4.out.at
  refine wp_region_held (S := S) (by kernel_rfl) ?_
  refine wpAnyH_take (i := 0) (v := .agg D.toList.toArray) rfl (by kernel_rfl) (by kernel_rfl) (by kernel_rfl) (fun _ _ _ h => h) (yieldsIf_load_mid (by rfl) 33 (.tmp 4) rfl w1.heap.size 0 rfl D.toList _ (fun W h => by rw [hS] at h; intro j y hy; rw [Nat.zero_add]; exact h j y (by simpa using hy)) Tryz.underlying33 rfl (by rw [Array.length_toList, HALL.out.1]; kernel_rfl)) hS0 ?_
  refine wpAnyH_take (i := 1) (v := E) rfl (by kernel_rfl) (by kernel_rfl) (by kernel_rfl) (fun _ _ _ h => h) (Or.inl ⟨by rfl, fun W _ => by go_simp⟩) hS0 ?_
  refine wpAnyH_ready (rs := [2]) (by kernel_rfl) (by simp) (AllReadyH.cons rfl (fun K hK => ?_) AllReadyH.nil)
  refine ite_yes rfl ?_
  unfold Oper.wp
  go_simp
  refine (KN.out _ (gtrans HL4.out (later_drewN w4 1))).mono ?_
  rintro e w5 ⟨rfl, hg5⟩
  have hg5' : Later w4 w5 := gtrans (later_drewN w4 1) hg5
  have A5 := Lib.hid (A4.out.later hg5')
  have Z5 := Lib.hid (Z4.out.later hg5')
  have G5 := Lib.hid (gtrans G4.out hg5')
  have HL5 := Lib.hid (gtrans HL4.out hg5')
  have hS5 : S w5 := by rw [hS]; exact A5.out.at
  refine hK.out _ _ hS5 (fun _ => ?_)
  clear hK K hg5 hg5'
  refine wpAnyH_ready (rs := [3]) (by kernel_rfl) (by simp) (AllReadyH.cons rfl (fun K hK => ?_) AllReadyH.nil)
  refine step_store_row rfl (.tmp 2) (.tmp 11) rfl w.heap.size rfl D HALL.out.1 HALL.out.2.1 rfl _ rfl Z5.out ?_
  intro w6 hr6 hb6 ho6
  have R6 := Lib.hid hr6
  have B6 := Lib.hid hb6
  have HO6 := Lib.hid ho6
  have hS6 : S w6 := by rw [hS]; exact (hb6.row (Ne.symm hpw) A5.out).at
  refine hK.out _ _ hS6 (fun _ => ?_)
  clear hK K hr6 hb6 ho6
  refine wpAnyH_take (i := 4) (v := .int .i64 N) rfl (by kernel_rfl) (by kernel_rfl) (by kernel_rfl) (fun _ _ _ h => h) (Or.inl ⟨by rfl, fun W _ => by go_simp⟩) hS6 ?_
  refine wpAnyH_done (by kernel_rfl) ?_ _
  go_wp2_with fail
  refine bodyPost_ret (results_two (fn := Tryz.f15) Tryz.results15 _ _ w.heap.size D HALL.out.1 rfl R6.out.at) rfl ?_
  refine ⟨D, by rw [HN.out]; rfl, B6.out.later G5.out (Nat.le_refl _), ?_⟩
  rcases HALL.out.2.2 with ⟨_, h1, h3⟩ | ⟨h1, _, h3⟩
  · exact .inl ⟨HN.out.trans h1, (h3.later HL5.out).same HO6.out Z5.out⟩
  · exact .inr ⟨by rw [HN.out]; exact h1, h3⟩

end Go.Proofs.YtpkjbcgmhkkfiaaGreatDoor.Cod

/- The chapter's example, played by the program. Condition: the variables lie where the program lays them. -/
namespace Go.Proofs.YtpkjbcgmhkkfiaaGreatDoor.Cod
set_option maxRecDepth 100000
open Go.ChangeShapes Go.WideShapes Go.ChangeAt Go.RowKit
open Go.Proofs.YtpkjbcgmhkkfiaaGreatDoor.Divs Go.Proofs.YtpkjbcgmhkkfiaaGreatDoor.Grow Go.Proofs.YtpkjbcgmhkkfiaaGreatDoor.Zone
open Go.Proofs.YtpkjbcgmhkkfiaaGreatDoor.By (Sk SL)
open Go.Proofs.YtpkjbcgmhkkfiaaGreatDoor.Zo Go.Proofs.YtpkjbcgmhkkfiaaGreatDoor.Su Go.Proofs.YtpkjbcgmhkkfiaaGreatDoor.Cf Go.Proofs.YtpkjbcgmhkkfiaaGreatDoor.Conf

/-- What is decoded of what was encoded is the same. -/
theorem same_cn (c : Cg) : (sb c (Ka.cn c) && tt c (Ka.cn c)) = true := by
  have hs : sq c.s (Ka.cn c).s = true := by
    unfold sq
    rw [List.all_eq_true]
    intro i hi
    have := Ka.r5_get c.s i (List.mem_range.1 hi)
    simp only [Ka.cn, this, beq_self_eq_true]
  have ht : tq c (Ka.cn c) = true := by simp [tq, Ka.cn]
  have hz : zq c.z (Ka.cn c).z = true := by simp [zq, Ka.cn]
  rw [Bool.and_eq_true]
  constructor
  · unfold sb
    rw [ht]
    simp [Ka.cn]
  · unfold tt
    rw [hz, hs]
    simp [Ka.cn]

theorem en_long (c : Cg) (h : 20 ≤ (Ka.by6 c).length) : 20 < (Ka.en c).length := by
  unfold Ka.en
  rw [Cr.se_len]
  omega

theorem en_byte {c : Cg} (h : ce c = 0) (hn : c.st.length ≤ 200) : ∀ x ∈ Ka.en c, 0 ≤ x ∧ x ≤ 255 :=
  Cr.se_byte _ (Ka.rws_byte (Ka.fit_ok h) hn (Ka.ce_parts h).2.2.2.2.2.1 6 (Nat.le_refl _))

theorem en_len {c : Cg} (h : ce c = 0) (hn : c.st.length ≤ 80) : (Ka.en c).length ≤ 2402 := by
  unfold Ka.en
  rw [Cr.se_len]
  have := Ka.by_len hn (Ka.ce_parts h).2.2.2.2.2.1
  omega

theorem pc_long : 20 < (Ka.en pc).length := en_long pc (by decide +kernel)

set_option maxHeartbeats 4000000 in
theorem awake_any (w : World) (a0 a1 : Addr) (hB : Base a0 a1 w) : Calls Tryz.prog 8 #[] w fun e w' => e = .returned (.bool true) ∧ Later w w' := by
  have HB := Lib.hid hB
  have KP := Lib.hid (plain_any w)
  clear hB
  go_enter Tryz.func8, Tryz.ntmps8
  go_wp2_with fail
  refine KP.out.mono ?_
  rintro e w1 ⟨u, v, rfl, hu, hv, hg1⟩
  obtain ⟨C, hC⟩ : ∃ C, C = cc pc u v := ⟨_, rfl⟩
  rw [← hC]
  have HI := Lib.hid (show Is w1 C pc from ⟨u, v, hC, hu, hv⟩)
  have HS := Lib.hid HI.out.size
  have HO := Lib.hid HI.out.one
  have HG1 := Lib.hid hg1
  clear hu hv hC hg1 KP
  go_wp2_with (first | (refine store_row rfl (.tmp 1) (.tmp 8) rfl w1.heap.size rfl C HS.out HO.out rfl _ rfl (Row.new w1 zr _) w1 ((Later.refl _).alloc zr _) (Nat.le_refl _) ?_; intro w2 hR2 hL2 _; have HA2 := Lib.hid hR2.at; have HL2 := Lib.hid hL2; clear hR2 hL2) | (refine load_at C HS.out rfl (.tmp 1) rfl w1.heap.size rfl HA2.out ?_))
  have KE := enc_of C pc w2 (HI.out.later HL2.out) (HB.out.later (gtrans HG1.out HL2.out)).laid (by decide)
  rw [if_pos pc_ok, pc_ok] at KE
  have KEH := Lib.hid KE
  clear KE
  refine KEH.out.mono ?_
  rintro e w3 ⟨b, rfl, hb, hg3⟩
  have HBy := Lib.hid hb.sk
  have HL3 := Lib.hid (gtrans HL2.out hg3)
  have HA3 := Lib.hid (HA2.out.later hg3)
  clear hb hg3
  go_wp2_with fail
  refine (decode_any (Ka.en pc) b w3 HBy.out (en_byte pc_ok (by decide)) (by have := en_len pc_ok (by decide); omega) a0 a1 (HB.out.later (gtrans HG1.out HL3.out))).mono ?_
  rintro e w4 ⟨D, rfl, hg4, hcase⟩
  have hde := Ka.de_en pc pc_ok (by decide)
  rw [hde] at hcase ⊢
  have hv4 : Hv w4 D (Ka.cn pc) := by
    rcases hcase with ⟨_, h⟩ | ⟨h, _⟩
    · exact h
    · exact absurd rfl h
  have HD := Lib.hid hv4
  have DS := Lib.hid hv4.is.size
  have DO := Lib.hid hv4.is.one
  have HL4 := Lib.hid (gtrans HL3.out hg4)
  have HA4 := Lib.hid (HA3.out.later hg4)
  clear hcase hv4 hg4 hde
  go_wp2_with (refine store_row rfl (.tmp 4) (.tmp 17) rfl w4.heap.size rfl D DS.out DO.out rfl _ rfl (Row.new w4 zr _) w4 ((Later.refl _).alloc zr _) (Nat.le_refl _) ?_; intro w5 hR5 hL5 _; have HD5 := Lib.hid hR5.at; have HL5 := Lib.hid (gtrans HL4.out hL5); have HA5 := Lib.hid (HA4.out.later hL5); have HV5 := Lib.hid (HD.out.later hL5); clear hR5 hL5)
  refine (Crc.rseal_any [78, 87, 2] _ _ (By.sk_new .u8 5 [78, 87, 2] w5 (by simp)) (by simp) (by simp)).mono ?_
  rintro e w6 ⟨s, rfl, hs, hg6⟩
  have HS6 := Lib.hid hs
  have G56 := Lib.hid (gtrans ((Later.refl w5).put _) hg6)
  clear hs hg6
  go_wp2_with fail
  refine (decode_any (Cr.se [78, 87, 2]) s w6 HS6.out (Cr.se_byte _ (by simp)) (by rw [Cr.se_len]; simp) a0 a1 (HB.out.later (gtrans HG1.out (gtrans HL5.out G56.out)))).mono ?_
  rintro e w7 ⟨D', rfl, hg7, hcase⟩
  rw [Ka.de_two] at hcase ⊢
  have hz : D' = zr := by
    rcases hcase with ⟨h, _⟩ | ⟨_, h⟩
    · exact absurd h (by decide)
    · exact h
  subst hz
  have G57 := Lib.hid (gtrans G56.out hg7)
  clear hcase hg7
  go_wp2_with (first
    | (refine store_row rfl (.tmp 6) (.tmp 23) rfl w7.heap.size rfl zr rfl zr_one rfl _ rfl (Row.new w7 zr _) w7 ((Later.refl _).alloc zr _) (Nat.le_refl _) ?_; intro w8 hR8 hL8 _; have G58 := Lib.hid (gtrans G57.out hL8); have HA8 := Lib.hid (HA5.out.later G58.out); have HD8 := Lib.hid (HD5.out.later G58.out); clear hR8 hL8)
    | (refine load_in C HS.out (by rfl) (.tmp 1) rfl w1.heap.size rfl HA8.out ?_)
    | (refine load_in D DS.out (by rfl) (.tmp 4) rfl w4.heap.size rfl HD8.out ?_))
  have KS := rsame_of (HI.out.later (gtrans HL5.out G58.out)) (HV5.out.later G58.out).is
  rw [same_cn] at KS
  refine KS.mono ?_
  rintro e w9 ⟨rfl, hg9⟩
  have HL9 := Lib.hid (gtrans HG1.out (gtrans HL5.out (gtrans G58.out hg9)))
  obtain ⟨ad, cap, eb, _⟩ := HBy.out.len
  subst eb
  have t20 : decide ((20 : Int) < ((Ka.en pc).length : Int)) = true := by have := pc_long; simp; omega
  have t20' : decide (((Ka.en pc).length : Int) > 20) = true := t20
  clear KS hg9
  go_wp2_with fail
  go_ret
  exact ⟨rfl, HL9.out⟩

end Go.Proofs.YtpkjbcgmhkkfiaaGreatDoor.Cod

/- What is decoded is encoded in just those bytes, and may be. Condition: the variables lie where the program lays them. -/
namespace Go.Proofs.YtpkjbcgmhkkfiaaGreatDoor.Cod
set_option maxRecDepth 100000
open Go.ChangeShapes Go.WideShapes Go.ChangeAt Go.RowKit
open Go.Proofs.YtpkjbcgmhkkfiaaGreatDoor.Divs Go.Proofs.YtpkjbcgmhkkfiaaGreatDoor.Grow Go.Proofs.YtpkjbcgmhkkfiaaGreatDoor.Zone
open Go.Proofs.YtpkjbcgmhkkfiaaGreatDoor.By (Sk SL)
open Go.Proofs.YtpkjbcgmhkkfiaaGreatDoor.Zo Go.Proofs.YtpkjbcgmhkkfiaaGreatDoor.Su Go.Proofs.YtpkjbcgmhkkfiaaGreatDoor.Cf Go.Proofs.YtpkjbcgmhkkfiaaGreatDoor.Conf

theorem zr_is (w : World) : Is w zr Ka.c0 := ⟨_, _, rfl, By.sk_nil _ _, ⟨none, 0, rfl, by decide, by omega, by simp, by simp [Ka.c0, fl]⟩⟩

theorem zr_same : (sb Ka.c0 Ka.c0 && tt Ka.c0 Ka.c0) = true := by decide

set_option maxHeartbeats 4000000 in
theorem only_core (w : World) (a0 a1 : Addr) (hB : Base a0 a1 w) (l0 : List Int) (v0 : Value) (hs0 : Sk .u8 w v0 l0) (hl0 : ∀ x ∈ l0, 0 ≤ x ∧ x ≤ 255) :
    Calls Tryz.prog 5 #[v0] w fun e w' => e = .returned (.bool true) ∧ Later w w' := by
  have A := Lib.hid (fun W (g : Later w W) => awake_any W a0 a1 (hB.later g))
  have HB := Lib.hid hB
  have HS := Lib.hid hs0
  have HY := Lib.hid hl0
  obtain ⟨ad, cap, rfl, hm⟩ := hs0.len
  clear hs0 hl0 hB
  by_cases hlen : 1200 < l0.length
  · have t : decide ((1200 : Int) < (l0.length : Int)) = true := by simp; omega
    have t' : decide ((l0.length : Int) > 1200) = true := t
    clear hlen
    go_enter Tryz.func5, Tryz.ntmps5
    go_wp2_with fail
    refine (A.out _ (Later.refl _)).mono ?_
    rintro e w1 ⟨rfl, hg1⟩
    go_wp2_with fail
    go_ret
    exact ⟨rfl, hg1⟩
  · have t : decide ((1200 : Int) < (l0.length : Int)) = false := by simp; omega
    have t' : decide ((l0.length : Int) > 1200) = false := t
    have HL1 := Lib.hid ((Later.refl w).put (.cells #[] 5))
    have HO1 := Lib.hid (By.SL.made w w (Later.refl _))
    have HLN := Lib.hid hlen
    clear hlen
    go_enter Tryz.func5, Tryz.ntmps5
    go_wp2_with (refine By.append_sk rfl (.tmp 12) (.tmp 13) rfl w HL1.out _ [] rfl HO1.out _ l0 rfl (HS.out.later HL1.out) (by have := HLN.out; simp; omega) ?_; intro b w2 ho2 hg2; have HO2 := Lib.hid ho2; have HG2 := Lib.hid hg2; clear ho2 hg2)
    refine (decode_any l0 b w2 (by have := HO2.out.sk; simpa using this) HY.out (by have := HLN.out; omega) a0 a1 (HB.out.later HG2.out)).mono ?_
    rintro e w3 ⟨D, rfl, hg3, hcase⟩
    have HG3 := Lib.hid (gtrans HG2.out hg3)
    obtain ⟨N, hN⟩ : ∃ N, (Ka.de l0).2 = N := ⟨_, rfl⟩
    rw [hN] at hcase ⊢
    have HN := Lib.hid hN
    clear hg3 hN
    rcases hcase with ⟨rfl, hv⟩ | ⟨hne, rfl⟩
    · have HV := Lib.hid hv
      have DS := Lib.hid hv.is.size
      have DO := Lib.hid hv.is.one
      obtain ⟨e1, e2, e3⟩ := Ka.en_de l0 HY.out HN.out
      have E1 := Lib.hid e1
      have E2 := Lib.hid e2
      have E3 := Lib.hid e3
      clear hv e1 e2 e3
      go_wp2_with (first
        | (refine store_row rfl (.tmp 3) (.tmp 16) rfl w3.heap.size rfl D DS.out DO.out rfl _ rfl (Row.new w3 zr _) w3 ((Later.refl _).alloc zr _) (Nat.le_refl _) ?_; intro w4 hR4 hL4 _; have HA4 := Lib.hid hR4.at; have HL4 := Lib.hid (gtrans HG3.out hL4); have HV4 := Lib.hid (HV.out.later hL4); clear hR4 hL4)
        | (refine load_at D DS.out rfl (.tmp 3) rfl w3.heap.size rfl HA4.out ?_))
      have KE := enc_of D _ w4 HV4.out.is (HB.out.later HL4.out).laid (by have := E3.out; omega)
      rw [if_pos E2.out, E2.out, E1.out] at KE
      refine KE.mono ?_
      rintro e w5 ⟨a, rfl, ha, hg5⟩
      have HAa := Lib.hid ha.sk
      have HL5 := Lib.hid (gtrans HL4.out hg5)
      have HA5 := Lib.hid (HA4.out.later hg5)
      have HV5 := Lib.hid (HV4.out.later hg5)
      clear ha hg5 KE
      go_wp2_with fail
      refine (A.out _ HL5.out).mono ?_
      rintro e w6 ⟨rfl, hg6⟩
      have HL6 := Lib.hid (gtrans HL5.out hg6)
      have HA6 := Lib.hid (HA5.out.later hg6)
      have HV6 := Lib.hid (HV5.out.later hg6)
      have HAa6 := Lib.hid (HAa.out.later hg6)
      clear hg6
      go_wp2_with fail
      refine (By.bsame_yes l0 a _ w6 HAa6.out (HS.out.later HL6.out)).mono ?_
      rintro e w7 ⟨rfl, hg7⟩
      have HL7 := Lib.hid (gtrans HL6.out hg7)
      have HA7 := Lib.hid (HA6.out.later hg7)
      have HV7 := Lib.hid (HV6.out.later hg7)
      clear hg7
      go_wp2_with (refine load_in D DS.out (by rfl) (.tmp 3) rfl w3.heap.size rfl HA7.out ?_)
      have KC := check_of HV7.out.is
      rw [E2.out] at KC
      refine KC.mono ?_
      rintro e w8 ⟨rfl, hg8⟩
      have HL8 := Lib.hid (gtrans HL7.out hg8)
      clear KC hg8
      go_wp2_with fail
      go_ret
      exact ⟨rfl, HL8.out⟩
    · have t2 : (N != 0) = true := by simpa using hne
      clear hne
      go_wp2_with (refine store_row rfl (.tmp 3) (.tmp 16) rfl w3.heap.size rfl zr rfl zr_one rfl _ rfl (Row.new w3 zr _) w3 ((Later.refl _).alloc zr _) (Nat.le_refl _) ?_; intro w4 hR4 hL4 _; have HA4 := Lib.hid hR4.at; have HL4 := Lib.hid (gtrans HG3.out hL4); clear hR4 hL4)
      refine (A.out _ HL4.out).mono ?_
      rintro e w5 ⟨rfl, hg5⟩
      have HL5 := Lib.hid (gtrans HL4.out hg5)
      have HA5 := Lib.hid (HA4.out.later hg5)
      clear hg5
      go_wp2_with (refine load_in zr rfl (by rfl) (.tmp 3) rfl w3.heap.size rfl HA5.out ?_)
      have KS := rsame_of (zr_is w5) (zr_is w5)
      rw [zr_same] at KS
      refine KS.mono ?_
      rintro e w6 ⟨rfl, hg6⟩
      have HL6 := Lib.hid (gtrans HL5.out hg6)
      clear KS hg6
      go_wp2_with fail
      go_ret
      exact ⟨rfl, HL6.out⟩

end Go.Proofs.YtpkjbcgmhkkfiaaGreatDoor.Cod

/- What is encoded is decoded as it was. Condition: the variables lie where the program lays them. -/
namespace Go.Proofs.YtpkjbcgmhkkfiaaGreatDoor.Cod
set_option maxRecDepth 100000
open Go.ChangeShapes Go.WideShapes Go.ChangeAt Go.RowKit
open Go.Proofs.YtpkjbcgmhkkfiaaGreatDoor.Divs Go.Proofs.YtpkjbcgmhkkfiaaGreatDoor.Grow Go.Proofs.YtpkjbcgmhkkfiaaGreatDoor.Zone
open Go.Proofs.YtpkjbcgmhkkfiaaGreatDoor.By (Sk SL)
open Go.Proofs.YtpkjbcgmhkkfiaaGreatDoor.Zo Go.Proofs.YtpkjbcgmhkkfiaaGreatDoor.Su Go.Proofs.YtpkjbcgmhkkfiaaGreatDoor.Cf Go.Proofs.YtpkjbcgmhkkfiaaGreatDoor.Conf

set_option maxHeartbeats 4000000 in
theorem back_core (w : World) (a0 a1 : Addr) (hB : Base a0 a1 w) (D : Array Value) (c : Cg) (hc : Is w D c) :
    Calls Tryz.prog 4 #[.agg D] w fun e w' => e = .returned (.bool true) ∧ Later w w' := by
  have A := Lib.hid (fun W (g : Later w W) => awake_any W a0 a1 (hB.later g))
  have HB := Lib.hid hB
  have HC := Lib.hid hc
  have KF := Lib.hid (fun W (g : Later w W) => few_of (hc.later g))
  have KO := Lib.hid (fun W (g : Later w W) hf => own_of (hc.later g) hf)
  have HZ := Lib.hid hc.size
  have HL0 := Lib.hid ((Later.refl w).alloc D 33)
  have HA0 := Lib.hid (At.new w D 33)
  have HW := Lib.hid (fw_iff c)
  clear hc hB
  go_enter Tryz.func4, Tryz.ntmps4
  go_wp2_with (refine load_at D HZ.out rfl (.tmp 1) rfl w.heap.size rfl HA0.out ?_)
  refine (KF.out _ HL0.out).mono ?_
  rintro e w1 ⟨rfl, hg1⟩
  have HL1 := Lib.hid (gtrans HL0.out hg1)
  have HA1 := Lib.hid (HA0.out.later hg1)
  clear hg1 HA0
  cases e1 : fw c with
  | false =>
    go_wp2_with fail
    refine (A.out _ HL1.out).mono ?_
    rintro e w2 ⟨rfl, hg2⟩
    have HL2 := Lib.hid (gtrans HL1.out hg2)
    clear hg2
    go_wp2_with fail
    go_ret
    exact ⟨rfl, HL2.out⟩
  | true =>
    have HFW := Lib.hid e1
    have HST := Lib.hid (HW.out.mp e1)
    clear e1
    go_wp2_with (refine load_at D HZ.out rfl (.tmp 1) rfl w.heap.size rfl HA1.out ?_)
    refine (KO.out _ HL1.out HFW.out).mono ?_
    rintro e w2 ⟨E, rfl, ho, hg2⟩
    have HL2 := Lib.hid (gtrans HL1.out hg2)
    have HA2 := Lib.hid (HA1.out.later hg2)
    have HE := Lib.hid ho.is
    clear ho hg2 HA1
    go_wp2_with fail
    have KE := Lib.hid (enc_of E c w2 HE.out (HB.out.later HL2.out).laid (by have := HST.out.1; omega))
    refine KE.out.mono ?_
    rintro e w3 ⟨u, rfl, hu, hg3⟩
    have HU := Lib.hid hu.sk
    have HL3 := Lib.hid (gtrans HL2.out hg3)
    have HA3 := Lib.hid (HA2.out.later hg3)
    clear hu hg3 KE HA2 HE
    by_cases h0 : ce c = 0
    · rw [if_pos h0] at HU
      have HDE := Lib.hid (Ka.de_en c h0 (by have := HST.out.1; omega))
      have HEB := Lib.hid (en_byte h0 (by have := HST.out.1; omega))
      have HEN := Lib.hid (en_len h0 HST.out.1)
      rw [h0]
      clear h0
      obtain ⟨ad, cap, eu, _⟩ := HU.out.len
      subst eu
      have t4 : decide (((Ka.en c).length : Int) ≤ 4096) = true := by have := HEN.out; simp; omega
      go_wp2_with fail
      refine (decode_any (Ka.en c) _ w3 HU.out HEB.out (by have := HEN.out; omega) a0 a1 (HB.out.later HL3.out)).mono ?_
      rintro e w4 ⟨X, rfl, hg4, hcase⟩
      rw [HDE.out] at hcase ⊢
      have hv4 : Hv w4 X (Ka.cn c) := by
        rcases hcase with ⟨_, h⟩ | ⟨h, _⟩
        · exact h
        · exact absurd rfl h
      have HV := Lib.hid hv4
      have XS := Lib.hid hv4.is.size
      have XO := Lib.hid hv4.is.one
      have HL4 := Lib.hid (gtrans HL3.out hg4)
      have HA4 := Lib.hid (HA3.out.later hg4)
      clear hcase hv4 hg4 HA3
      go_wp2_with (refine store_row rfl (.tmp 5) (.tmp 34) rfl w4.heap.size rfl X XS.out XO.out rfl _ rfl (Row.new w4 zr _) w4 ((Later.refl _).alloc zr _) (Nat.le_refl _) ?_; intro w5 hR5 hL5 _; have HX5 := Lib.hid hR5.at; have HL5 := Lib.hid (gtrans HL4.out hL5); have HA5 := Lib.hid (HA4.out.later hL5); have HV5 := Lib.hid (HV.out.later hL5); clear hR5 hL5)
      refine (A.out _ HL5.out).mono ?_
      rintro e w6 ⟨rfl, hg6⟩
      have HL6 := Lib.hid (gtrans HL5.out hg6)
      have HA6 := Lib.hid (HA5.out.later hg6)
      have HX6 := Lib.hid (HX5.out.later hg6)
      have HV6 := Lib.hid (HV5.out.later hg6)
      clear hg6
      go_wp2_with (first
        | (refine load_in D HZ.out (by rfl) (.tmp 1) rfl w.heap.size rfl HA6.out ?_)
        | (refine load_in X XS.out (by rfl) (.tmp 5) rfl w4.heap.size rfl HX6.out ?_))
      have KS := same_of (HC.out.later HL6.out) HV6.out.is
      rw [same_cn] at KS
      refine KS.mono ?_
      rintro e w7 ⟨rfl, hg7⟩
      have HL7 := Lib.hid (gtrans HL6.out hg7)
      clear KS hg7
      go_wp2_with fail
      go_ret
      exact ⟨rfl, HL7.out⟩
    · rw [if_neg h0] at HU
      have t4 : (ce c != 0) = true := by simpa using h0
      have t5 : (ce c == ce c) = true := by simp
      obtain ⟨ad, cap, eu, _⟩ := HU.out.bare
      subst eu
      have HKC := Lib.hid (fun W (g : Later w W) => check_of (HC.out.later g))
      clear h0
      generalize ce c = x at *
      go_wp2_with fail
      refine (A.out _ HL3.out).mono ?_
      rintro e w4 ⟨rfl, hg4⟩
      have HL4 := Lib.hid (gtrans HL3.out hg4)
      have HA4 := Lib.hid (HA3.out.later hg4)
      clear hg4
      go_wp2_with (refine load_in D HZ.out (by rfl) (.tmp 1) rfl w.heap.size rfl HA4.out ?_)
      refine (HKC.out _ HL4.out).mono ?_
      rintro e w5 ⟨rfl, hg5⟩
      have HL5 := Lib.hid (gtrans HL4.out hg5)
      clear hg5
      go_wp2_with fail
      go_ret
      exact ⟨rfl, HL5.out⟩

end Go.Proofs.YtpkjbcgmhkkfiaaGreatDoor.Cod

/- With a byte turned it is not decoded. Condition: the variables lie where the program lays them. -/
namespace Go.Proofs.YtpkjbcgmhkkfiaaGreatDoor.Cod
set_option maxRecDepth 100000
set_option linter.unusedVariables false
open Go.ChangeShapes Go.WideShapes Go.ChangeAt Go.RowKit
open Go.Proofs.YtpkjbcgmhkkfiaaGreatDoor.Divs Go.Proofs.YtpkjbcgmhkkfiaaGreatDoor.Grow Go.Proofs.YtpkjbcgmhkkfiaaGreatDoor.Zone
open Go.Proofs.YtpkjbcgmhkkfiaaGreatDoor.By (Sk SL)
open Go.Proofs.YtpkjbcgmhkkfiaaGreatDoor.Cr (up up_xor)
open Go.Proofs.YtpkjbcgmhkkfiaaGreatDoor.Zo Go.Proofs.YtpkjbcgmhkkfiaaGreatDoor.Su Go.Proofs.YtpkjbcgmhkkfiaaGreatDoor.Cf Go.Proofs.YtpkjbcgmhkkfiaaGreatDoor.Conf

theorem xor_u8 (x a : Int) (hx : 0 ≤ x ∧ x ≤ 255) (ha : 0 ≤ a ∧ a ≤ 255) : ∃ y : Int, bits .xor .u8 x a = y ∧ 0 ≤ y ∧ y ≤ 255 ∧ up y = up x ^^^ up a := by
  obtain ⟨x0, x1⟩ := hx
  obtain ⟨a0, a1⟩ := ha
  obtain ⟨n, rfl⟩ := Int.eq_ofNat_of_zero_le x0
  obtain ⟨m, rfl⟩ := Int.eq_ofNat_of_zero_le a0
  have hb : n ^^^ m < 2 ^ 8 := Nat.xor_lt_two_pow (by omega) (by omega)
  exact ⟨((n ^^^ m : Nat) : Int), u8_xor_nat n m (by omega) (by omega), by omega, by omega, up_xor n m⟩

theorem index_byte (W : World) (g n cp i : Nat) (h : i < n) : (Instr.indexAt 36 (Value.slice (some ⟨g, 0, none⟩) n cp) (Value.int .i64 (i : Int))).run Tryz.prog W = .ok (.pointer (some ⟨g, i, none⟩)) W := by
  have u : Tryz.prog.underlying 36 = some (.slice (Tryz.prog.elem 36)) := by kernel_rfl
  have z : (sizeOf (Tryz.prog.elem 36)).run Tryz.prog W = .ok 1 W := by
    have e : Tryz.prog.elem 36 = 5 := by kernel_rfl
    rw [e]
    first | kernel_rfl | simp [go_sem]
  refine (run_indexAt_slice (P := Tryz.prog) (w := W) 36 ⟨g, 0, none⟩ n cp .i64 (i : Int) u).trans ?_
  rw [if_pos ⟨by omega, by omega⟩, z]
  show Result.ok (Value.pointer (some ((⟨g, 0, none⟩ : Addr).add ((i : Int).toNat * 1)))) W = _
  rw [Nat.mul_one, Int.toNat_natCast, By.add_zero]

set_option maxHeartbeats 4000000 in
theorem cuts_core (w : World) (a0 a1 : Addr) (hB : Base a0 a1 w) (D : Array Value) (c : Cg) (hc : Is w D c) (k : Int) (hk : -9223372036854775808 ≤ k ∧ k ≤ 9223372036854775807) (y : Int) (hy : 0 ≤ y ∧ y ≤ 255) :
    Calls Tryz.prog 6 #[.agg D, .int .i64 k, .int .u8 y] w fun e w' => e = .returned (.bool true) ∧ Later w w' := by
  have A := Lib.hid (fun W (g : Later w W) => awake_any W a0 a1 (hB.later g))
  have HB := Lib.hid hB
  have HC := Lib.hid hc
  have KF := Lib.hid (fun W (g : Later w W) => few_of (hc.later g))
  have KO := Lib.hid (fun W (g : Later w W) hf => own_of (hc.later g) hf)
  have HZ := Lib.hid hc.size
  have HL0 := Lib.hid ((Later.refl w).alloc D 33)
  have HA0 := Lib.hid (At.new w D 33)
  have HW := Lib.hid (fw_iff c)
  have HY := Lib.hid hy
  clear hc hB hk hy
  go_enter Tryz.func6, Tryz.ntmps6
  go_wp2_with (refine load_at D HZ.out rfl (.tmp 3) rfl w.heap.size rfl HA0.out ?_)
  refine (KF.out _ HL0.out).mono ?_
  rintro e w1 ⟨rfl, hg1⟩
  have HL1 := Lib.hid (gtrans HL0.out hg1)
  have HA1 := Lib.hid (HA0.out.later hg1)
  clear hg1 HA0
  cases e1 : fw c with
  | false =>
    go_wp2_with fail
    refine (A.out _ HL1.out).mono ?_
    rintro e w2 ⟨rfl, hg2⟩
    have HL2 := Lib.hid (gtrans HL1.out hg2)
    clear hg2
    go_wp2_with fail
    go_ret
    exact ⟨rfl, HL2.out⟩
  | true =>
    have HFW := Lib.hid e1
    have HST := Lib.hid (HW.out.mp e1)
    clear e1
    go_wp2_with (refine load_at D HZ.out rfl (.tmp 3) rfl w.heap.size rfl HA1.out ?_)
    refine (KO.out _ HL1.out HFW.out).mono ?_
    rintro e w2 ⟨E, rfl, ho, hg2⟩
    have HL2 := Lib.hid (gtrans HL1.out hg2)
    have HE := Lib.hid ho.is
    clear ho hg2 HA1
    go_wp2_with fail
    have KE := Lib.hid (enc_of E c w2 HE.out (HB.out.later HL2.out).laid (by have := HST.out.1; omega))
    refine KE.out.mono ?_
    rintro e w3 ⟨u, rfl, hu, hg3⟩
    have HU := Lib.hid hu.sk
    have HL3 := Lib.hid (gtrans HL2.out hg3)
    clear hu hg3 KE HE
    by_cases h0 : ce c = 0
    · rw [if_pos h0] at HU
      have HEB := Lib.hid (en_byte h0 (by have := HST.out.1; omega))
      have HEN := Lib.hid (en_len h0 HST.out.1)
      rw [h0]
      clear h0
      by_cases hneg : k < 0
      · clear HU HEB HEN
        go_wp2_with fail
        refine (A.out _ HL3.out).mono ?_
        rintro e w4 ⟨rfl, hg4⟩
        have HL4 := Lib.hid (gtrans HL3.out hg4)
        clear hg4
        go_wp2_with fail
        go_ret
        exact ⟨rfl, HL4.out⟩
      · obtain ⟨i, rfl⟩ := Int.eq_ofNat_of_zero_le (show 0 ≤ k by omega)
        obtain ⟨ad, cap, eu, _⟩ := HU.out.len
        subst eu
        have t2 : decide ((i : Int) < 0) = false := by simp
        clear hneg
        by_cases hge : (Ka.en c).length ≤ i
        · have t3 : decide (((Ka.en c).length : Int) ≤ (i : Int)) = true := by simp; omega
          have t3' : decide ((i : Int) ≥ ((Ka.en c).length : Int)) = true := t3
          have t3n : decide ((Ka.en c).length ≤ i) = true := by simp; omega
          clear hge HU HEB HEN
          go_wp2_with fail
          refine (A.out _ HL3.out).mono ?_
          rintro e w4 ⟨rfl, hg4⟩
          have HL4 := Lib.hid (gtrans HL3.out hg4)
          clear hg4
          go_wp2_with fail
          go_ret
          exact ⟨rfl, HL4.out⟩
        · have t3 : decide (((Ka.en c).length : Int) ≤ (i : Int)) = false := by simp; omega
          have t3' : decide ((i : Int) ≥ ((Ka.en c).length : Int)) = false := t3
          have t3n : decide ((Ka.en c).length ≤ i) = false := by simp; omega
          by_cases hz : y = 0
          · have t4 : (y == 0) = true := by simpa using hz
            clear hge HU HEB HEN hz
            go_wp2_with fail
            refine (A.out _ HL3.out).mono ?_
            rintro e w4 ⟨rfl, hg4⟩
            have HL4 := Lib.hid (gtrans HL3.out hg4)
            clear hg4
            go_wp2_with fail
            go_ret
            exact ⟨rfl, HL4.out⟩
          · have t4 : (y == 0) = false := by simpa using hz
            have HI := Lib.hid (show i < (Ka.en c).length by omega)
            obtain ⟨x, hx⟩ : ∃ x, (Ka.en c)[i]? = some x := ⟨_, List.getElem?_eq_getElem HI.out⟩
            have bx := HEB.out x (List.mem_of_getElem? hx)
            obtain ⟨x', ex, x0, x1, ux⟩ := xor_u8 x y bx HY.out
            have HT := Lib.hid (Ka.de_turned c i x x' y hx (by have := HY.out; omega) ux)
            have HTB : Hid (∀ n ∈ (Ka.en c).set i x', 0 ≤ n ∧ n ≤ 255) := Lib.hid (by
              intro n hn
              rcases List.mem_or_eq_of_mem_set hn with h | rfl
              · exact HEB.out n h
              · exact ⟨x0, x1⟩)
            have HX := Lib.hid hx
            have HLI := Lib.hid ((Later.refl w3).put (.cells #[] 5))
            have HO1 := Lib.hid (By.SL.made w3 w3 (Later.refl _))
            clear hge hz hx bx ux x0 x1 HY
            go_wp2_with (refine By.append_sk rfl (.tmp 39) (.tmp 40) rfl w3 HLI.out _ [] rfl HO1.out _ (Ka.en c) rfl (HU.out.later HLI.out) (by have := HEN.out; simp; omega) ?_; intro d w4 ho4 hg4; have HO4 := Lib.hid ho4; have HG4 := Lib.hid hg4; clear ho4 hg4)
            rw [List.nil_append] at HO4
            obtain ⟨g, cp, rfl, hcell⟩ := HO4.out.has (by have := HI.out; omega)
            have hbase : w3.heap.size ≤ g := by
              rcases HO4.out.2 with ⟨e, _⟩ | ⟨g', _, _, e, hb, _⟩
              · simp at e
              · simp only [Value.slice.injEq, Option.some.injEq, Addr.mk.injEq, and_true, true_and] at e
                have := e.1
                omega
            have c1 : w4.cell? ⟨g, i, none⟩ = some (.int .u8 x) := by
              have := hcell i (.int .u8 x) (by rw [List.getElem?_map, HX.out]; rfl)
              rwa [By.add_zero] at this
            have f1 : w4.frozen? ⟨g, i, none⟩ = false := World.ownsRow.frozenAt HO4.out i
            have hi := HI.out
            have hn := HEN.out
            have hii : (i : Int) < ((Ka.en c).length : Int) := by omega
            have h0i : (0 : Int) ≤ (i : Int) := by omega
            clear hcell
            have HIX : Hid ((Instr.indexAt 36 (Value.slice (some ⟨g, 0, none⟩) (Ka.en c).length cp) (Value.int .i64 (i : Int))).run Tryz.prog w4 = .ok (.pointer (some ⟨g, i, none⟩)) w4) := Lib.hid (index_byte w4 g (Ka.en c).length cp i hi)
            have hix := HIX.out
            rw [hix]
            go_wp2_with fail
            have q1 : Hid (Sk .u8 (w4.setCell ⟨g, i, none⟩ (.int .u8 x')) (.slice (some ⟨g, 0, none⟩) (Ka.en c).length cp) ((Ka.en c).set i x')) := Lib.hid (HO4.out.sk.set i x' hi)
            have HL5 := Lib.hid (gtrans HL3.out (HG4.out.setCell (p := ⟨g, i, none⟩) (by simpa using hbase) (.int .u8 x')))
            generalize w4.setCell ⟨g, i, none⟩ (.int .u8 x') = w5 at *
            clear c1 f1 hix HG4 HO4 HO1 HLI
            refine (decode_any ((Ka.en c).set i x') _ w5 (by have := q1.out; simpa using this) HTB.out (by rw [List.length_set]; omega) a0 a1 (HB.out.later HL5.out)).mono ?_
            rintro e w6 ⟨X, rfl, hg6, hcase⟩
            rw [HT.out] at hcase ⊢
            have hX : X = zr := by
              rcases hcase with ⟨h, _⟩ | ⟨_, h⟩
              · exact absurd h (by decide)
              · exact h
            subst hX
            have HL6 := Lib.hid (gtrans HL5.out hg6)
            clear hcase hg6 hi hn hii h0i
            go_wp2_with (refine store_row rfl (.tmp 10) (.tmp 54) rfl w6.heap.size rfl zr rfl zr_one rfl _ rfl (Row.new w6 zr _) w6 ((Later.refl _).alloc zr _) (Nat.le_refl _) ?_; intro w7 hR7 hL7 _; have HL7 := Lib.hid (gtrans HL6.out hL7); clear hR7 hL7)
            refine (A.out _ HL7.out).mono ?_
            rintro e w8 ⟨rfl, hg8⟩
            have HL8 := Lib.hid (gtrans HL7.out hg8)
            clear hg8
            go_wp2_with fail
            go_ret
            exact ⟨rfl, HL8.out⟩
    · have t4 : (ce c != 0) = true := by simpa using h0
      clear h0 HU
      generalize ce c = x at *
      go_wp2_with fail
      refine (A.out _ HL3.out).mono ?_
      rintro e w4 ⟨rfl, hg4⟩
      have HL4 := Lib.hid (gtrans HL3.out hg4)
      clear hg4
      go_wp2_with fail
      go_ret
      exact ⟨rfl, HL4.out⟩

end Go.Proofs.YtpkjbcgmhkkfiaaGreatDoor.Cod
