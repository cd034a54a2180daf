/-
  What More and Sum answer, by the program and by the document's reckoning. Conditions: the table lies where the program lays it; the sum is an int, the bytes are bytes.
-/
import Derived.Test.YtdljmpaabpkmkaaDoorKh
namespace Go.Proofs.YtdljmpaabpkmkaaDoor.Crc
open Go.ChangeShapes Go.WideShapes Go.ChangeAt Go.RowKit
open Go.Proofs.YtdljmpaabpkmkaaDoor.Divs Go.Proofs.YtdljmpaabpkmkaaDoor.Grow Go.Proofs.YtdljmpaabpkmkaaDoor.By Go.Proofs.YtdljmpaabpkmkaaDoor.Cr

/-- The start of a sum: a number's 16 lowest bits. -/
def b16 (a : Int) : BitVec 16 := BitVec.ofInt 16 a

theorem half_hi (s : BitVec 16) (x : Int) (w : World) (h0 : 0 ≤ x) (h1 : x ≤ 255) (hL : Laid w) :
    Calls Tryd.prog 60 #[.int .u16 (sn s), .int .u8 (x / 16)] w fun e w' => e = .returned (.int .u16 (sn (H (s ^^^ (BitVec.ofNat 16 (x.toNat / 16) <<< 12))))) ∧ w = w' := by
  have := half_any s (x.toNat / 16) w (by omega) hL
  rw [show (((x.toNat / 16 : Nat)) : Int) = x / 16 by omega] at this
  exact this

theorem half_lo (s : BitVec 16) (x : Int) (w : World) (h0 : 0 ≤ x) (h1 : x ≤ 255) (hL : Laid w) :
    Calls Tryd.prog 60 #[.int .u16 (sn s), .int .u8 (x % 16)] w fun e w' => e = .returned (.int .u16 (sn (H (s ^^^ (BitVec.ofNat 16 (x.toNat % 16) <<< 12))))) ∧ w = w' := by
  have := half_any s (x.toNat % 16) w (by omega) hL
  rw [show (((x.toNat % 16 : Nat)) : Int) = x % 16 by omega] at this
  exact this

theorem more_nil (a : Int) (ad : Option Addr) (cap : Nat) (w : World) :
    Calls Tryd.prog 55 #[.int .i64 a, .slice ad 0 cap] w fun e w' => e = .returned (.int .i64 (sn (b16 a))) ∧ w = w' := by
  have hu := u16_low a
  obtain ⟨n0, n1⟩ := sn_bd (b16 a)
  rw [show BitVec.ofInt 16 a = b16 a from rfl] at hu
  generalize sn (b16 a) = n at *
  go_enter Tryd.func55, Tryd.ntmps55
  go_wp2_with fail
  refine wp_loop_rounds 1 ?_
  rw [rounds_succ]
  go_wp2
  go_ret
  exact ⟨rfl, rfl⟩

def MRel (s : BitVec 16) (xs : List Int) (v i : Value) : Prop := ∃ j : Nat, j ≤ xs.length ∧ i = .int .i64 (j : Int) ∧ v = .int .u16 (sn (mo s (xs.take j)))

theorem more_some (a : Int) (xs : List Int) (b off cap : Nat) (w : World) (hp : 0 < xs.length) (hm : xs.length ≤ 9223372036854775807) (hb : ∀ x ∈ xs, 0 ≤ x ∧ x ≤ 255) (hc : ∀ i, i < xs.length → w.cell? ⟨b, off + i, none⟩ = some (.int .u8 (xs.getD i 0))) (hL : Laid w) :
    Calls Tryd.prog 55 #[.int .i64 a, .slice (some ⟨b, off, none⟩) xs.length cap] w fun e w' => e = .returned (.int .i64 (sn (mo (b16 a) xs))) ∧ w = w' := by
  have hu := u16_low a
  rw [show BitVec.ofInt 16 a = b16 a from rfl] at hu
  have HC := Lib.hid hc
  have HB := Lib.hid hb
  have P := Lib.hid (fun s x (h0 : 0 ≤ x) (h1 : x ≤ 255) => half_hi s x w h0 h1 hL)
  have Q := Lib.hid (fun s x (h0 : 0 ≤ x) (h1 : x ≤ 255) => half_lo s x w h0 h1 hL)
  have HF := Lib.hid (fun s (x : Int) (h0 : 0 ≤ x) (h1 : x ≤ 255) => congrArg sn (byte_halves s x h0 h1))
  clear hc hb hL
  go_enter Tryd.func55, Tryd.ntmps55
  go_wp2_with fail
  clear hu
  go_loop [5, 12] (fun v i => MRel (b16 a) xs v i) (fun _ i => xs.length - (intOf i).toNat)
  case atStart => exact ⟨0, by omega, rfl, rfl⟩
  case round =>
    obtain ⟨j, hj, rfl, rfl⟩ := hrel
    obtain ⟨s, hs⟩ : ∃ s, s = mo (b16 a) (xs.take j) := ⟨_, rfl⟩
    rw [← hs]
    obtain ⟨n0, n1⟩ := sn_bd s
    by_cases hlt : j < xs.length
    · obtain ⟨x, hx⟩ : ∃ x, xs[j]? = some x := ⟨_, List.getElem?_eq_getElem hlt⟩
      have c := HC.out j hlt
      rw [List.getD_eq_getElem?_getD, hx, Option.getD_some] at c
      obtain ⟨x0, x1⟩ := HB.out x (List.mem_of_getElem? hx)
      have HT := Lib.hid (mo_take (b16 a) xs j x hx)
      rw [← hs] at HT
      clear hs hx
      go_wp2_with fail
      refine (P.out _ _ x0 x1).mono ?_
      rintro e w' ⟨rfl, rfl⟩
      go_wp2_with fail
      refine (Q.out _ _ x0 x1).mono ?_
      rintro e w' ⟨rfl, rfl⟩
      go_wp2_with fail
      go_round
      case rel => exact ⟨j + 1, by omega, by go_num, by rw [HT.out, HF.out _ _ x0 x1]⟩
      case measure => simp [intOf]; omega
    · obtain rfl : j = xs.length := by omega
      rw [List.take_length] at hs
      have HS := Lib.hid hs
      clear hs
      go_wp2
      go_ret
      exact ⟨ret1 (by rw [HS.out]), rfl⟩

theorem more_any (a : Int) (xs : List Int) (v : Value) (w : World) (hs : Sk .u8 w v xs) (hb : ∀ x ∈ xs, 0 ≤ x ∧ x ≤ 255) (hL : Laid w) :
    Calls Tryd.prog 55 #[.int .i64 a, v] w fun e w' => e = .returned (.int .i64 (sn (mo (b16 a) xs))) ∧ w = w' := by
  rcases Nat.eq_zero_or_pos xs.length with h | h
  · obtain rfl := List.length_eq_zero_iff.1 h
    obtain ⟨ad, cap, rfl, _⟩ := hs.bare
    exact more_nil a ad cap w
  · obtain ⟨b, off, cap, rfl, h1, h2, _, hc⟩ := hs.has h
    exact more_some a xs b off cap w h (by omega) hb hc hL

theorem sum_any (xs : List Int) (v : Value) (w : World) (hs : Sk .u8 w v xs) (hb : ∀ x ∈ xs, 0 ≤ x ∧ x ≤ 255) (hL : Laid w) :
    Calls Tryd.prog 46 #[v] w fun e w' => e = .returned (.int .i64 (sn (mo st xs))) ∧ w = w' := by
  have M := Lib.hid (more_any 65535 xs v w hs hb hL)
  rw [show b16 65535 = st by decide] at M
  clear hs
  go_enter Tryd.func46, Tryd.ntmps46
  go_wp2_with fail
  refine M.out.mono ?_
  rintro e w' ⟨rfl, rfl⟩
  go_wp2_with fail
  go_ret
  exact ⟨rfl, rfl⟩

/-- The reckoning's rounds: over bytes, and over a byte's bits. -/
def BRel (s : BitVec 16) (x : Int) (v k : Value) : Prop := ∃ j : Nat, j ≤ 8 ∧ k = .int .i64 (7 - (j : Int)) ∧ v = .int .i64 (sn (bits8 s x j))

def RRel (s : BitVec 16) (xs : List Int) (v i : Value) : Prop := ∃ j : Nat, j ≤ xs.length ∧ i = .int .i64 (j : Int) ∧ v = .int .i64 (sn (mo s (xs.take j)))

theorem rmore_nil (a : Int) (ad : Option Addr) (cap : Nat) (w : World) :
    Calls Tryd.prog 53 #[.int .i64 a, .slice ad 0 cap] w fun e w' => e = .returned (.int .i64 (sn (b16 a))) ∧ w = w' := by
  have hu := i64_and_low a
  rw [show BitVec.ofInt 16 a = b16 a from rfl] at hu
  go_enter Tryd.func53, Tryd.ntmps53
  go_wp2_with fail
  refine wp_loop_rounds 1 ?_
  rw [rounds_succ]
  go_wp2
  go_ret
  exact ⟨rfl, rfl⟩

theorem bx_eq (x : Int) (k : Nat) (h0 : 0 ≤ x) : (if ((x / 2 ^ k).tmod 2 == 1) = true then 32768#16 else 0#16) = bx x k := by
  obtain ⟨n, rfl⟩ := Int.eq_ofNat_of_zero_le h0
  unfold bx
  have e : ((n : Int) / 2 ^ k).tmod 2 = ((n / 2 ^ k % 2 : Nat) : Int) := by
    have h1 : ((n : Int) / 2 ^ k) = ((n / 2 ^ k : Nat) : Int) := by simp
    rw [h1]
    exact (Int.ofNat_tmod _ 2).symm
  rw [e, Int.toNat_natCast]
  by_cases h : n / 2 ^ k % 2 = 1
  · rw [h]; rfl
  · have h2 : n / 2 ^ k % 2 = 0 := by omega
    rw [h2]; rfl

theorem bit_bx (s : BitVec 16) (x : Int) (k : Nat) (w : World) (h0 : 0 ≤ x) :
    Calls Tryd.prog 59 #[.int .i64 (sn s), .bool ((x / 2 ^ k).tmod 2 == 1)] w fun e w' => e = .returned (.int .i64 (sn (L (s ^^^ bx x k)))) ∧ w = w' := by
  have := bit_any s ((x / 2 ^ k).tmod 2 == 1) w
  rwa [bx_eq x k h0] at this

theorem rmore_some (a : Int) (xs : List Int) (b off cap : Nat) (w : World) (hp : 0 < xs.length) (hm : xs.length ≤ 9223372036854775807) (hb : ∀ x ∈ xs, 0 ≤ x ∧ x ≤ 255) (hc : ∀ i, i < xs.length → w.cell? ⟨b, off + i, none⟩ = some (.int .u8 (xs.getD i 0))) :
    Calls Tryd.prog 53 #[.int .i64 a, .slice (some ⟨b, off, none⟩) xs.length cap] w fun e w' => e = .returned (.int .i64 (sn (mo (b16 a) xs))) ∧ w = w' := by
  have hu := i64_and_low a
  rw [show BitVec.ofInt 16 a = b16 a from rfl] at hu
  have HC := Lib.hid hc
  have HB := Lib.hid hb
  have P := Lib.hid (fun s x k (h0 : 0 ≤ x) => bit_bx s x k w h0)
  clear hc hb
  go_enter Tryd.func53, Tryd.ntmps53
  go_wp2_with fail
  clear hu
  go_loop [5, 6] (fun v i => RRel (b16 a) xs v i) (fun _ i => xs.length - (intOf i).toNat)
  case atStart => exact ⟨0, by omega, rfl, rfl⟩
  case round =>
    obtain ⟨j, hj, rfl, rfl⟩ := hrel
    obtain ⟨s, hs⟩ : ∃ s, s = mo (b16 a) (xs.take j) := ⟨_, rfl⟩
    rw [← hs]
    obtain ⟨n0, n1⟩ := sn_bd s
    by_cases hlt : j < xs.length
    · obtain ⟨x, hx⟩ : ∃ x, xs[j]? = some x := ⟨_, List.getElem?_eq_getElem hlt⟩
      have c := HC.out j hlt
      rw [List.getD_eq_getElem?_getD, hx, Option.getD_some] at c
      obtain ⟨x0, x1⟩ := HB.out x (List.mem_of_getElem? hx)
      have HT := Lib.hid (mo_take (b16 a) xs j x hx)
      rw [← hs] at HT
      clear hs hx
      go_wp2_with fail
      go_loop [5, 7] (fun v k => BRel s x v k) (fun _ k => (intOf k + 1).toNat)
      case atStart => exact ⟨0, by omega, rfl, rfl⟩
      case round =>
        obtain ⟨i, hi, rfl, rfl⟩ := hrel
        by_cases hl8 : i < 8
        · go_wp2_with fail
          refine (P.out _ _ _ x0).mono ?_
          rintro e w' ⟨rfl, rfl⟩
          go_wp2_with fail
          go_round
          case rel => exact ⟨i + 1, by omega, by go_num, rfl⟩
          case measure => simp [intOf]; omega
        · obtain rfl : i = 8 := by omega
          have HE := Lib.hid (bits8_all s x x0 x1)
          go_wp2_with fail
          go_round
          case rel => exact ⟨j + 1, by omega, by go_num, by rw [HT.out, HE.out]⟩
          case measure => simp [intOf]; omega
    · obtain rfl : j = xs.length := by omega
      rw [List.take_length] at hs
      have HS := Lib.hid hs
      clear hs
      go_wp2
      go_ret
      exact ⟨ret1 (by rw [HS.out]), rfl⟩

theorem rmore_any (a : Int) (xs : List Int) (v : Value) (w : World) (hs : Sk .u8 w v xs) (hb : ∀ x ∈ xs, 0 ≤ x ∧ x ≤ 255) :
    Calls Tryd.prog 53 #[.int .i64 a, v] w fun e w' => e = .returned (.int .i64 (sn (mo (b16 a) xs))) ∧ w = w' := by
  rcases Nat.eq_zero_or_pos xs.length with h | h
  · obtain rfl := List.length_eq_zero_iff.1 h
    obtain ⟨ad, cap, rfl, _⟩ := hs.bare
    exact rmore_nil a ad cap w
  · obtain ⟨b, off, cap, rfl, h1, h2, _, hc⟩ := hs.has h
    exact rmore_some a xs b off cap w h (by omega) hb hc

end Go.Proofs.YtdljmpaabpkmkaaDoor.Crc
