/-
  What a half byte, a bit and two bytes come to, by the program and by the document's reckoning. Conditions: the table lies where the program lays it; the numbers are of their kinds, as each theorem says.
-/
import Derived.Test.YtdljmpaabpkmkaaDoorBy
import Derived.Test.YtdljmpaabpkmkaaDoorKc
namespace Go.Proofs.YtdljmpaabpkmkaaDoor.Crc
open Go.ChangeShapes Go.WideShapes Go.ChangeAt Go.RowKit
open Go.Proofs.YtdljmpaabpkmkaaDoor.Divs Go.Proofs.YtdljmpaabpkmkaaDoor.Grow Go.Proofs.YtdljmpaabpkmkaaDoor.By Go.Proofs.YtdljmpaabpkmkaaDoor.Cr

/-- What half a byte makes of the sum 0. -/
def tb (i : Nat) : BitVec 16 := H (BitVec.ofNat 16 i <<< 12)

/-- The table stands in the variable's cells. -/
def Laid (w : World) : Prop := ∀ i : Nat, i < 16 → w.cell? ⟨0, i, none⟩ = some (.int .u16 ((tb i).toNat : Int))

theorem Laid.grown {w w' : World} (h : Laid w) (hg : Later w w') : Laid w' := fun i hi => gsome hg (h i hi)

theorem retu {a b : Int} (h : a = b) : Ending.returned (.int .u16 a) = .returned (.int .u16 b) := by rw [h]

theorem half_eq (s : BitVec 16) (h : Nat) (_ : h < 16) : bits .xor .u16 (IntKind.u16.wrap ((s.toNat : Int) * 16)) ((tb (s.toNat / 4096 ^^^ h)).toNat : Int) = ((H (s ^^^ (BitVec.ofNat 16 h <<< 12))).toNat : Int) := by
  have e1 : IntKind.u16.wrap ((s.toNat : Int) * 16) = (((s <<< 4).toNat : Nat) : Int) := by
    rw [IntKind.wrap_u16, BitVec.toNat_shiftLeft, Nat.shiftLeft_eq]
    omega
  have e2 : BitVec.ofNat 16 (s.toNat / 4096 ^^^ h) = (s >>> 12) ^^^ BitVec.ofNat 16 h := by
    apply BitVec.eq_of_toNat_eq
    rw [BitVec.toNat_xor, BitVec.toNat_ofNat, BitVec.toNat_ofNat, BitVec.toNat_ushiftRight, Nat.shiftRight_eq_div_pow, Nat.xor_mod_two_pow]
    congr 1
    have := s.isLt
    omega
  rw [e1, u16_xor_nat _ _ (s <<< 4).isLt (tb _).isLt, half_step, BitVec.toNat_xor]
  unfold tb
  rw [e2]

theorem half_any (s : BitVec 16) (h : Nat) (w : World) (hh : h < 16) (hL : Laid w) :
    Calls Tryd.prog 60 #[.int .u16 (s.toNat : Int), .int .u8 (h : Int)] w fun e w' => e = .returned (.int .u16 ((H (s ^^^ (BitVec.ofNat 16 h <<< 12))).toNat : Int)) ∧ w = w' := by
  have HE := Lib.hid (half_eq s h hh)
  obtain ⟨n, hn⟩ : ∃ n : Nat, s.toNat = n := ⟨_, rfl⟩
  have hn1 : n < 65536 := by rw [← hn]; exact s.isLt
  obtain ⟨K, hK⟩ : ∃ K : Nat, n / 4096 ^^^ h = K := ⟨_, rfl⟩
  have hk1 : K < 16 := by rw [← hK]; exact Nat.xor_lt_two_pow (n := 4) (by omega) (by omega)
  have hk : bits .xor .u8 ((n : Int) / 4096) (h : Int) = (K : Int) := by
    have := u8_xor_nat (n / 4096) h (by omega) (by omega)
    rw [hK] at this
    rw [← this]
    congr 1
  have c := hL K hk1
  rw [hn, hK] at HE
  rw [hn]
  obtain ⟨T, hT⟩ : ∃ T : Int, ((tb K).toNat : Int) = T := ⟨_, rfl⟩
  rw [hT] at HE c
  clear hL hK hn hT
  go_enter Tryd.func60, Tryd.ntmps60
  go_wp2
  go_ret
  exact ⟨retu HE.out, rfl⟩

theorem bit_eq (s : BitVec 16) (b : Bool) : L (s ^^^ (if b then 32768#16 else 0#16)) = (s <<< 1) ^^^ (if s.msb != b then 4129#16 else 0#16) := by
  unfold L
  have hm : (32768#16).msb = true := by decide
  rw [BitVec.shiftLeft_xor_distrib, BitVec.msb_xor]
  cases b <;> cases s.msb <;> simp [hm]

theorem i64_xor_nat (a b : Nat) (ha : a < 65536) (hb : b < 65536) : bits .xor .i64 (a : Int) (b : Int) = ((a ^^^ b : Nat) : Int) := by
  have hx : a ^^^ b < 2 ^ 16 := Nat.xor_lt_two_pow (by omega) (by omega)
  show IntKind.i64.wrap ((BitVec.ofInt 64 (a : Int) ^^^ BitVec.ofInt 64 (b : Int)).toNat : Int) = _
  rw [BitVec.toNat_xor, ofInt_u64 a (by omega), ofInt_u64 b (by omega), IntKind.wrap_i64]
  omega

/-- A sum's number. -/
def sn (s : BitVec 16) : Int := (s.toNat : Int)

theorem sn_bd (s : BitVec 16) : 0 ≤ sn s ∧ sn s ≤ 65535 := by
  have := s.isLt
  unfold sn
  omega

theorem i64_xor_sn (s t : BitVec 16) : bits .xor .i64 (sn s) (sn t) = sn (s ^^^ t) := by
  unfold sn
  rw [i64_xor_nat _ _ s.isLt t.isLt, BitVec.toNat_xor]

theorem i64_and_low (n : Int) : bits .and .i64 n 65535 = sn (BitVec.ofInt 16 n) := by
  have h127 : (BitVec.ofInt 64 65535).toNat = 2 ^ 16 - 1 := by decide
  have key : (BitVec.ofInt 64 n &&& BitVec.ofInt 64 65535).toNat = (n % ((2 ^ 64 : Nat) : Int)).toNat % 2 ^ 16 := by
    rw [BitVec.toNat_and, BitVec.toNat_ofInt, h127, Nat.and_two_pow_sub_one_eq_mod]
  show IntKind.i64.wrap ((BitVec.ofInt 64 n &&& BitVec.ofInt 64 65535).toNat : Nat) = _
  unfold sn
  rw [key, IntKind.wrap_i64, BitVec.toNat_ofInt]
  omega

theorem u16_low (n : Int) : IntKind.u16.wrap n = sn (BitVec.ofInt 16 n) := by
  unfold sn
  rw [IntKind.wrap_u16, BitVec.toNat_ofInt]
  omega

theorem bit_any (s : BitVec 16) (b : Bool) (w : World) :
    Calls Tryd.prog 59 #[.int .i64 (sn s), .bool b] w fun e w' => e = .returned (.int .i64 (sn (L (s ^^^ (if b then 32768#16 else 0#16))))) ∧ w = w' := by
  rw [bit_eq]
  have em : s.msb = decide (32768 ≤ sn s) := by
    rw [BitVec.msb_eq_decide]
    exact decide_eq_decide.2 (by unfold sn; omega)
  have e1 : sn (s <<< 1) = sn s * 2 % 65536 := by
    unfold sn
    rw [BitVec.toNat_shiftLeft, Nat.shiftLeft_eq]
    omega
  have e2 := i64_xor_sn (s <<< 1) 4129#16
  rw [e1, show sn 4129#16 = 4129 by decide] at e2
  obtain ⟨n0, n1⟩ := sn_bd s
  obtain ⟨n, hn⟩ : ∃ n, sn s = n := ⟨_, rfl⟩
  rw [hn] at em e1 e2 n0 n1 ⊢
  have HE := Lib.hid e1
  have HX := Lib.hid e2
  clear hn e1 e2
  by_cases hm : 32768 ≤ n
  · have t : decide (32768 ≤ n) = true := by simpa using hm
    rw [t] at em
    rw [em]
    clear em
    cases b
    · rw [if_pos (by decide)]
      go_enter Tryd.func59, Tryd.ntmps59
      go_wp2
      go_ret
      exact ⟨ret1 HX.out, rfl⟩
    · rw [if_neg (by simp), BitVec.xor_zero]
      go_enter Tryd.func59, Tryd.ntmps59
      go_wp2
      go_ret
      exact ⟨ret1 HE.out.symm, rfl⟩
  · have t : decide (32768 ≤ n) = false := by simpa using hm
    rw [t] at em
    rw [em]
    clear em
    cases b
    · rw [if_neg (by simp), BitVec.xor_zero]
      go_enter Tryd.func59, Tryd.ntmps59
      go_wp2
      go_ret
      exact ⟨ret1 HE.out.symm, rfl⟩
    · rw [if_pos (by decide)]
      go_enter Tryd.func59, Tryd.ntmps59
      go_wp2
      go_ret
      exact ⟨ret1 HX.out, rfl⟩

theorem sumat_any (xs : List Int) (i : Nat) (x y : Int) (v : Value) (w : World) (hs : Sk .u8 w v xs) (h1 : xs[i]? = some x) (h2 : xs[i + 1]? = some y) (hx : 0 ≤ x ∧ x ≤ 255) (hy : 0 ≤ y ∧ y ≤ 255) :
    Calls Tryd.prog 51 #[v, .int .i64 (i : Int)] w fun e w' => e = .returned (.int .i64 (x * 256 + y)) ∧ Later w w' := by
  have l1 := (List.getElem?_eq_some_iff.1 h1).1
  have l2 := (List.getElem?_eq_some_iff.1 h2).1
  obtain ⟨b, off, cap, rfl, m1, m2, _, hc⟩ := hs.has (by omega)
  have c1 := hc i l1
  rw [List.getD_eq_getElem?_getD, h1, Option.getD_some] at c1
  have c2 := hc (i + 1) l2
  rw [List.getD_eq_getElem?_getD, h2, Option.getD_some] at c2
  clear hc h1 h2 hs
  obtain ⟨x0, x1⟩ := hx
  obtain ⟨y0, y1⟩ := hy
  go_enter Tryd.func51, Tryd.ntmps51
  go_wp2
  go_quiet (fail)
  go_wp2
  go_ret
  exact ⟨rfl, later_drewN w _⟩
end Go.Proofs.YtdljmpaabpkmkaaDoor.Crc
