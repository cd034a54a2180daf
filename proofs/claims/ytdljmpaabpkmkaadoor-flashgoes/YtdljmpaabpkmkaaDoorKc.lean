/-
  Plain numbers for layer 9: a sum of 16 bits behind one bit, behind four, behind a byte, behind bytes; that each step is linear and one to one. No condition but those that each theorem states.
-/
import Derived.RowKit
import Derived.Laws.BitsAllLaws
namespace Go.Proofs.YtdljmpaabpkmkaaDoor.Cr

/-- A sum behind one bit that is 0. -/
def L (s : BitVec 16) : BitVec 16 := (s <<< 1) ^^^ (if s.msb then 4129#16 else 0#16)

theorem x4 (a b c d : BitVec 16) : (a ^^^ b) ^^^ (c ^^^ d) = (a ^^^ c) ^^^ (b ^^^ d) := by
  rw [BitVec.xor_assoc, BitVec.xor_assoc, ← BitVec.xor_assoc b, BitVec.xor_comm b c, BitVec.xor_assoc c]

theorem L_xor (s t : BitVec 16) : L (s ^^^ t) = L s ^^^ L t := by
  unfold L
  rw [BitVec.shiftLeft_xor_distrib, BitVec.msb_xor, x4]
  congr 1
  cases s.msb <;> cases t.msb <;> simp

theorem L_zero : L 0#16 = 0#16 := by decide

theorem xor_zero_iff (a b : BitVec 16) : a ^^^ b = 0#16 ↔ a = b := by
  constructor
  · intro h
    have : (a ^^^ b) ^^^ b = 0#16 ^^^ b := by rw [h]
    rwa [BitVec.xor_assoc, BitVec.xor_self, BitVec.xor_zero, BitVec.zero_xor] at this
  · rintro rfl
    exact BitVec.xor_self

theorem L_one (s : BitVec 16) (h : L s = 0#16) : s = 0#16 := by
  have hb : ∀ i, (L s).getLsbD i = false := by intro i; rw [h]; simp
  have h0 := hb 0
  unfold L at h0 hb
  cases hm : s.msb with
  | true =>
    rw [hm] at h0
    simp at h0
  | false =>
    simp only [hm, Bool.false_eq_true, if_false, BitVec.xor_zero] at hb
    apply BitVec.eq_of_getLsbD_eq
    intro i hi
    rcases Nat.lt_or_ge i 15 with h1 | h1
    · have := hb (i + 1)
      rw [BitVec.getLsbD_shiftLeft] at this
      simpa [show i + 1 < 16 by omega, show i + 1 - 1 = i by omega] using this
    · obtain rfl : i = 15 := by omega
      rw [BitVec.msb_eq_getLsbD_last] at hm
      simpa using hm

theorem L_inj {s t : BitVec 16} (h : L s = L t) : s = t := by
  rw [← xor_zero_iff]
  refine L_one _ ?_
  rw [L_xor, xor_zero_iff]
  exact h

/-- Behind four bits. -/
def H (s : BitVec 16) : BitVec 16 := L (L (L (L s)))

theorem H_xor (s t : BitVec 16) : H (s ^^^ t) = H s ^^^ H t := by simp only [H, L_xor]

theorem H_inj {s t : BitVec 16} (h : H s = H t) : s = t := L_inj (L_inj (L_inj (L_inj h)))

/-- Behind eight. -/
def B (s : BitVec 16) : BitVec 16 := H (H s)

theorem B_xor (s t : BitVec 16) : B (s ^^^ t) = B s ^^^ B t := by simp only [B, H_xor]

theorem B_inj {s t : BitVec 16} (h : B s = B t) : s = t := H_inj (H_inj h)

theorem B_zero : B 0#16 = 0#16 := by decide

/-- A byte as a sum's lower half, and as its higher one. -/
def lo (x : Int) : BitVec 16 := BitVec.ofInt 16 x
def up (x : Int) : BitVec 16 := lo x <<< 8

theorem lo_nat (n : Nat) : lo (n : Int) = BitVec.ofNat 16 n := by
  unfold lo
  rw [BitVec.ofInt_natCast]

theorem B_lo_nat : ∀ n : Fin 256, B (BitVec.ofNat 16 n.val) = BitVec.ofNat 16 n.val <<< 8 := by decide +kernel

theorem B_lo (x : Int) (h0 : 0 ≤ x) (h1 : x ≤ 255) : B (lo x) = up x := by
  obtain ⟨n, rfl⟩ := Int.eq_ofNat_of_zero_le h0
  unfold up
  rw [lo_nat]
  exact B_lo_nat ⟨n, by omega⟩

/-- A sum that goes on over a byte, and over bytes. -/
def bs (s : BitVec 16) (x : Int) : BitVec 16 := B (s ^^^ up x)

def mo (s : BitVec 16) (xs : List Int) : BitVec 16 := xs.foldl bs s

theorem mo_nil (s : BitVec 16) : mo s [] = s := rfl

theorem mo_cons (s : BitVec 16) (x : Int) (xs : List Int) : mo s (x :: xs) = mo (bs s x) xs := rfl

theorem mo_append (s : BitVec 16) (xs ys : List Int) : mo s (xs ++ ys) = mo (mo s xs) ys := by
  unfold mo
  rw [List.foldl_append]

theorem mo_take (s : BitVec 16) (xs : List Int) (i : Nat) (x : Int) (h : xs[i]? = some x) : mo s (xs.take (i + 1)) = bs (mo s (xs.take i)) x := by
  rw [List.take_add_one, h, Option.toList_some, mo_append]
  rfl

theorem bs_inj {s t : BitVec 16} {x : Int} (h : bs s x = bs t x) : s = t := by
  have := B_inj h
  have h2 : (s ^^^ up x) ^^^ up x = (t ^^^ up x) ^^^ up x := by rw [this]
  rwa [BitVec.xor_assoc, BitVec.xor_assoc, BitVec.xor_self, BitVec.xor_zero, BitVec.xor_zero] at h2

theorem mo_inj {s t : BitVec 16} (xs : List Int) (h : mo s xs = mo t xs) : s = t := by
  induction xs generalizing s t with
  | nil => exact h
  | cons x xs ih => exact bs_inj (ih h)

/-- Two bytes behind a sum: 0 just where they are the sum. -/
theorem mo_two (s : BitVec 16) (x y : Int) (h0 : 0 ≤ y) (h1 : y ≤ 255) : mo s [x, y] = 0#16 ↔ s = up x ^^^ lo y := by
  rw [mo_cons, mo_cons, mo_nil]
  constructor
  · intro h
    unfold bs at h
    have h := B_inj (h.trans B_zero.symm)
    rw [xor_zero_iff, ← B_lo y h0 h1] at h
    have h := B_inj h
    have h2 : (s ^^^ up x) ^^^ up x = lo y ^^^ up x := by rw [h]
    rwa [BitVec.xor_assoc, BitVec.xor_self, BitVec.xor_zero, BitVec.xor_comm] at h2
  · rintro rfl
    unfold bs
    rw [BitVec.xor_comm (up x), BitVec.xor_assoc, BitVec.xor_self, BitVec.xor_zero, B_lo y h0 h1, BitVec.xor_self, B_zero]

/-- Two bytes turned turn what comes behind them. -/
theorem mo_turned (s : BitVec 16) (x y a b : Int) (hx : up a ^^^ lo b ≠ 0#16) (h0 : 0 ≤ b) (h1 : b ≤ 255) (x' y' : Int) (ex : up x' = up x ^^^ up a) (ey : up y' = up y ^^^ up b) (q : List Int) :
    mo s ([x', y'] ++ q) ≠ mo s ([x, y] ++ q) := by
  intro h
  rw [mo_append, mo_append] at h
  have h := mo_inj q h
  simp only [mo_cons, mo_nil, bs] at h
  have h := B_inj h
  rw [ex, ey, ← BitVec.xor_assoc s, B_xor, x4] at h
  rw [← xor_zero_iff, BitVec.xor_comm, ← BitVec.xor_assoc, BitVec.xor_self, BitVec.zero_xor, xor_zero_iff, ← B_lo b h0 h1] at h
  exact hx ((xor_zero_iff _ _).2 (B_inj h))

/-- What differs sums to what the sums differ by. -/
theorem mo_xor (xs ys zs : List Int) (hl : xs.length = ys.length) (hz : zs.length = xs.length) (h : ∀ (i : Nat) (x y z : Int), xs[i]? = some x → ys[i]? = some y → zs[i]? = some z → up z = up x ^^^ up y) (s t : BitVec 16) :
    mo (s ^^^ t) zs = mo s xs ^^^ mo t ys := by
  induction xs generalizing ys zs s t with
  | nil =>
    obtain rfl := List.length_eq_zero_iff.1 hl.symm
    obtain rfl := List.length_eq_zero_iff.1 hz
    rfl
  | cons x xs ih =>
    match ys, zs, hl, hz with
    | y :: ys, z :: zs, hl, hz =>
      rw [mo_cons, mo_cons, mo_cons]
      have e : bs (s ^^^ t) z = bs s x ^^^ bs t y := by
        unfold bs
        rw [h 0 x y z rfl rfl rfl, x4, B_xor]
      rw [e]
      exact ih ys zs (by simpa using hl) (by simpa using hz) (fun i a b c ha hb hc => h (i + 1) a b c (by simpa using ha) (by simpa using hb) (by simpa using hc)) _ _

theorem up_zero : up 0 = 0#16 := by decide

/-- The sum's two bytes. -/
def sh (s : BitVec 16) : Int := (s.toNat : Int) / 256
def sl (s : BitVec 16) : Int := (s.toNat : Int) % 256

theorem sh_bd (s : BitVec 16) : 0 ≤ sh s ∧ sh s ≤ 255 := by
  have := s.isLt
  unfold sh
  omega

theorem sl_bd (s : BitVec 16) : 0 ≤ sl s ∧ sl s ≤ 255 := by
  unfold sl
  omega

theorem nat_two (x y : Nat) (hy : y < 256) : (x <<< 8) ^^^ y = x * 256 + y := by
  apply Nat.eq_of_testBit_eq
  intro i
  rw [show x * 256 + y = 2 ^ 8 * x + y by omega, Nat.testBit_two_pow_mul_add x (by simpa using hy), Nat.testBit_xor, Nat.testBit_shiftLeft]
  by_cases hi : i < 8
  · rw [if_pos hi]
    simp [show ¬ 8 ≤ i by omega]
  · rw [if_neg hi]
    have : y.testBit i = false := Nat.testBit_lt_two_pow (Nat.lt_of_lt_of_le hy (by
      have := Nat.pow_le_pow_right (show 0 < 2 by omega) (show 8 ≤ i by omega)
      simpa using this))
    simp [this, show 8 ≤ i by omega]

theorem two_nat (x y : Int) (hx0 : 0 ≤ x) (hx1 : x ≤ 255) (hy0 : 0 ≤ y) (hy1 : y ≤ 255) : ((up x ^^^ lo y).toNat : Int) = x * 256 + y := by
  obtain ⟨a, rfl⟩ := Int.eq_ofNat_of_zero_le hx0
  obtain ⟨b, rfl⟩ := Int.eq_ofNat_of_zero_le hy0
  unfold up
  rw [lo_nat, lo_nat, BitVec.toNat_xor, BitVec.toNat_shiftLeft, BitVec.toNat_ofNat, BitVec.toNat_ofNat, Nat.mod_eq_of_lt (show a < 2 ^ 16 by omega), Nat.mod_eq_of_lt (show b < 2 ^ 16 by omega), Nat.mod_eq_of_lt (show a <<< 8 < 2 ^ 16 by rw [Nat.shiftLeft_eq]; omega), nat_two a b (by omega)]
  omega

theorem two_eq (s : BitVec 16) (x y : Int) (hx0 : 0 ≤ x) (hx1 : x ≤ 255) (hy0 : 0 ≤ y) (hy1 : y ≤ 255) : s = up x ^^^ lo y ↔ (s.toNat : Int) = x * 256 + y := by
  rw [← two_nat x y hx0 hx1 hy0 hy1]
  constructor
  · rintro rfl; rfl
  · intro h
    exact BitVec.eq_of_toNat_eq (by omega)

theorem s_two (s : BitVec 16) : s = up (sh s) ^^^ lo (sl s) := by
  rw [two_eq s _ _ (sh_bd s).1 (sh_bd s).2 (sl_bd s).1 (sl_bd s).2]
  unfold sh sl
  omega

/-- The start of a sum. -/
def st : BitVec 16 := 65535#16

/-- What is sealed. -/
def se (xs : List Int) : List Int := xs ++ [sh (mo st xs), sl (mo st xs)]

/-- What is opened, and its error. -/
def op (xs : List Int) : List Int × Int :=
  if xs.length < 2 then ([], 90) else if mo st xs = 0#16 then (xs.take (xs.length - 2), 0) else ([], 91)

theorem mo_se (xs : List Int) : mo st (se xs) = 0#16 := by
  unfold se
  rw [mo_append, mo_two _ _ _ (sl_bd _).1 (sl_bd _).2]
  exact s_two _

theorem se_len (xs : List Int) : (se xs).length = xs.length + 2 := by simp [se]

theorem se_byte (xs : List Int) (h : ∀ x ∈ xs, 0 ≤ x ∧ x ≤ 255) : ∀ x ∈ se xs, 0 ≤ x ∧ x ≤ 255 := by
  intro x hx
  rcases List.mem_append.1 hx with h1 | h1
  · exact h x h1
  · simp at h1
    rcases h1 with rfl | rfl
    · exact sh_bd _
    · exact sl_bd _

theorem op_se (xs : List Int) : op (se xs) = (xs, 0) := by
  unfold op
  rw [if_neg (by rw [se_len]; omega), if_pos (mo_se xs), se_len]
  simp [se]

/-- Bytes, and two behind them. -/
theorem two_last (xs : List Int) (h : 2 ≤ xs.length) : ∃ p x y, xs = p ++ [x, y] ∧ p = xs.take (xs.length - 2) ∧ xs[xs.length - 2]? = some x ∧ xs[xs.length - 1]? = some y := by
  obtain ⟨x, hx⟩ : ∃ x, xs[xs.length - 2]? = some x := ⟨_, List.getElem?_eq_getElem (by omega)⟩
  obtain ⟨y, hy⟩ : ∃ y, xs[xs.length - 1]? = some y := ⟨_, List.getElem?_eq_getElem (by omega)⟩
  refine ⟨xs.take (xs.length - 2), x, y, ?_, rfl, hx, hy⟩
  have e1 : xs.take (xs.length - 2 + 1) = xs.take (xs.length - 2) ++ [x] := by rw [List.take_add_one, hx]; rfl
  have e2 : xs.take (xs.length - 2 + 1 + 1) = xs.take (xs.length - 2 + 1) ++ [y] := by
    rw [List.take_add_one, show xs.length - 2 + 1 = xs.length - 1 by omega, hy]; rfl
  rw [e1, List.take_of_length_le (by omega)] at e2
  rw [e2]
  simp

theorem op_two (p : List Int) (x y : Int) (hx : 0 ≤ x ∧ x ≤ 255) (hy : 0 ≤ y ∧ y ≤ 255) : op (p ++ [x, y]) = if ((mo st p).toNat : Int) = x * 256 + y then (p, 0) else ([], 91) := by
  unfold op
  have e : mo st (p ++ [x, y]) = 0#16 ↔ ((mo st p).toNat : Int) = x * 256 + y := by
    rw [mo_append, mo_two _ _ _ hy.1 hy.2, two_eq _ _ _ hx.1 hx.2 hy.1 hy.2]
  rw [if_neg (by simp)]
  simp only [e]
  simp

/-- What is opened is sealed so. -/
theorem se_op (xs : List Int) (h : ∀ x ∈ xs, 0 ≤ x ∧ x ≤ 255) (ho : (op xs).2 = 0) : se (op xs).1 = xs := by
  unfold op at ho
  by_cases h1 : xs.length < 2
  · rw [if_pos h1] at ho; simp at ho
  · obtain ⟨p, x, y, rfl, _, _, _⟩ := two_last xs (by omega)
    have hx := h x (by simp)
    have hy := h y (by simp)
    rw [if_neg h1] at ho
    by_cases h2 : mo st (p ++ [x, y]) = 0#16
    · unfold op
      rw [if_neg h1, if_pos h2]
      rw [mo_append, mo_two _ _ _ hy.1 hy.2, two_eq _ _ _ hx.1 hx.2 hy.1 hy.2] at h2
      have e1 : sh (mo st p) = x := by unfold sh; omega
      have e2 : sl (mo st p) = y := by unfold sl; omega
      simp [se, e1, e2]
    · rw [if_neg h2] at ho; simp at ho

theorem op_byte (xs : List Int) (h : ∀ x ∈ xs, 0 ≤ x ∧ x ≤ 255) : ∀ x ∈ (op xs).1, 0 ≤ x ∧ x ≤ 255 := by
  unfold op
  split
  · simp
  · split
    · exact fun x hx => h x (List.mem_of_mem_take hx)
    · simp

theorem op_len (xs : List Int) : (op xs).1.length ≤ xs.length := by
  unfold op
  split
  · simp
  · split
    · simp only [List.length_take]; omega
    · simp

/-- With two bytes turned it is not opened. -/
theorem op_turned (xs : List Int) (i : Nat) (x y x' y' a b : Int) (hz : mo st xs = 0#16) (h1 : xs[i]? = some x) (h2 : xs[i + 1]? = some y) (ha : 0 ≤ a ∧ a ≤ 255) (hb : 0 ≤ b ∧ b ≤ 255) (hab : ¬ (a = 0 ∧ b = 0)) (ex : up x' = up x ^^^ up a) (ey : up y' = up y ^^^ up b) :
    op ((xs.set i x').set (i + 1) y') = ([], 91) := by
  have l1 := (List.getElem?_eq_some_iff.1 h1).1
  have l2 := (List.getElem?_eq_some_iff.1 h2).1
  have e0 : xs = xs.take i ++ ([x, y] ++ xs.drop (i + 2)) := by
    have d1 : xs.drop i = x :: xs.drop (i + 1) := by rw [List.drop_eq_getElem_cons l1]; congr 1; exact (List.getElem?_eq_some_iff.1 h1).2
    have d2 : xs.drop (i + 1) = y :: xs.drop (i + 1 + 1) := by rw [List.drop_eq_getElem_cons l2]; congr 1; exact (List.getElem?_eq_some_iff.1 h2).2
    calc xs = xs.take i ++ xs.drop i := (List.take_append_drop i xs).symm
      _ = _ := by rw [d1, d2]; rfl
  have e1 : (xs.set i x').set (i + 1) y' = xs.take i ++ ([x', y'] ++ xs.drop (i + 2)) := by
    have ht : (xs.take i).length = i := by rw [List.length_take]; omega
    conv => lhs; rw [e0]
    rw [List.set_append_right _ _ (by omega), List.set_append_right _ _ (by omega), ht]
    simp
  have hn : up a ^^^ lo b ≠ 0#16 := by
    intro h
    have := two_nat a b ha.1 ha.2 hb.1 hb.2
    rw [h] at this
    simp at this
    omega
  unfold op
  rw [if_neg (by simp; omega), if_neg]
  rw [e1, mo_append]
  rw [e0, mo_append] at hz
  rw [← hz]
  exact mo_turned _ x y a b hn hb.1 hb.2 x' y' ex ey _

/-- A half byte: the sum's four highest bits do what the byte's do. -/
theorem L_low (s : BitVec 16) (h : s.msb = false) : L s = s <<< 1 := by
  unfold L
  simp [h]

theorem H_low (s : BitVec 16) (h : s >>> 12 = 0#16) : H s = s <<< 4 := by
  have hb : ∀ i, 12 ≤ i → s.getLsbD i = false := by
    intro i hi
    have : (s >>> 12).getLsbD (i - 12) = false := by rw [h]; simp
    rw [BitVec.getLsbD_ushiftRight, show 12 + (i - 12) = i by omega] at this
    exact this
  unfold H
  rw [L_low s (by rw [BitVec.msb_eq_getLsbD_last]; exact hb _ (by omega)),
    L_low (s <<< 1) (by rw [BitVec.msb_eq_getLsbD_last, BitVec.getLsbD_shiftLeft]; simpa using hb 14 (by omega)),
    L_low (s <<< 1 <<< 1) (by rw [BitVec.msb_eq_getLsbD_last, BitVec.getLsbD_shiftLeft, BitVec.getLsbD_shiftLeft]; simpa using hb 13 (by omega)),
    L_low (s <<< 1 <<< 1 <<< 1) (by rw [BitVec.msb_eq_getLsbD_last, BitVec.getLsbD_shiftLeft, BitVec.getLsbD_shiftLeft, BitVec.getLsbD_shiftLeft]; simpa using hb 12 (by omega))]
  simp [← BitVec.shiftLeft_add]

theorem H_parts (s : BitVec 16) : H s = (s <<< 4) ^^^ H ((s >>> 12) <<< 12) := by
  have e : s = (s ^^^ ((s >>> 12) <<< 12)) ^^^ ((s >>> 12) <<< 12) := by rw [BitVec.xor_assoc, BitVec.xor_self, BitVec.xor_zero]
  have h1 : (s ^^^ ((s >>> 12) <<< 12)) >>> 12 = 0#16 := by
    apply BitVec.eq_of_getLsbD_eq
    intro i hi
    simp only [BitVec.getLsbD_ushiftRight, BitVec.getLsbD_xor, BitVec.getLsbD_shiftLeft, BitVec.getLsbD_zero]
    by_cases h : 12 + i < 16
    · simp [h]
    · have : s.getLsbD (12 + i) = false := BitVec.getLsbD_of_ge _ _ (by omega)
      simp [h, this]
  have h2 : (s ^^^ ((s >>> 12) <<< 12)) <<< 4 = s <<< 4 := by
    rw [BitVec.shiftLeft_xor_distrib, ← BitVec.shiftLeft_add]
    have : (s >>> 12) <<< (12 + 4) = 0#16 := by
      apply BitVec.eq_of_getLsbD_eq
      intro i hi
      rw [BitVec.getLsbD_shiftLeft]
      simp [show i < 16 by omega]
    rw [this, BitVec.xor_zero]
  conv => lhs; rw [e]
  rw [H_xor, H_low _ h1, h2]

theorem half_step (s h : BitVec 16) : H (s ^^^ (h <<< 12)) = (s <<< 4) ^^^ H (((s >>> 12) ^^^ h) <<< 12) := by
  rw [H_xor, H_parts s, BitVec.shiftLeft_xor_distrib, H_xor, BitVec.xor_assoc]

/-- A byte's two halves. -/
theorem byte_halves (s : BitVec 16) (x : Int) (h0 : 0 ≤ x) (h1 : x ≤ 255) : H (H (s ^^^ (BitVec.ofNat 16 (x.toNat / 16) <<< 12)) ^^^ (BitVec.ofNat 16 (x.toNat % 16) <<< 12)) = bs s x := by
  obtain ⟨n, rfl⟩ := Int.eq_ofNat_of_zero_le h0
  have k : ∀ m : Fin 256, BitVec.ofNat 16 (m.val % 16) <<< 12 = H (BitVec.ofNat 16 (m.val % 16) <<< 8) ∧ BitVec.ofNat 16 (m.val / 16) <<< 12 ^^^ BitVec.ofNat 16 (m.val % 16) <<< 8 = BitVec.ofNat 16 m.val <<< 8 := by decide +kernel
  obtain ⟨k1, k2⟩ := k ⟨n, by omega⟩
  simp only at k1 k2
  rw [Int.toNat_natCast, k1, ← H_xor, BitVec.xor_assoc, k2]
  unfold bs B up
  rw [lo_nat]

/-- A byte's bits, the highest first. -/
def bx (x : Int) (k : Nat) : BitVec 16 := if x.toNat / 2 ^ k % 2 = 1 then 32768#16 else 0#16

/-- A sum behind a byte's bits down to the one at k. -/
def bits8 (s : BitVec 16) (x : Int) : Nat → BitVec 16
  | 0 => s
  | k + 1 => L (bits8 s x k ^^^ bx x (7 - k))

theorem bits8_all (s : BitVec 16) (x : Int) (h0 : 0 ≤ x) (h1 : x ≤ 255) : bits8 s x 8 = bs s x := by
  obtain ⟨n, rfl⟩ := Int.eq_ofNat_of_zero_le h0
  have k : ∀ m : Fin 256, bits8 0#16 (m.val : Int) 8 = B (BitVec.ofNat 16 m.val <<< 8) := by decide +kernel
  have k1 := k ⟨n, by omega⟩
  simp only at k1
  have g : ∀ j, bits8 s (n : Int) j = bits8 s 0 j ^^^ bits8 0#16 (n : Int) j := by
    intro j
    induction j with
    | zero => simp [bits8]
    | succ j ih =>
      rw [bits8, bits8, bits8, ih, BitVec.xor_assoc, L_xor, show bx 0 (7 - j) = 0#16 by simp [bx], BitVec.xor_zero]
  have z : bits8 s 0 8 = B s := by simp [bits8, bx, B, H]
  rw [g, k1, z]
  unfold bs up
  rw [lo_nat, B_xor]

/-- Bytes turned, bit by bit. -/
theorem up_xor (x a : Nat) : up ((x ^^^ a : Nat) : Int) = up x ^^^ up a := by
  unfold up
  rw [lo_nat, lo_nat, lo_nat, ← BitVec.shiftLeft_xor_distrib]
  congr 1
  apply BitVec.eq_of_toNat_eq
  rw [BitVec.toNat_xor, BitVec.toNat_ofNat, BitVec.toNat_ofNat, BitVec.toNat_ofNat]
  exact Nat.xor_mod_two_pow

end Go.Proofs.YtdljmpaabpkmkaaDoor.Cr
