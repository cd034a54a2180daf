/-
  What two library functions that exchange runs of a slice do, over any program that holds their texts: at elements of k cells, from a world of the sort's to a world of the sort's.  Conditions: as each theorem states.
-/
import Derived.Test.YtmjedpaiccaddaaSt
import Derived.Test.YtmjedpaiccaddaaRows
import Derived.Shelf.SlSortCmp.KitK
import Derived.Sort.WalkB2
import Derived.Sort.WalkB12
import Derived.Deep.LoopGhost
namespace Go.Proofs.Ytmjedpaiccaddaa.Ss
set_option maxRecDepth 1000000
open Go.Shelf Go.RowKit Go.Lib Go.Sort

/-- What is asked of the program. -/
structure Has (P : Program) (k : Nat) : Prop where
  mixed : P.follows .mixedOrders = true
  swapR : P.funcs[64]? = some Try.f64
  rot : P.funcs[58]? = some Try.f58
  sym : P.funcs[46]? = some Try.f46
  sta : P.funcs[41]? = some Try.f41
  srt : P.funcs[31]? = some Try.f31
  ins : ∀ args w, (callFunc 45 args).run P w = .ok (.enter 45 args) w
  eswapR : ∀ args w, (callFunc 64 args).run P w = .ok (.enter 64 args) w
  erot : ∀ args w, (callFunc 58 args).run P w = .ok (.enter 58 args) w
  esym : ∀ args w, (callFunc 46 args).run P w = .ok (.enter 46 args) w
  esta : ∀ args w, (callFunc 41 args).run P w = .ok (.enter 41 args) w
  t0 : P.underlying 0 = some (.tuple #[])
  a0 : ∀ w, (isAgg 0).run P w = .ok false w
  z0 : ∀ w, (Go.sizeOf 0).run P w = .ok 1 w
  t3 : P.underlying 3 = some (.int .i64)
  a3 : ∀ w, (isAgg 3).run P w = .ok false w
  z3 : ∀ w, (Go.sizeOf 3).run P w = .ok 1 w
  v3 : ∀ w, (zeroValue 3).run P w = .ok (.int .i64 0) w
  t4 : P.underlying 4 = some .bool
  a4 : ∀ w, (isAgg 4).run P w = .ok false w
  z4 : ∀ w, (Go.sizeOf 4).run P w = .ok 1 w
  v4 : ∀ w, (zeroValue 4).run P w = .ok (.bool false) w
  t22 : P.underlying 22 = some (.slice 31)
  a22 : ∀ w, (isAgg 22).run P w = .ok false w
  z22 : ∀ w, (Go.sizeOf 22).run P w = .ok 1 w
  v22 : ∀ w, (zeroValue 22).run P w = .ok (.slice none 0 0) w
  t68 : P.underlying 68 = some (.int .u64)
  a68 : ∀ w, (isAgg 68).run P w = .ok false w
  z68 : ∀ w, (Go.sizeOf 68).run P w = .ok 1 w
  v68 : ∀ w, (zeroValue 68).run P w = .ok (.int .u64 0) w
  a57 : ∀ w, (isAgg 57).run P w = .ok false w
  z57 : ∀ w, (Go.sizeOf 57).run P w = .ok 1 w
  v57 : ∀ w, (zeroValue 57).run P w = .ok .nilFunc w
  aE : ∀ w, (isAgg 31).run P w = .ok true w
  zE : ∀ w, (Go.sizeOf 31).run P w = .ok k w

variable {P : Program} {α : Type} [Inhabited α] {enc : α → List Value} {k : Nat} {w0 : World} {blk off : Nat} {d0 : Array α}

set_option maxHeartbeats 4000000 in
theorem swap_range (L : Has P k) (R : RowK enc k w0 blk off d0) (cap a b n : Nat) (fv : Value) (d : Array α) (w : World) (hs : d0.size = d.size) (S : SWK enc k w0 blk off d w) (hab : a + n ≤ b) (hb : b + n ≤ d.size) (hsz : d.size < 4611686018427387904) :
    Calls P 64 #[.slice (some ⟨blk, off, none⟩) d.size cap, .int .i64 a, .int .i64 b, .int .i64 n, fv] w fun e w' =>
      e = .returned (.tuple #[]) ∧ ∃ d', SWK enc k w0 blk off d' w' ∧ IsSw d a b n d' ∧ PermIn a (b + n) d d' := by
  have mixed := L.mixed; have t0 := L.t0; have a0 := L.a0; have z0 := L.z0; have t3 := L.t3; have a3 := L.a3; have z3 := L.z3; have v3 := L.v3; have t4 := L.t4; have a4 := L.a4; have z4 := L.z4; have v4 := L.v4; have t22 := L.t22; have a22 := L.a22; have z22 := L.z22; have v22 := L.v22; have t68 := L.t68; have a68 := L.a68; have z68 := L.z68; have v68 := L.v68; have a57 := L.a57; have z57 := L.z57; have v57 := L.v57; have aE := L.aE; have zE := L.zE
  have FG := L.swapR
  have S0 : Aside (SWK enc k w0 blk off d w) := S
  clear S
  go_enter FG, Try.ntmps64
  go_wp2
  go_loopg [10] n (fun kx s10 wr => ∃ (i : Nat) (dk : Array α), s10 = .int .i64 i ∧ i ≤ n ∧ n - i ≤ kx ∧ dk.size = d.size ∧ Aside (SWK enc k w0 blk off dk wr) ∧ Hid (IsSw d a b i dk ∧ PermIn a (b + n) d dk))
  case atStart => exact ⟨0, d, rfl, Nat.zero_le _, by omega, rfl, S0, ⟨sw_nil d a b, permIn_refl _ _ _⟩⟩
  case round =>
    clear S0
    obtain ⟨i, dk, rfl, hin, hkx, hds, S1, HI⟩ := hrel
    by_cases hlt : i < n
    · have hltz : (i : Int) < (n : Int) := by omega
      go_wp2_with fail
      have ea5 : ((a : Int) + (i : Int)).toNat = a + i := by omega
      have pa5 : (0 : Int) ≤ (a : Int) + (i : Int) := by omega
      have ba5 : (a : Int) + (i : Int) < (d.size : Int) := by omega
      have ra5 : IntKind.i64.wrap ((a : Int) + (i : Int)) = (a : Int) + (i : Int) := by rw [IntKind.wrap_i64]; omega
      have ec5 : ((b : Int) + (i : Int)).toNat = b + i := by omega
      have pc5 : (0 : Int) ≤ (b : Int) + (i : Int) := by omega
      have bc5 : (b : Int) + (i : Int) < (d.size : Int) := by omega
      have rc5 : IntKind.i64.wrap ((b : Int) + (i : Int)) = (b : Int) + (i : Int) := by rw [IntKind.wrap_i64]; omega
      have S2 : Aside (SWK enc k w0 blk off (swp dk (a + i) (b + i)) ((wr.drew.setCells blk (off + (a + i) * k) (enc dk[b + i]!)).setCells blk (off + (b + i) * k) (enc dk[a + i]!))) := S1.out.swapped R (a + i) (b + i) (by omega) (by omega)
      have l5a := S1.out.ld1 R (by omega) P (a + i) (by omega)
      have l5b := S1.out.ld1 R (by omega) P (b + i) (by omega)
      have s5a := S1.out.st1 R (by omega) P (a + i) (by omega) dk[b + i]!
      have s5b := S1.out.st2 R (by omega) P (a + i) (b + i) (by omega) (by omega) dk[b + i]! dk[a + i]!
      have n5a : (enc dk[a + i]!).length = k := R.hk _
      have n5b : (enc dk[b + i]!).length = k := R.hk _
      generalize enc dk[a + i]! = cI5 at S2 l5a s5b n5a
      generalize enc dk[b + i]! = cJ5 at S2 l5b s5a s5b n5b
      clear S1
      go_wp2_with fail
      go_big_region_o
      clear l5a l5b s5a s5b
      generalize (wr.drew.setCells blk (off + (a + i) * k) cJ5).setCells blk (off + (b + i) * k) cI5 = w2 at S2 ⊢
      go_wp2
      go_roundg (n - (i + 1))
      case measure => omega
      case rel => exact ⟨i + 1, swp dk (a + i) (b + i), by go_num, by omega, Nat.le_refl _, by rw [size_swp]; exact hds, S2, ⟨sw_more HI.out.1 (by omega) (by omega), permIn_trans _ _ _ _ _ HI.out.2 (swp_permIn dk _ _ _ _ (by omega) (by omega) (by omega) (by omega) (by omega))⟩⟩
    · have hltz : ¬ (i : Int) < (n : Int) := by omega
      obtain rfl : i = n := by omega
      go_wp2
      go_end0
      exact ⟨rfl, dk, S1.out, HI.out.1, HI.out.2⟩

end Go.Proofs.Ytmjedpaiccaddaa.Ss
