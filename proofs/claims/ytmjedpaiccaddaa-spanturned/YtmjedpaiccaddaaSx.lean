/-
  What the library's exchange of two neighbouring runs does: at elements of k cells, from a world of the sort's to a world of the sort's.  Conditions: as the theorem states.
-/
import Derived.Test.YtmjedpaiccaddaaSv
namespace Go.Proofs.Ytmjedpaiccaddaa.Ss
set_option maxRecDepth 1000000
open Go.Shelf Go.RowKit Go.Lib Go.Sort
variable {P : Program} {α : Type} [Inhabited α] {enc : α → List Value} {k : Nat} {w0 : World} {blk off : Nat} {d0 : Array α}

set_option maxHeartbeats 4000000 in
theorem rotate_any (L : Has P k) (R : RowK enc k w0 blk off d0) (cap a m b : Nat) (fv : Value) (d : Array α) (w : World) (hs : d0.size = d.size) (S : SWK enc k w0 blk off d w) (ham : a < m) (hmb : m < b) (hb : b ≤ d.size) (hsz : d.size < 4611686018427387904) :
    Calls P 58 #[.slice (some ⟨blk, off, none⟩) d.size cap, .int .i64 a, .int .i64 m, .int .i64 b, fv] w fun e w' =>
      e = .returned (.tuple #[]) ∧ ∃ d', SWK enc k w0 blk off d' w' ∧ IsRot d a m b d' ∧ PermIn a b d d' := by
  have mixed := L.mixed; have t0 := L.t0; have a0 := L.a0; have z0 := L.z0; have t3 := L.t3; have a3 := L.a3; have z3 := L.z3; have v3 := L.v3; have t4 := L.t4; have a4 := L.a4; have z4 := L.z4; have v4 := L.v4; have t22 := L.t22; have a22 := L.a22; have z22 := L.z22; have v22 := L.v22; have t68 := L.t68; have a68 := L.a68; have z68 := L.z68; have v68 := L.v68; have a57 := L.a57; have z57 := L.z57; have v57 := L.v57; have aE := L.aE; have zE := L.zE
  have eS := L.eswapR
  have FG := L.rot
  have S0 : Aside (SWK enc k w0 blk off d w) := S
  clear S
  go_enter FG, Try.ntmps58
  have q1 : IntKind.i64.wrap ((m : Int) - (a : Int)) = (m : Int) - (a : Int) := by rw [IntKind.wrap_i64]; omega
  have q2 : IntKind.i64.wrap ((b : Int) - (m : Int)) = (b : Int) - (m : Int) := by rw [IntKind.wrap_i64]; omega
  go_wp2
  go_loopg [10, 11] (b - a) (fun kx s10 s11 wr => ∃ (i j : Nat) (dk : Array α), s10 = .int .i64 i ∧ s11 = .int .i64 j ∧ 0 < i ∧ 0 < j ∧ i ≤ m - a ∧ j ≤ b - m ∧ i + j ≤ kx ∧ dk.size = d.size ∧ Aside (SWK enc k w0 blk off dk wr) ∧ Hid ((∀ d', IsRot dk (m - i) m (m + j) d' → IsRot d a m b d') ∧ PermIn a b d dk))
  case atStart =>
    refine ⟨m - a, b - m, d, by congr 1; omega, by congr 1; omega, by omega, by omega, Nat.le_refl _, Nat.le_refl _, by omega, rfl, S0, ⟨fun d' h => ?_, permIn_refl _ _ _⟩⟩
    have e1 : m - (m - a) = a := by omega
    have e2 : m + (b - m) = b := by omega
    rw [e1, e2] at h
    exact h
  case round =>
    clear S0
    obtain ⟨i, j, dk, rfl, rfl, hi0, hj0, him, hjm, hkx, hds, S1, HI⟩ := hrel
    have r1 : IntKind.i64.wrap ((m : Int) - (i : Int)) = (m : Int) - (i : Int) := by rw [IntKind.wrap_i64]; omega
    have r2 : IntKind.i64.wrap ((m : Int) + (j : Int)) = (m : Int) + (j : Int) := by rw [IntKind.wrap_i64]; omega
    have r3 : IntKind.i64.wrap ((m : Int) + (j : Int) - (i : Int)) = (m : Int) + (j : Int) - (i : Int) := by rw [IntKind.wrap_i64]; omega
    have r4 : IntKind.i64.wrap ((i : Int) - (j : Int)) = (i : Int) - (j : Int) := by rw [IntKind.wrap_i64]; omega
    have r5 : IntKind.i64.wrap ((j : Int) - (i : Int)) = (j : Int) - (i : Int) := by rw [IntKind.wrap_i64]; omega
    have z1 : ((m - i : Nat) : Int) = (m : Int) - (i : Int) := by omega
    rcases Nat.lt_trichotomy i j with c | c | c
    · have hc := swap_range L R cap (m - i) (m + j - i) i fv dk wr (by omega) S1.out (by omega) (by omega) (by omega)
      have z2 : ((m + j - i : Nat) : Int) = (m : Int) + (j : Int) - (i : Int) := by omega
      rw [z1, z2, hds] at hc
      have n1 : ¬ ((i : Int) = (j : Int)) := by omega
      have n2 : ¬ ((j : Int) < (i : Int)) := by omega
      have n3 : ((i : Int) == (j : Int)) = false := by simpa using n1
      clear S1
      go_wp2_with (go_at_fn 64; refine hc.mono ?_; rintro e w2 ⟨rfl, d2, S2, X2, P2⟩)
      go_roundg (i + (j - i))
      case measure => omega
      case rel =>
        refine ⟨i, j - i, d2, by first | rfl | go_num, by congr 1; omega, hi0, by omega, him, by omega, Nat.le_refl _, by rw [P2.1]; exact hds, S2, ⟨fun d' h => HI.out.1 d' (rot_short c (by omega) X2 h), ?_⟩⟩
        exact permIn_trans _ _ _ _ _ HI.out.2 (permIn_mono _ _ _ _ _ _ (by omega) (by omega) (by omega) P2)
    · subst c
      have hc := swap_range L R cap (m - i) m i fv dk wr (by omega) S1.out (by omega) (by omega) (by omega)
      rw [z1, hds] at hc
      clear S1
      go_wp2_with (go_at_fn 64; refine hc.mono ?_; rintro e w2 ⟨rfl, d2, S2, X2, P2⟩)
      go_end0
      refine ⟨rfl, d2, S2, HI.out.1 d2 (rot_even (by omega) X2), permIn_trans _ _ _ _ _ HI.out.2 (permIn_mono _ _ _ _ _ _ (by omega) (by omega) (by omega) P2)⟩
    · have hc := swap_range L R cap (m - i) m j fv dk wr (by omega) S1.out (by omega) (by omega) (by omega)
      rw [z1, hds] at hc
      have n1 : ¬ ((i : Int) = (j : Int)) := by omega
      have n2 : (j : Int) < (i : Int) := by omega
      have n3 : ((i : Int) == (j : Int)) = false := by simpa using n1
      clear S1
      go_wp2_with (go_at_fn 64; refine hc.mono ?_; rintro e w2 ⟨rfl, d2, S2, X2, P2⟩)
      go_roundg (i - j + j)
      case measure => omega
      case rel =>
        refine ⟨i - j, j, d2, by congr 1; omega, by first | rfl | go_num, by omega, hj0, by omega, hjm, Nat.le_refl _, by rw [P2.1]; exact hds, S2, ⟨fun d' h => HI.out.1 d' (rot_long c (by omega) X2 h), ?_⟩⟩
        exact permIn_trans _ _ _ _ _ HI.out.2 (permIn_mono _ _ _ _ _ _ (by omega) (by omega) (by omega) P2)

end Go.Proofs.Ytmjedpaiccaddaa.Ss
