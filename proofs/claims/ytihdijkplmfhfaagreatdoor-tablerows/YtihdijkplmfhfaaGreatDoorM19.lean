/-
  Texts of mine, merged: each part says what it holds. Conditions: as each theorem states.
-/
import Derived.Lib.Hide
import Derived.Deep.CutRange
import Derived.Shelf.SlSortCmp.InsertionK
import Derived.Test.YtihdijkplmfhfaaGreatDoorM18

/- What the library's merging of two neighbouring sorted runs does: at elements of k cells, from a world of the sort's to a world of the sort's. Conditions: as the theorem states. -/
namespace Go.Proofs.YtihdijkplmfhfaaGreatDoor.Ss
set_option maxRecDepth 100000
set_option maxRecDepth 1000000
open Go.Shelf Go.RowKit Go.Lib Go.Sort
variable {P : Program} {α : Type} [Inhabited α] {enc : α → List Value} {k : Nat} {w0 : World} {blk off : Nat} {d0 : Array α}

set_option maxHeartbeats 16000000 in
theorem sym_any (L : Has P k) (R : RowK enc k w0 blk off d0) (cf : α → α → Int) (hO : SWO (ltOf cf)) (tg : α → Nat) (g : Nat) (cb : Array Value) (eg : ∀ args w, (callFunc g args).run P w = .ok (.enter g args) w) (hcmp : CmpLays P g cb enc k cf blk off d0.size w0) (cap : Nat) :
    ∀ (f a m b : Nat) (d : Array α) (w : World), b - a ≤ f → d0.size = d.size → SWK enc k w0 blk off d w → a < m → m < b → b ≤ d.size → d.size < 1152921504606846976 → SortedIn (sl (ltOf cf) tg) a m d → SortedIn (sl (ltOf cf) tg) m b d → Lo tg a m b d →
    Calls P 153 #[.slice (some ⟨blk, off, none⟩) d.size cap, .int .i64 a, .int .i64 m, .int .i64 b, .func (.func g) #[] cb] w fun e w' =>
      e = .returned (.tuple #[]) ∧ ∃ d', SWK enc k w0 blk off d' w' ∧ PermIn a b d d' ∧ SortedIn (sl (ltOf cf) tg) a b d' := by
  intro f
  induction f with
  | zero => intro a m b d w hf _ _ ham hmb; exact absurd hf (by omega)
  | succ f ih =>
    intro a m b d w hf hs S ham hmb hb hsz hA hB hL
    have hO2 := swo_sl hO tg
    have mixed := L.mixed; have t0 := L.t0; have a0 := L.a0; have z0 := L.z0; have t3 := L.t3; have a3 := L.a3; have z3 := L.z3; have v3 := L.v3; have t4 := L.t4; have a4 := L.a4; have z4 := L.z4; have v4 := L.v4; have t22 := L.t22; have a22 := L.a22; have z22 := L.z22; have v22 := L.v22; have t68 := L.t68; have a68 := L.a68; have z68 := L.z68; have v68 := L.v68; have a57 := L.a57; have z57 := L.z57; have v57 := L.v57; have aE := L.aE; have zE := L.zE
    have eR := L.erot
    have eY := L.esym
    have FG := L.sym
    have HC : Aside _ := hcmp
    have S0 : Aside (SWK enc k w0 blk off d w) := S
    have HA : Hid _ := hA
    have HB : Hid _ := hB
    have HL : Hid _ := hL
    have HO : Hid _ := hO2
    have HO1 : Hid _ := hO
    clear S hcmp hA hB hL hO2 hO
    have q1 : IntKind.i64.wrap ((m : Int) - (a : Int)) = (m : Int) - (a : Int) := by rw [IntKind.wrap_i64]; omega
    have q2 : IntKind.i64.wrap ((b : Int) - (m : Int)) = (b : Int) - (m : Int) := by rw [IntKind.wrap_i64]; omega
    have q3 : IntKind.i64.wrap ((a : Int) + (b : Int)) = (a : Int) + (b : Int) := by rw [IntKind.wrap_i64]; omega
    go_enter FG, Tryz.ntmps153
    by_cases h1 : m = a + 1
    · have n1 : (m : Int) - (a : Int) = 1 := by omega
      have t1 : ((m : Int) - (a : Int) == 1) = true := by rw [n1]; rfl
      have hm1 : a + 1 ≤ m := by omega
      have hm2 : m ≤ a + 1 := by omega
      have H1 : Hid (m = a + 1) := Lib.hid h1
      clear h1
      have HL1 : Hid (∀ h, m ≤ h → h < b → sl (ltOf cf) tg d[h]! d[a]! = ltOf cf d[h]! d[a]!) := Lib.hid (fun h u v => lo_lt HL.out (Nat.le_refl _) ham u v)
      go_wp2
      go_loopg [10, 11] b (fun kx s10 s11 wr => ∃ (i j : Nat), s10 = .int .i64 i ∧ s11 = .int .i64 j ∧ m ≤ i ∧ i ≤ j ∧ j ≤ b ∧ j - i ≤ kx ∧ Aside (SWK enc k w0 blk off d wr) ∧ Hid ((∀ h, m ≤ h → h < i → sl (ltOf cf) tg d[h]! d[a]! = true) ∧ (∀ h, j ≤ h → h < b → sl (ltOf cf) tg d[h]! d[a]! = false)))
      case atStart => exact ⟨m, b, rfl, rfl, Nat.le_refl _, by omega, Nat.le_refl _, by omega, S0, ⟨fun h u v => by omega, fun h u v => by omega⟩⟩
      case round =>
        clear S0
        obtain ⟨i, j, rfl, rfl, hi0, hij, hjb, hkx, S1, HI⟩ := hrel
        by_cases hlt : i < j
        · have hltz : (i : Int) < (j : Int) := by omega
          have q4 : IntKind.i64.wrap ((i : Int) + (j : Int)) = (i : Int) + (j : Int) := by rw [IntKind.wrap_i64]; omega
          obtain ⟨h, hh⟩ : ∃ h : Nat, h = (i + j) / 2 := ⟨_, rfl⟩
          have hz : ((i : Int) + (j : Int)) / 2 = (h : Int) := by omega
          have hh1 : i ≤ h := by omega
          have hh2 : h < j := by omega
          clear hh
          cases hv : ltOf cf d[h]! d[a]! with
          | true =>
            have ea7 : ((h : Int)).toNat = h := by omega
            have pa7 : (0 : Int) ≤ (h : Int) := by omega
            have ba7 : (h : Int) < (d.size : Int) := by omega
            have ra7 : IntKind.i64.wrap ((h : Int)) = (h : Int) := by rw [IntKind.wrap_i64]; omega
            have ec7 : ((a : Int)).toNat = a := by omega
            have pc7 : (0 : Int) ≤ (a : Int) := by omega
            have bc7 : (a : Int) < (d.size : Int) := by omega
            have rc7 : IntKind.i64.wrap ((a : Int)) = (a : Int) := by rw [IntKind.wrap_i64]; omega
            obtain ⟨x7, hx7⟩ : ∃ x, x = d[h]! := ⟨_, rfl⟩
            obtain ⟨y7, hy7⟩ : ∃ x, x = d[a]! := ⟨_, rfl⟩
            have l7a := S1.out.ld R (by omega) P (h) (by omega)
            have l7b := S1.out.ld R (by omega) P (a) (by omega)
            rw [← hx7] at l7a
            rw [← hy7] at l7b
            have hc7 := S1.out.cmp HC.out (by omega) x7 y7
            have hv7 : cf x7 y7 < 0 := by rw [hx7, hy7]; exact of_decide_eq_true hv
            have hd7 : decide (cf x7 y7 < 0) = true := decide_eq_true hv7
            clear hx7 hy7
            go_wp2_with fail
            go_quiet_grown (first | (go_at_fn g; refine Calls.grown_of (hc7 _ _)))
            have S2 : Aside (SWK enc k w0 blk off d (grow (wr.drewN nq) osq)) := S1.out.grown nq osq
            clear l7a l7b hc7 S1
            generalize grow (wr.drewN nq) osq = w2 at S2 ⊢
            clear nq osq
            go_wp2
            go_roundg (j - (h + 1))
            case measure => omega
            case rel =>
              refine ⟨h + 1, j, by go_num, rfl, by omega, by omega, hjb, Nat.le_refl _, S2, ⟨fun x u v => ?_, HI.out.2⟩⟩
              by_cases c : x < i
              · exact HI.out.1 x u c
              · cases e : sl (ltOf cf) tg d[x]! d[a]! with
                | true => rfl
                | false =>
                  have e1 := sorted_le HO.out HB.out (i := x) (j := h) u (by omega) (by omega)
                  have e2 := HO.out.ntrans _ _ _ e1 e
                  rw [HL1.out h (by omega) (by omega), hv] at e2
                  cases e2
          | false =>
            have ea8 : ((h : Int)).toNat = h := by omega
            have pa8 : (0 : Int) ≤ (h : Int) := by omega
            have ba8 : (h : Int) < (d.size : Int) := by omega
            have ra8 : IntKind.i64.wrap ((h : Int)) = (h : Int) := by rw [IntKind.wrap_i64]; omega
            have ec8 : ((a : Int)).toNat = a := by omega
            have pc8 : (0 : Int) ≤ (a : Int) := by omega
            have bc8 : (a : Int) < (d.size : Int) := by omega
            have rc8 : IntKind.i64.wrap ((a : Int)) = (a : Int) := by rw [IntKind.wrap_i64]; omega
            obtain ⟨x8, hx8⟩ : ∃ x, x = d[h]! := ⟨_, rfl⟩
            obtain ⟨y8, hy8⟩ : ∃ x, x = d[a]! := ⟨_, rfl⟩
            have l8a := S1.out.ld R (by omega) P (h) (by omega)
            have l8b := S1.out.ld R (by omega) P (a) (by omega)
            rw [← hx8] at l8a
            rw [← hy8] at l8b
            have hc8 := S1.out.cmp HC.out (by omega) x8 y8
            have hv8 : ¬ cf x8 y8 < 0 := by rw [hx8, hy8]; exact of_decide_eq_false hv
            have hd8 : decide (cf x8 y8 < 0) = false := decide_eq_false hv8
            clear hx8 hy8
            go_wp2_with fail
            go_quiet_grown (first | (go_at_fn g; refine Calls.grown_of (hc8 _ _)))
            have S2 : Aside (SWK enc k w0 blk off d (grow (wr.drewN nq) osq)) := S1.out.grown nq osq
            clear l8a l8b hc8 S1
            generalize grow (wr.drewN nq) osq = w2 at S2 ⊢
            clear nq osq
            go_wp2
            go_roundg (h - i)
            case measure => omega
            case rel =>
              refine ⟨i, h, by first | rfl | go_num, rfl, hi0, hh1, by omega, Nat.le_refl _, S2, ⟨HI.out.1, fun x u v => ?_⟩⟩
              have e1 : sl (ltOf cf) tg d[h]! d[a]! = false := by rw [HL1.out h (by omega) (by omega)]; exact hv
              exact HO.out.ntrans _ _ _ (sorted_le HO.out HB.out (i := h) (j := x) (by omega) u v) e1
        · have hltz : ¬ (i : Int) < (j : Int) := by omega
          obtain rfl : i = j := by omega
          have qw : IntKind.i64.wrap ((i : Int) - 1) = (i : Int) - 1 := by rw [IntKind.wrap_i64]; omega
          go_wp2
          go_loopg [13] i (fun kx s13 wr => ∃ (y : Nat) (dk : Array α), s13 = .int .i64 y ∧ a ≤ y ∧ y + 1 ≤ i ∧ i - y ≤ kx ∧ dk.size = d.size ∧ Aside (SWK enc k w0 blk off dk wr) ∧ Hid (IsRot d a (a + 1) (y + 1) dk ∧ PermIn a b d dk))
          case atStart => exact ⟨a, d, rfl, Nat.le_refl _, by omega, by omega, rfl, S1, ⟨rot_right d a (a + 1), permIn_refl _ _ _⟩⟩
          case round =>
            clear S1
            obtain ⟨y, dk, rfl, hy0, hyi, hkx2, hds, S2, HJ⟩ := hrel
            by_cases hlt2 : y + 1 < i
            · have hltz2 : (y : Int) < (i : Int) - 1 := by omega
              go_wp2_with fail
              have ea9 : ((y : Int)).toNat = y := by omega
              have pa9 : (0 : Int) ≤ (y : Int) := by omega
              have ba9 : (y : Int) < (d.size : Int) := by omega
              have ra9 : IntKind.i64.wrap ((y : Int)) = (y : Int) := by rw [IntKind.wrap_i64]; omega
              have ec9 : ((y : Int) + 1).toNat = y + 1 := by omega
              have pc9 : (0 : Int) ≤ (y : Int) + 1 := by omega
              have bc9 : (y : Int) + 1 < (d.size : Int) := by omega
              have rc9 : IntKind.i64.wrap ((y : Int) + 1) = (y : Int) + 1 := by rw [IntKind.wrap_i64]; omega
              have S3 : Aside (SWK enc k w0 blk off (swp dk (y) (y + 1)) ((wr.drew.setCells blk (off + (y) * k) (enc dk[y + 1]!)).setCells blk (off + (y + 1) * k) (enc dk[y]!))) := S2.out.swapped R (y) (y + 1) (by omega) (by omega)
              have l9a := S2.out.ld1 R (by omega) P (y) (by omega)
              have l9b := S2.out.ld1 R (by omega) P (y + 1) (by omega)
              have s9a := S2.out.st1 R (by omega) P (y) (by omega) dk[y + 1]!
              have s9b := S2.out.st2 R (by omega) P (y) (y + 1) (by omega) (by omega) dk[y + 1]! dk[y]!
              have n9a : (enc dk[y]!).length = k := R.hk _
              have n9b : (enc dk[y + 1]!).length = k := R.hk _
              generalize enc dk[y]! = cI9 at S3 l9a s9b n9a
              generalize enc dk[y + 1]! = cJ9 at S3 l9b s9a s9b n9b
              clear S2
              go_wp2_with fail
              go_big_region_o
              clear l9a l9b s9a s9b
              generalize (wr.drew.setCells blk (off + (y) * k) cJ9).setCells blk (off + (y + 1) * k) cI9 = w3 at S3 ⊢
              go_wp2
              go_roundg (i - (y + 1))
              case measure => omega
              case rel => exact ⟨y + 1, swp dk y (y + 1), by go_num, by omega, by omega, Nat.le_refl _, by rw [size_swp]; exact hds, S3, ⟨rot_up (by omega) hy0 HJ.out.1, permIn_trans _ _ _ _ _ HJ.out.2 (swp_permIn dk _ _ _ _ (by omega) (by omega) (by omega) (by omega) (by omega))⟩⟩
            · have hltz2 : ¬ (y : Int) < (i : Int) - 1 := by omega
              obtain rfl : i = y + 1 := by omega
              go_wp2
              (try simp only [Exit.inBlock, Exit.then])
              refine bodyPost_ret (results_none rfl _ _ _) rfl ?_
              exact ⟨rfl, dk, S2.out, HJ.out.2, one_up HO.out (by rw [← H1.out]; exact HB.out) (by omega) hjb (by rw [← H1.out]; exact HI.out.1) HI.out.2 HJ.out.1⟩
    · have n1 : ¬ ((m : Int) - (a : Int) = 1) := by omega
      have t1 : ((m : Int) - (a : Int) == 1) = false := by simpa using n1
      by_cases h2 : b = m + 1
      · have n2 : (b : Int) - (m : Int) = 1 := by omega
        have t2 : ((b : Int) - (m : Int) == 1) = true := by rw [n2]; rfl
        have hb1 : m + 1 ≤ b := by omega
        have hb2 : b ≤ m + 1 := by omega
        have H2 : Hid (b = m + 1) := Lib.hid h2
        clear h2
        have HL1 : Hid (∀ h, a ≤ h → h < m → sl (ltOf cf) tg d[m]! d[h]! = ltOf cf d[m]! d[h]!) := Lib.hid (fun h u v => lo_lt HL.out u v (Nat.le_refl _) hmb)
        go_wp2
        go_loopg [14, 15] m (fun kx s14 s15 wr => ∃ (i j : Nat), s14 = .int .i64 i ∧ s15 = .int .i64 j ∧ a ≤ i ∧ i ≤ j ∧ j ≤ m ∧ j - i ≤ kx ∧ Aside (SWK enc k w0 blk off d wr) ∧ Hid ((∀ h, a ≤ h → h < i → sl (ltOf cf) tg d[m]! d[h]! = false) ∧ (∀ h, j ≤ h → h < m → sl (ltOf cf) tg d[m]! d[h]! = true)))
        case atStart => exact ⟨a, m, rfl, rfl, Nat.le_refl _, by omega, Nat.le_refl _, by omega, S0, ⟨fun h u v => by omega, fun h u v => by omega⟩⟩
        case round =>
          clear S0
          obtain ⟨i, j, rfl, rfl, hi0, hij, hjb, hkx, S1, HI⟩ := hrel
          by_cases hlt : i < j
          · have hltz : (i : Int) < (j : Int) := by omega
            have q4 : IntKind.i64.wrap ((i : Int) + (j : Int)) = (i : Int) + (j : Int) := by rw [IntKind.wrap_i64]; omega
            obtain ⟨h, hh⟩ : ∃ h : Nat, h = (i + j) / 2 := ⟨_, rfl⟩
            have hz : ((i : Int) + (j : Int)) / 2 = (h : Int) := by omega
            have hh1 : i ≤ h := by omega
            have hh2 : h < j := by omega
            clear hh
            cases hv : ltOf cf d[m]! d[h]! with
            | true =>
              have ea10 : ((m : Int)).toNat = m := by omega
              have pa10 : (0 : Int) ≤ (m : Int) := by omega
              have ba10 : (m : Int) < (d.size : Int) := by omega
              have ra10 : IntKind.i64.wrap ((m : Int)) = (m : Int) := by rw [IntKind.wrap_i64]; omega
              have ec10 : ((h : Int)).toNat = h := by omega
              have pc10 : (0 : Int) ≤ (h : Int) := by omega
              have bc10 : (h : Int) < (d.size : Int) := by omega
              have rc10 : IntKind.i64.wrap ((h : Int)) = (h : Int) := by rw [IntKind.wrap_i64]; omega
              obtain ⟨x10, hx10⟩ : ∃ x, x = d[m]! := ⟨_, rfl⟩
              obtain ⟨y10, hy10⟩ : ∃ x, x = d[h]! := ⟨_, rfl⟩
              have l10a := S1.out.ld R (by omega) P (m) (by omega)
              have l10b := S1.out.ld R (by omega) P (h) (by omega)
              rw [← hx10] at l10a
              rw [← hy10] at l10b
              have hc10 := S1.out.cmp HC.out (by omega) x10 y10
              have hv10 : cf x10 y10 < 0 := by rw [hx10, hy10]; exact of_decide_eq_true hv
              have hd10 : decide (cf x10 y10 < 0) = true := decide_eq_true hv10
              clear hx10 hy10
              go_wp2_with fail
              go_quiet_grown (first | (go_at_fn g; refine Calls.grown_of (hc10 _ _)))
              have S2 : Aside (SWK enc k w0 blk off d (grow (wr.drewN nq) osq)) := S1.out.grown nq osq
              clear l10a l10b hc10 S1
              generalize grow (wr.drewN nq) osq = w2 at S2 ⊢
              clear nq osq
              go_wp2
              go_roundg (h - i)
              case measure => omega
              case rel =>
                refine ⟨i, h, by first | rfl | go_num, rfl, hi0, hh1, by omega, Nat.le_refl _, S2, ⟨HI.out.1, fun x u v => ?_⟩⟩
                cases e : sl (ltOf cf) tg d[m]! d[x]! with
                | true => rfl
                | false =>
                  have e1 := sorted_le HO.out HA.out (i := h) (j := x) (by omega) u (by omega)
                  have e2 := HO.out.ntrans _ _ _ e e1
                  rw [HL1.out h (by omega) (by omega), hv] at e2
                  cases e2
            | false =>
              have ea11 : ((m : Int)).toNat = m := by omega
              have pa11 : (0 : Int) ≤ (m : Int) := by omega
              have ba11 : (m : Int) < (d.size : Int) := by omega
              have ra11 : IntKind.i64.wrap ((m : Int)) = (m : Int) := by rw [IntKind.wrap_i64]; omega
              have ec11 : ((h : Int)).toNat = h := by omega
              have pc11 : (0 : Int) ≤ (h : Int) := by omega
              have bc11 : (h : Int) < (d.size : Int) := by omega
              have rc11 : IntKind.i64.wrap ((h : Int)) = (h : Int) := by rw [IntKind.wrap_i64]; omega
              obtain ⟨x11, hx11⟩ : ∃ x, x = d[m]! := ⟨_, rfl⟩
              obtain ⟨y11, hy11⟩ : ∃ x, x = d[h]! := ⟨_, rfl⟩
              have l11a := S1.out.ld R (by omega) P (m) (by omega)
              have l11b := S1.out.ld R (by omega) P (h) (by omega)
              rw [← hx11] at l11a
              rw [← hy11] at l11b
              have hc11 := S1.out.cmp HC.out (by omega) x11 y11
              have hv11 : ¬ cf x11 y11 < 0 := by rw [hx11, hy11]; exact of_decide_eq_false hv
              have hd11 : decide (cf x11 y11 < 0) = false := decide_eq_false hv11
              clear hx11 hy11
              go_wp2_with fail
              go_quiet_grown (first | (go_at_fn g; refine Calls.grown_of (hc11 _ _)))
              have S2 : Aside (SWK enc k w0 blk off d (grow (wr.drewN nq) osq)) := S1.out.grown nq osq
              clear l11a l11b hc11 S1
              generalize grow (wr.drewN nq) osq = w2 at S2 ⊢
              clear nq osq
              go_wp2
              go_roundg (j - (h + 1))
              case measure => omega
              case rel =>
                refine ⟨h + 1, j, by go_num, rfl, by omega, by omega, hjb, Nat.le_refl _, S2, ⟨fun x u v => ?_, HI.out.2⟩⟩
                have e1 : sl (ltOf cf) tg d[m]! d[h]! = false := by rw [HL1.out h (by omega) (by omega)]; exact hv
                exact HO.out.ntrans _ _ _ e1 (sorted_le HO.out HA.out (i := x) (j := h) u (by omega) (by omega))
          · have hltz : ¬ (i : Int) < (j : Int) := by omega
            obtain rfl : i = j := by omega
            go_wp2
            go_loopg [17] m (fun kx s17 wr => ∃ (y : Nat) (dk : Array α), s17 = .int .i64 y ∧ i ≤ y ∧ y ≤ m ∧ y - i ≤ kx ∧ dk.size = d.size ∧ Aside (SWK enc k w0 blk off dk wr) ∧ Hid (IsRot d y m (m + 1) dk ∧ PermIn a b d dk))
            case atStart => exact ⟨m, d, rfl, hjb, Nat.le_refl _, by omega, rfl, S1, ⟨rot_left d m (m + 1), permIn_refl _ _ _⟩⟩
            case round =>
              clear S1
              obtain ⟨y, dk, rfl, hy0, hyi, hkx2, hds, S2, HJ⟩ := hrel
              by_cases hlt2 : i < y
              · obtain ⟨yp, rfl⟩ : ∃ yp, y = yp + 1 := ⟨y - 1, by omega⟩
                have hltz2 : (i : Int) < (yp : Int) + 1 := by omega
                have zy : ((yp + 1 : Nat) : Int) = (yp : Int) + 1 := by omega
                go_wp2_with fail
                have ea12 : ((yp : Int) + 1).toNat = yp + 1 := by omega
                have pa12 : (0 : Int) ≤ (yp : Int) + 1 := by omega
                have ba12 : (yp : Int) + 1 < (d.size : Int) := by omega
                have ra12 : IntKind.i64.wrap ((yp : Int) + 1) = (yp : Int) + 1 := by rw [IntKind.wrap_i64]; omega
                have ec12 : ((yp : Int)).toNat = yp := by omega
                have pc12 : (0 : Int) ≤ (yp : Int) := by omega
                have bc12 : (yp : Int) < (d.size : Int) := by omega
                have rc12 : IntKind.i64.wrap ((yp : Int)) = (yp : Int) := by rw [IntKind.wrap_i64]; omega
                have S3 : Aside (SWK enc k w0 blk off (swp dk (yp + 1) (yp)) ((wr.drew.setCells blk (off + (yp + 1) * k) (enc dk[yp]!)).setCells blk (off + (yp) * k) (enc dk[yp + 1]!))) := S2.out.swapped R (yp + 1) (yp) (by omega) (by omega)
                have l12a := S2.out.ld1 R (by omega) P (yp + 1) (by omega)
                have l12b := S2.out.ld1 R (by omega) P (yp) (by omega)
                have s12a := S2.out.st1 R (by omega) P (yp + 1) (by omega) dk[yp]!
                have s12b := S2.out.st2 R (by omega) P (yp + 1) (yp) (by omega) (by omega) dk[yp]! dk[yp + 1]!
                have n12a : (enc dk[yp + 1]!).length = k := R.hk _
                have n12b : (enc dk[yp]!).length = k := R.hk _
                generalize enc dk[yp + 1]! = cI12 at S3 l12a s12b n12a
                generalize enc dk[yp]! = cJ12 at S3 l12b s12a s12b n12b
                clear S2
                go_wp2_with fail
                go_big_region_o
                clear l12a l12b s12a s12b
                generalize (wr.drew.setCells blk (off + (yp + 1) * k) cJ12).setCells blk (off + (yp) * k) cI12 = w3 at S3 ⊢
                go_wp2
                go_roundg (yp - i)
                case measure => omega
                case rel => exact ⟨yp, swp dk (yp + 1) yp, by first | rfl | go_num | (congr 1; omega), by omega, by omega, Nat.le_refl _, by rw [size_swp]; exact hds, S3, ⟨rot_down (by omega) (by omega) HJ.out.1, permIn_trans _ _ _ _ _ HJ.out.2 (swp_permIn dk _ _ _ _ (by omega) (by omega) (by omega) (by omega) (by omega))⟩⟩
              · have hltz2 : ¬ (i : Int) < (y : Int) := by omega
                obtain rfl : y = i := by omega
                go_wp2
                (try simp only [Exit.inBlock, Exit.then])
                refine bodyPost_ret (results_none rfl _ _ _) rfl ?_
                refine ⟨rfl, dk, S2.out, HJ.out.2, ?_⟩
                rw [H2.out]
                exact one_down HO.out HA.out hi0 hjb HI.out.1 HI.out.2 HJ.out.1
      · have n2 : ¬ ((b : Int) - (m : Int) = 1) := by omega
        have t2 : ((b : Int) - (m : Int) == 1) = false := by simpa using n2
        obtain ⟨mid, hmid⟩ : ∃ x : Nat, x = (a + b) / 2 := ⟨_, rfl⟩
        have hz : ((a : Int) + (b : Int)) / 2 = (mid : Int) := by omega
        have g1 : 2 * mid ≤ a + b := by omega
        have g2 : a + b < 2 * mid + 2 := by omega
        clear hmid
        have q5 : IntKind.i64.wrap ((mid : Int) + (m : Int)) = (mid : Int) + (m : Int) := by rw [IntKind.wrap_i64]; omega
        have q6 : IntKind.i64.wrap ((mid : Int) + (m : Int) - (b : Int)) = (mid : Int) + (m : Int) - (b : Int) := by rw [IntKind.wrap_i64]; omega
        have q7 : IntKind.i64.wrap ((mid : Int) + (m : Int) - 1) = (mid : Int) + (m : Int) - 1 := by rw [IntKind.wrap_i64]; omega
        obtain ⟨lo, hi, hlo⟩ : ∃ lo hi : Nat, (mid < m ∧ lo = mid + m - b ∧ hi = mid) ∨ (m ≤ mid ∧ lo = a ∧ hi = m) := by
          by_cases c : mid < m
          · exact ⟨_, _, .inl ⟨c, rfl, rfl⟩⟩
          · exact ⟨_, _, .inr ⟨by omega, rfl, rfl⟩⟩
        go_upto_if 140 with fail
        go_cut [20, 21] from 140 to 146 (fun s20 s21 wx => s20 = .int .i64 lo ∧ s21 = .int .i64 hi ∧ Aside (SWK enc k w0 blk off d wx))
        case first =>
          by_cases c : mid < m
          · have cz : (mid : Int) < (m : Int) := by omega
            go_wp2_with fail
            go_meet
            case rel => exact ⟨by congr 1; omega, by congr 1; omega, S0⟩
          · have cz : ¬ (mid : Int) < (m : Int) := by omega
            go_wp2_with fail
            go_meet
            case rel => exact ⟨by congr 1; omega, by congr 1; omega, S0⟩
        case rest =>
          clear S0
          obtain ⟨rfl, rfl, S1⟩ := hcut
          have w1 : a ≤ lo := by omega
          have w2 : lo ≤ hi := by omega
          have w3 : hi ≤ m := by omega
          have w4 : hi ≤ mid := by omega
          have w5 : mid + m - lo ≤ b := by omega
          have w6 : lo = a ∨ mid + m - lo = b := by omega
          have w7 : hi = m ∨ hi = mid := by omega
          clear hlo
          go_wp2
          go_loopg [20, 21] b (fun kx s20 s21 wr => ∃ (i j : Nat), s20 = .int .i64 i ∧ s21 = .int .i64 j ∧ lo ≤ i ∧ i ≤ j ∧ j ≤ hi ∧ j - i ≤ kx ∧ Aside (SWK enc k w0 blk off d wr) ∧ Hid ((∀ h, lo ≤ h → h < i → sl (ltOf cf) tg d[mid + m - 1 - h]! d[h]! = false) ∧ (∀ h, j ≤ h → h < hi → sl (ltOf cf) tg d[mid + m - 1 - h]! d[h]! = true)))
          case atStart => exact ⟨lo, hi, rfl, rfl, Nat.le_refl _, w2, Nat.le_refl _, by omega, S1, ⟨fun h u v => by omega, fun h u v => by omega⟩⟩
          case round =>
            clear S1
            obtain ⟨i, j, rfl, rfl, hi0, hij, hjb, hkx, S1, HI⟩ := hrel
            by_cases hlt : i < j
            · have hltz : (i : Int) < (j : Int) := by omega
              have q8 : IntKind.i64.wrap ((i : Int) + (j : Int)) = (i : Int) + (j : Int) := by rw [IntKind.wrap_i64]; omega
              obtain ⟨h, hh⟩ : ∃ h : Nat, h = (i + j) / 2 := ⟨_, rfl⟩
              have hz2 : ((i : Int) + (j : Int)) / 2 = (h : Int) := by omega
              have hh1 : i ≤ h := by omega
              have hh2 : h < j := by omega
              clear hh
              obtain ⟨pc, hpc⟩ : ∃ x : Nat, x = mid + m - 1 - h := ⟨_, rfl⟩
              have hz4 : (mid : Int) + (m : Int) - 1 - (h : Int) = (pc : Int) := by omega
              have hp1 : m ≤ pc := by omega
              have hp2 : pc < b := by omega
              have HPC : Hid (mid + m - 1 - h = pc) := Lib.hid hpc.symm
              clear hpc
              cases hv : ltOf cf d[pc]! d[h]! with
              | true =>
                have ea13 : ((pc : Int)).toNat = pc := by omega
                have pa13 : (0 : Int) ≤ (pc : Int) := by omega
                have ba13 : (pc : Int) < (d.size : Int) := by omega
                have ra13 : IntKind.i64.wrap ((pc : Int)) = (pc : Int) := by rw [IntKind.wrap_i64]; omega
                have ec13 : ((h : Int)).toNat = h := by omega
                have pc13 : (0 : Int) ≤ (h : Int) := by omega
                have bc13 : (h : Int) < (d.size : Int) := by omega
                have rc13 : IntKind.i64.wrap ((h : Int)) = (h : Int) := by rw [IntKind.wrap_i64]; omega
                obtain ⟨x13, hx13⟩ : ∃ x, x = d[pc]! := ⟨_, rfl⟩
                obtain ⟨y13, hy13⟩ : ∃ x, x = d[h]! := ⟨_, rfl⟩
                have l13a := S1.out.ld R (by omega) P (pc) (by omega)
                have l13b := S1.out.ld R (by omega) P (h) (by omega)
                rw [← hx13] at l13a
                rw [← hy13] at l13b
                have hc13 := S1.out.cmp HC.out (by omega) x13 y13
                have hv13 : cf x13 y13 < 0 := by rw [hx13, hy13]; exact of_decide_eq_true hv
                have hd13 : decide (cf x13 y13 < 0) = true := decide_eq_true hv13
                clear hx13 hy13
                go_wp2_with fail
                go_quiet_grown (first | (go_at_fn g; refine Calls.grown_of (hc13 _ _)))
                have S2 : Aside (SWK enc k w0 blk off d (grow (wr.drewN nq) osq)) := S1.out.grown nq osq
                clear l13a l13b hc13 S1
                generalize grow (wr.drewN nq) osq = w2 at S2 ⊢
                clear nq osq
                go_wp2
                go_roundg (h - i)
                case measure => omega
                case rel =>
                  refine ⟨i, h, by first | rfl | go_num, rfl, hi0, hh1, by omega, Nat.le_refl _, S2, ⟨HI.out.1, fun x u v => ?_⟩⟩
                  have e1 : sl (ltOf cf) tg d[mid + m - 1 - h]! d[h]! = true := by rw [HPC.out, lo_lt HL.out (by omega) (by omega) (by omega) (by omega)]; exact hv
                  exact mono_yes HO.out HA.out HB.out (by omega) u (by omega) (by omega) (by omega) e1
              | false =>
                have ea14 : ((pc : Int)).toNat = pc := by omega
                have pa14 : (0 : Int) ≤ (pc : Int) := by omega
                have ba14 : (pc : Int) < (d.size : Int) := by omega
                have ra14 : IntKind.i64.wrap ((pc : Int)) = (pc : Int) := by rw [IntKind.wrap_i64]; omega
                have ec14 : ((h : Int)).toNat = h := by omega
                have pc14 : (0 : Int) ≤ (h : Int) := by omega
                have bc14 : (h : Int) < (d.size : Int) := by omega
                have rc14 : IntKind.i64.wrap ((h : Int)) = (h : Int) := by rw [IntKind.wrap_i64]; omega
                obtain ⟨x14, hx14⟩ : ∃ x, x = d[pc]! := ⟨_, rfl⟩
                obtain ⟨y14, hy14⟩ : ∃ x, x = d[h]! := ⟨_, rfl⟩
                have l14a := S1.out.ld R (by omega) P (pc) (by omega)
                have l14b := S1.out.ld R (by omega) P (h) (by omega)
                rw [← hx14] at l14a
                rw [← hy14] at l14b
                have hc14 := S1.out.cmp HC.out (by omega) x14 y14
                have hv14 : ¬ cf x14 y14 < 0 := by rw [hx14, hy14]; exact of_decide_eq_false hv
                have hd14 : decide (cf x14 y14 < 0) = false := decide_eq_false hv14
                clear hx14 hy14
                go_wp2_with fail
                go_quiet_grown (first | (go_at_fn g; refine Calls.grown_of (hc14 _ _)))
                have S2 : Aside (SWK enc k w0 blk off d (grow (wr.drewN nq) osq)) := S1.out.grown nq osq
                clear l14a l14b hc14 S1
                generalize grow (wr.drewN nq) osq = w2 at S2 ⊢
                clear nq osq
                go_wp2
                go_roundg (j - (h + 1))
                case measure => omega
                case rel =>
                  refine ⟨h + 1, j, by go_num, rfl, by omega, by omega, hjb, Nat.le_refl _, S2, ⟨fun x u v => ?_, HI.out.2⟩⟩
                  have e1 : sl (ltOf cf) tg d[mid + m - 1 - h]! d[h]! = false := by rw [HPC.out, lo_lt HL.out (by omega) (by omega) (by omega) (by omega)]; exact hv
                  exact mono_no HO.out HA.out HB.out (by omega) (by omega) (by omega) (by omega) (by omega) e1
            · have hltz : ¬ (i : Int) < (j : Int) := by omega
              obtain rfl : i = j := by omega
              obtain ⟨en, hen⟩ : ∃ x : Nat, x = mid + m - i := ⟨_, rfl⟩
              have hz3 : (mid : Int) + (m : Int) - (i : Int) = (en : Int) := by omega
              have HCP : Hid (Cutp (sl (ltOf cf) tg) a i m en b d) := Lib.hid ⟨by omega, by omega, by omega, by omega, fun u v => by
                have e1 := HI.out.1 (i - 1) (by omega) (by omega)
                have e2 : mid + m - 1 - (i - 1) = en := by omega
                rw [e2] at e1; exact e1, fun u v => by
                have e1 := HI.out.2 i (Nat.le_refl _) (by omega)
                have e2 : mid + m - 1 - i = en - 1 := by omega
                rw [e2] at e1; exact e1⟩
              have y1 : a ≤ i := by omega
              have y2 : i ≤ m := by omega
              have y3 : m ≤ en := by omega
              have y4 : en ≤ b := by omega
              have y5 : mid = i + (en - m) := by omega
              have y6 : i ≤ mid := by omega
              have y7 : mid ≤ en := by omega
              have y8 : a < mid := by omega
              have y9 : mid < b := by omega
              have q9 : IntKind.i64.wrap ((en : Nat) : Int) = (en : Int) := by rw [IntKind.wrap_i64]; omega
              have Y5 : Hid (mid = i + (en - m)) := Lib.hid y5
              clear hen HI hi0 hij hjb hkx w2 w3 w4 w5 w6 w7 w1 y5
              have HX : Hid (¬ (i < m ∧ m < en) → IsRot d i m en d) := Lib.hid (fun c => by
                rcases Nat.lt_or_ge i m with u | u
                · obtain rfl : en = m := by omega
                  exact rot_right d i en
                · obtain rfl : i = m := by omega
                  exact rot_left d i en)
              go_upto_region 39 with fail
              go_cut [185] from 178 to 185 (fun s wx => ∃ t : Bool, s = .bool t ∧ Aside (SWK enc k w0 blk off d wx) ∧ Hid (t = true ↔ (i < m ∧ m < en)))
              case first =>
                by_cases c1 : i < m
                · have c1z : (i : Int) < (m : Int) := by omega
                  by_cases c2 : m < en
                  · have c2z : (m : Int) < (en : Int) := by omega
                    go_wp2_with fail
                    go_meet
                    case rel => exact ⟨true, by first | rfl | simp [c1, c2], S1, (show _ ↔ _ by simp [c1, c2])⟩
                  · have c2z : ¬ (m : Int) < (en : Int) := by omega
                    go_wp2_with fail
                    go_meet
                    case rel => exact ⟨false, by first | rfl | simp [c1, c2], S1, (show _ ↔ _ by simp [c1, c2])⟩
                · have c1z : ¬ (i : Int) < (m : Int) := by omega
                  go_wp2_with fail
                  go_meet
                  case rel => exact ⟨false, by first | rfl | simp [c1], S1, (show _ ↔ _ by simp [c1])⟩
              case rest =>
                clear S1
                obtain ⟨t, rfl, S1, HT⟩ := hcut
                go_upto_if 185 with fail
                go_cut [] from 178 to 191 (fun wx => ∃ d1, Aside (SWK enc k w0 blk off d1 wx) ∧ d1.size = d.size ∧ Hid (IsRot d i m en d1 ∧ PermIn a b d d1))
                case first =>
                  cases t with
                  | true =>
                    have c : i < m ∧ m < en := HT.out.1 rfl
                    have hc := rotate_any L R cap i m en (.func (.func g) #[] cb) d _ hs S1.out c.1 c.2 (by omega) (by omega)
                    clear c S1
                    go_wp2_with (go_at_fn 170; refine hc.mono ?_; rintro e w2 ⟨rfl, d1, S2, X2, P2⟩)
                    go_meet
                    case rel => exact ⟨d1, S2, P2.1, ⟨X2, permIn_mono _ _ _ _ _ _ y1 y4 hb P2⟩⟩
                  | false =>
                    have c : ¬ (i < m ∧ m < en) := fun c => by cases HT.out.2 c
                    have HX2 : Hid (IsRot d i m en d) := Lib.hid (HX.out c)
                    clear c
                    go_wp2_with fail
                    go_meet
                    case rel => exact ⟨d, S1, rfl, ⟨HX2.out, permIn_refl _ _ _⟩⟩
                case rest =>
                  clear S1
                  obtain ⟨d1, S2, hd1, HR⟩ := hcut
                  have HH : Hid (Halves (sl (ltOf cf) tg) tg a i mid en b d1) := Lib.hid (halves HO.out HA.out HB.out HL.out HCP.out HR.out.1 Y5.out)
                  have fL : mid - a ≤ f := by omega
                  have fR : b - mid ≤ f := by omega
                  go_upto_region 41 with fail
                  go_cut [199] from 192 to 199 (fun s wx => ∃ t : Bool, s = .bool t ∧ Aside (SWK enc k w0 blk off d1 wx) ∧ Hid (t = true ↔ (a < i ∧ i < mid)))
                  case first =>
                    by_cases c1 : a < i
                    · have c1z : (a : Int) < (i : Int) := by omega
                      by_cases c2 : i < mid
                      · have c2z : (i : Int) < (mid : Int) := by omega
                        go_wp2_with fail
                        go_meet
                        case rel => exact ⟨true, by first | rfl | simp [c1, c2], S2, (show _ ↔ _ by simp [c1, c2])⟩
                      · have c2z : ¬ (i : Int) < (mid : Int) := by omega
                        go_wp2_with fail
                        go_meet
                        case rel => exact ⟨false, by first | rfl | simp [c1, c2], S2, (show _ ↔ _ by simp [c1, c2])⟩
                    · have c1z : ¬ (a : Int) < (i : Int) := by omega
                      go_wp2_with fail
                      go_meet
                      case rel => exact ⟨false, by first | rfl | simp [c1], S2, (show _ ↔ _ by simp [c1])⟩
                  case rest =>
                    clear S2
                    obtain ⟨t, rfl, S2, HT⟩ := hcut
                    go_upto_if 199 with fail
                    go_cut [] from 192 to 205 (fun wx => ∃ d2, Aside (SWK enc k w0 blk off d2 wx) ∧ d2.size = d.size ∧ Hid (PermIn a mid d1 d2 ∧ SortedIn (sl (ltOf cf) tg) a mid d2))
                    case first =>
                      cases t with
                      | true =>
                        have c : a < i ∧ i < mid := HT.out.1 rfl
                        have hc := ih a i mid d1 _ fL (by omega) S2.out c.1 c.2 (by omega) (by omega) HH.out.s1 HH.out.s2 HH.out.l1
                        rw [hd1] at hc
                        clear c S2
                        go_wp2_with (go_at_fn 153; refine hc.mono ?_; rintro e w3 ⟨rfl, d2, S3, P3, X3⟩)
                        go_meet
                        case rel => exact ⟨d2, S3, P3.1.trans hd1, ⟨P3, X3⟩⟩
                      | false =>
                        have c : ¬ (a < i ∧ i < mid) := fun c => by cases HT.out.2 c
                        have HX3 : Hid (SortedIn (sl (ltOf cf) tg) a mid d1) := Lib.hid (by
                          rcases Nat.lt_or_ge a i with u | u
                          · have e : i = mid := by omega
                            have := HH.out.s1
                            rw [e] at this; exact this
                          · have e : i = a := by omega
                            have := HH.out.s2
                            rw [e] at this; exact this)
                        clear c
                        go_wp2_with fail
                        go_meet
                        case rel => exact ⟨d1, S2, hd1, ⟨permIn_refl _ _ _, HX3.out⟩⟩
                    case rest =>
                      clear S2
                      obtain ⟨d2, S3, hd2, HR2⟩ := hcut
                      have HN : Hid _ := Lib.hid (halves_next y7 HH.out HR2.out.1)
                      go_upto_region 43 with fail
                      go_cut [213] from 206 to 213 (fun s wx => ∃ t : Bool, s = .bool t ∧ Aside (SWK enc k w0 blk off d2 wx) ∧ Hid (t = true ↔ (mid < en ∧ en < b)))
                      case first =>
                        by_cases c1 : mid < en
                        · have c1z : (mid : Int) < (en : Int) := by omega
                          by_cases c2 : en < b
                          · have c2z : (en : Int) < (b : Int) := by omega
                            go_wp2_with fail
                            go_meet
                            case rel => exact ⟨true, by first | rfl | simp [c1, c2], S3, (show _ ↔ _ by simp [c1, c2])⟩
                          · have c2z : ¬ (en : Int) < (b : Int) := by omega
                            go_wp2_with fail
                            go_meet
                            case rel => exact ⟨false, by first | rfl | simp [c1, c2], S3, (show _ ↔ _ by simp [c1, c2])⟩
                        · have c1z : ¬ (mid : Int) < (en : Int) := by omega
                          go_wp2_with fail
                          go_meet
                          case rel => exact ⟨false, by first | rfl | simp [c1], S3, (show _ ↔ _ by simp [c1])⟩
                      case rest =>
                        clear S3
                        obtain ⟨t, rfl, S3, HT⟩ := hcut
                        cases t with
                        | true =>
                          have c : mid < en ∧ en < b := HT.out.1 rfl
                          have hc := ih mid en b d2 _ fR (by omega) S3.out c.1 c.2 (by omega) (by omega) HN.out.1 HN.out.2.1 HN.out.2.2
                          rw [hd2] at hc
                          clear c S3
                          go_wp2_with (go_at_fn 153; refine hc.mono ?_; rintro e w3 ⟨rfl, d3, S4, P4, X4⟩)
                          go_end0
                          obtain ⟨u1, u2⟩ := glue (by omega) (by omega) (by omega) HH.out HR2.out.1 HR2.out.2 P4 X4
                          exact ⟨rfl, d3, S4, permIn_trans _ _ _ _ _ HR.out.2 u2, u1⟩
                        | false =>
                          have c : ¬ (mid < en ∧ en < b) := fun c => by cases HT.out.2 c
                          have HX3 : Hid (SortedIn (sl (ltOf cf) tg) mid b d2) := Lib.hid (by
                            rcases Nat.lt_or_ge mid en with u | u
                            · have e : en = b := by omega
                              have := HN.out.1
                              rw [e] at this; exact this
                            · have e : en = mid := by omega
                              have := HN.out.2.1
                              rw [e] at this; exact this)
                          clear c
                          go_wp2_with fail
                          go_end0
                          obtain ⟨u1, u2⟩ := glue (by omega) (by omega) (by omega) HH.out HR2.out.1 HR2.out.2 (permIn_refl d2 mid b) HX3.out
                          exact ⟨rfl, d2, S3.out, permIn_trans _ _ _ _ _ HR.out.2 u2, u1⟩

  end Go.Proofs.YtihdijkplmfhfaaGreatDoor.Ss

/- Plain facts on an array that is sorted block by block, and on blocks that are merged two by two. Conditions: as each theorem states. -/
namespace Go.Proofs.YtihdijkplmfhfaaGreatDoor.Ss
set_option maxRecDepth 100000
open Go.Sort
variable {α : Type} [Inhabited α] {s : α → α → Bool} {tg : α → Nat}

theorem dvd_step {b x y : Nat} (hx : b ∣ x) (hy : b ∣ y) (h : y < x) : y + b ≤ x := by
  obtain ⟨p, rfl⟩ := hx
  obtain ⟨q, rfl⟩ := hy
  have : q < p := Nat.lt_of_mul_lt_mul_left h
  have := Nat.mul_le_mul_left b (show q + 1 ≤ p from this)
  rw [Nat.mul_add, Nat.mul_one] at this
  exact this

/-- No mark ahead of c is as great as one from c on. -/
def Xs (tg : α → Nat) (n c : Nat) (d : Array α) : Prop := ∀ i j, i < c → c ≤ j → j < n → tg d[i]! < tg d[j]!

theorem xs_perm {n c a b : Nat} {d d' : Array α} (h : Xs tg n c d) (hp : PermIn a b d d') (hb : b ≤ n) (hn : n ≤ d.size) (hc : b ≤ c ∨ c ≤ a) : Xs tg n c d' := by
  intro i j h1 h2 h3
  rcases hc with hc | hc
  · rw [hp.2.1 j (.inr (by omega))]
    by_cases k : a ≤ i ∧ i < b
    · exact permIn_all d d' a b (fun u => tg u < tg d[j]!) (by omega) hp (fun q _ q2 => h q j (by omega) h2 h3) i k.1 k.2
    · rw [hp.2.1 i (by omega)]
      exact h i j h1 h2 h3
  · rw [hp.2.1 i (.inl (by omega))]
    by_cases k : a ≤ j ∧ j < b
    · exact permIn_all d d' a b (fun u => tg d[i]! < tg u) (by omega) hp (fun q q1 q2 => h i q h1 (by omega) (by omega)) j k.1 k.2
    · rw [hp.2.1 j (by omega)]
      exact h i j h1 h2 h3

theorem sorted_perm_out {x y a b : Nat} {d d' : Array α} (h : SortedIn s x y d) (hp : PermIn a b d d') (hc : y ≤ a ∨ b ≤ x) : SortedIn s x y d' :=
  sorted_congr h (fun t h1 h2 => hp.2.1 t (by omega))

/-- Sorted, block by block, up to x; the marks rise from x on. -/
structure Ph1 (s : α → α → Bool) (tg : α → Nat) (bs n x : Nat) (d : Array α) : Prop where
  A : ∀ y, bs ∣ y → y < x → SortedIn s y (min (y + bs) n) d
  B : ∀ c, bs ∣ c → Xs tg n c d
  C : ∀ i j, i < j → x ≤ j → j < n → tg d[i]! < tg d[j]!

theorem ph1_start {bs n : Nat} {d : Array α} (h : ∀ i j, i < j → j < n → tg d[i]! < tg d[j]!) : Ph1 s tg bs n 0 d :=
  ⟨fun y _ h1 => by omega, fun c _ i j h1 h2 h3 => h i j (by omega) h3, fun i j h1 _ h3 => h i j h1 h3⟩

theorem ph1_rise {bs n x z : Nat} {d : Array α} (h : Ph1 s tg bs n x d) (hz : z ≤ n) : ∀ p q, x ≤ p → p < q → q < z → tg d[p]! < tg d[q]! := fun p q h1 h2 h3 => h.C p q h2 (by omega) (by omega)

theorem ph1_next {bs n x : Nat} {d d' : Array α} (hn : n ≤ d.size) (h : Ph1 s tg bs n x d) (hx : bs ∣ x) (hb : x + bs ≤ n) (hp : PermIn x (x + bs) d d') (hs : SortedIn s x (x + bs) d') : Ph1 s tg bs n (x + bs) d' := by
  refine ⟨fun y hy h1 => ?_, fun c hc => ?_, fun i j h1 h2 h3 => ?_⟩
  · rcases Nat.lt_trichotomy y x with k | k | k
    · have := dvd_step hx hy k
      exact sorted_perm_out (h.A y hy k) hp (.inl (by omega))
    · subst k
      rw [Nat.min_eq_left hb]; exact hs
    · have := dvd_step hy hx k
      omega
  · refine xs_perm (h.B c hc) hp hb hn ?_
    rcases Nat.lt_or_ge x c with k | k
    · exact .inl (dvd_step hc hx k)
    · exact .inr k
  · rw [hp.2.1 j (.inr h2)]
    by_cases k : x ≤ i ∧ i < x + bs
    · exact permIn_all d d' x (x + bs) (fun u => tg u < tg d[j]!) (by omega) hp (fun q _ q2 => h.C q j (by omega) (by omega) h3) i k.1 k.2
    · rw [hp.2.1 i (by omega)]
      exact h.C i j h1 (by omega) h3

/-- Sorted, block by block. -/
structure Ph2 (s : α → α → Bool) (tg : α → Nat) (bs n : Nat) (d : Array α) : Prop where
  A : ∀ y, bs ∣ y → SortedIn s y (min (y + bs) n) d
  B : ∀ c, bs ∣ c → Xs tg n c d

theorem ph1_end {bs n x : Nat} {d d' : Array α} (hn : n ≤ d.size) (h : Ph1 s tg bs n x d) (hx : bs ∣ x) (hxn : x ≤ n) (hb : n < x + bs) (hp : PermIn x n d d') (hs : SortedIn s x n d') : Ph2 s tg bs n d' := by
  refine ⟨fun y hy => ?_, fun c hc => ?_⟩
  · rcases Nat.lt_trichotomy y x with k | k | k
    · have := dvd_step hx hy k
      exact sorted_perm_out (h.A y hy k) hp (.inl (by omega))
    · subst k
      rw [Nat.min_eq_right (by omega)]; exact hs
    · have := dvd_step hy hx k
      intro i j h1 h2 h3
      omega
  · rcases Nat.lt_or_ge x c with k | k
    · have := dvd_step hc hx k
      intro i j h1 h2 h3
      omega
    · exact xs_perm (h.B c hc) hp (Nat.le_refl _) hn (.inr k)

/-- Two by two up to x, one by one from there. -/
structure Ph3 (s : α → α → Bool) (tg : α → Nat) (bs n x : Nat) (d : Array α) : Prop where
  A2 : ∀ y, 2 * bs ∣ y → y < x → SortedIn s y (min (y + 2 * bs) n) d
  A1 : ∀ y, bs ∣ y → x ≤ y → SortedIn s y (min (y + bs) n) d
  B2 : ∀ c, 2 * bs ∣ c → Xs tg n c d
  B1 : ∀ c, bs ∣ c → x ≤ c → Xs tg n c d

theorem dvd_two {b x : Nat} (h : 2 * b ∣ x) : b ∣ x := Nat.dvd_trans (Nat.dvd_mul_left b 2) h

theorem ph3_start {bs n : Nat} {d : Array α} (h : Ph2 s tg bs n d) : Ph3 s tg bs n 0 d :=
  ⟨fun y _ h1 => by omega, fun y hy _ => h.A y hy, fun c hc => h.B c (dvd_two hc), fun c hc _ => h.B c hc⟩

theorem ph3_pre {bs n x z : Nat} {d : Array α} (h : Ph3 s tg bs n x d) (hx : 2 * bs ∣ x) (h1 : x + bs ≤ n) (hz : z = min (x + 2 * bs) n) : SortedIn s x (x + bs) d ∧ SortedIn s (x + bs) z d ∧ Lo tg x (x + bs) z d := by
  have d1 := dvd_two hx
  have d2 : bs ∣ x + bs := Nat.dvd_add d1 (Nat.dvd_refl _)
  refine ⟨?_, ?_, ?_⟩
  · have := h.A1 x d1 (Nat.le_refl _)
    rwa [Nat.min_eq_left h1] at this
  · have := h.A1 (x + bs) d2 (by omega)
    rw [show x + bs + bs = x + 2 * bs by omega] at this
    rw [hz]; exact this
  · intro i j i1 i2 i3 i4
    exact h.B1 (x + bs) d2 (by omega) i j i2 i3 (by omega)

theorem ph3_next {bs n x : Nat} {d d' : Array α} (hn : n ≤ d.size) (h : Ph3 s tg bs n x d) (hx : 2 * bs ∣ x) (hb : x + 2 * bs ≤ n) (hp : PermIn x (x + 2 * bs) d d') (hs : SortedIn s x (x + 2 * bs) d') : Ph3 s tg bs n (x + 2 * bs) d' := by
  refine ⟨fun y hy h1 => ?_, fun y hy h1 => ?_, fun c hc => ?_, fun c hc h1 => ?_⟩
  · rcases Nat.lt_trichotomy y x with k | k | k
    · have := dvd_step hx hy k
      exact sorted_perm_out (h.A2 y hy k) hp (.inl (by omega))
    · subst k
      rw [Nat.min_eq_left hb]; exact hs
    · have := dvd_step hy hx k
      omega
  · exact sorted_perm_out (h.A1 y hy (by omega)) hp (.inr h1)
  · refine xs_perm (h.B2 c hc) hp hb hn ?_
    rcases Nat.lt_or_ge x c with k | k
    · exact .inl (dvd_step hc hx k)
    · exact .inr k
  · exact xs_perm (h.B1 c hc (by omega)) hp hb hn (.inl h1)

theorem ph3_end {bs n x : Nat} {d d' : Array α} (hn : n ≤ d.size) (h : Ph3 s tg bs n x d) (hx : 2 * bs ∣ x) (hxn : x ≤ n) (hb : n < x + 2 * bs) (hp : PermIn x n d d') (hs : SortedIn s x n d') : Ph2 s tg (2 * bs) n d' := by
  refine ⟨fun y hy => ?_, fun c hc => ?_⟩
  · rcases Nat.lt_trichotomy y x with k | k | k
    · have := dvd_step hx hy k
      exact sorted_perm_out (h.A2 y hy k) hp (.inl (by omega))
    · subst k
      rw [Nat.min_eq_right (by omega)]; exact hs
    · have := dvd_step hy hx k
      intro i j h1 h2 h3
      omega
  · rcases Nat.lt_or_ge x c with k | k
    · have := dvd_step hc hx k
      intro i j h1 h2 h3
      omega
    · exact xs_perm (h.B2 c hc) hp (Nat.le_refl _) hn (.inr k)

/-- The last two: one block alone. -/
theorem ph3_last {bs n x : Nat} {d : Array α} (h : Ph3 s tg bs n x d) (hx : 2 * bs ∣ x) (hb : n ≤ x + bs) : SortedIn s x n d := by
  have := h.A1 x (dvd_two hx) (Nat.le_refl _)
  rwa [Nat.min_eq_right hb] at this

theorem ph2_end {bs n : Nat} {d : Array α} (h : Ph2 s tg bs n d) (hb : n ≤ bs) : SortedIn s 0 n d := by
  have := h.A 0 (Nat.dvd_zero _)
  rwa [Nat.zero_add, Nat.min_eq_right hb] at this

end Go.Proofs.YtihdijkplmfhfaaGreatDoor.Ss

/- What the library's sorting that keeps the order of equals does: at elements of k cells, from a world of the sort's to a world of the sort's. Conditions: as each theorem states. -/
namespace Go.Proofs.YtihdijkplmfhfaaGreatDoor.Ss
set_option maxRecDepth 100000
set_option maxRecDepth 1000000
open Go.Shelf Go.RowKit Go.Lib Go.Sort
variable {P : Program} {α : Type} [Inhabited α] {enc : α → List Value} {k : Nat} {w0 : World} {blk off : Nat} {d0 : Array α}

theorem inn_size (lt : α → α → Bool) (a : Nat) : ∀ (j : Nat) (d : Array α), (insInner lt a j d).size = d.size
  | 0, d => by unfold insInner; rfl
  | j + 1, d => by
    unfold insInner
    split
    · rw [inn_size lt a j, size_swp]
    · rfl

theorem ins_size (lt : α → α → Bool) (a b : Nat) : ∀ (m i : Nat) (d : Array α), b - i = m → (insOuter lt a b i d).size = d.size
  | 0, i, d, h => by rw [out_eq, if_neg (by omega)]
  | m + 1, i, d, h => by rw [out_eq, if_pos (by omega), ins_size lt a b m (i + 1) _ (by omega), inn_size]

/-- What is asked of the library's insertion. -/
def Ins (P : Program) (f : Nat) (enc : α → List Value) (k : Nat) (cf : α → α → Int) (g : Nat) (cb : Array Value) (w0 : World) (blk off : Nat) (d0 : Array α) : Prop :=
  ∀ (cap a b : Nat) (d : Array α) (w : World), d0.size = d.size → SWK enc k w0 blk off d w → a ≤ b → b ≤ d.size → d.size < 1152921504606846976 →
    Calls P f #[.slice (some ⟨blk, off, none⟩) d.size cap, .int .i64 a, .int .i64 b, .func (.func g) #[] cb] w fun e w' => e = .returned (.tuple #[]) ∧ SWK enc k w0 blk off (insertionSort (ltOf cf) d a b) w'

theorem ins_any {ρ : Ren} (L : SlLaysF0.n20 P ρ) (aE : ∀ w, (isAgg (ρ.t 24)).run P w = .ok true w) (zE : ∀ w, (Go.sizeOf (ρ.t 24)).run P w = .ok k w) (R : RowK enc k w0 blk off d0) (cf : α → α → Int) (g : Nat) (cb : Array Value)
    (eg : ∀ args w, (callFunc g args).run P w = .ok (.enter g args) w) (hcmp : CmpLays P g cb enc k cf blk off d0.size w0) : Ins P (ρ.f 20) enc k cf g cb w0 blk off d0 := by
  intro cap a b d w hs S hab hb hsz
  obtain ⟨n, os, rfl⟩ := S
  have h := AnyQ.insertionSortCmpFunc L k aE zE enc R.hk R.h1 cf g cb blk off cap a b d (sortWorldK enc k w0 blk off n d os) eg
    (fun m os' dk hk x y => by
      rw [sortWorldK_on enc k w0 blk off n m d dk os os' R.hblk hk]
      exact hcmp _ _ dk (hk.trans hs.symm) x y)
    (holdsK_sortWorldK enc k w0 blk off n d0 d os R.hblk R.hH hs.symm) (lt_sortWorldK enc k w0 blk off n d os R.hblk) hab hb (by omega)
  refine h.mono ?_
  rintro e w' ⟨rfl, m, os', rfl⟩
  refine ⟨rfl, n + m, os ++ os', ?_⟩
  have hz : (insertionSort (ltOf cf) d a b).size = d.size := by
    unfold insertionSort
    exact ins_size _ _ _ _ _ _ rfl
  exact sortWorldK_on enc k w0 blk off n m d _ os os' R.hblk hz

set_option maxHeartbeats 8000000 in
theorem stable_any (L : Has P k) (R : RowK enc k w0 blk off d0) (cf : α → α → Int) (hO : SWO (ltOf cf)) (tg : α → Nat) (g : Nat) (cb : Array Value) (eg : ∀ args w, (callFunc g args).run P w = .ok (.enter g args) w) (hcmp : CmpLays P g cb enc k cf blk off d0.size w0)
    (hI : Ins P 152 enc k cf g cb w0 blk off d0) (cap n : Nat) (w : World) (S : SWK enc k w0 blk off d0 w) (hn : n = d0.size) (hsz : n < 288230376151711744) (htg : ∀ i j, i < j → j < n → tg d0[i]! < tg d0[j]!) :
    Calls P 139 #[.slice (some ⟨blk, off, none⟩) n cap, .int .i64 n, .func (.func g) #[] cb] w fun e w' =>
      e = .returned (.tuple #[]) ∧ ∃ d', SWK enc k w0 blk off d' w' ∧ PermIn 0 n d0 d' ∧ SortedIn (sl (ltOf cf) tg) 0 n d' := by
  have mixed := L.mixed; have t0 := L.t0; have a0 := L.a0; have z0 := L.z0; have t3 := L.t3; have a3 := L.a3; have z3 := L.z3; have v3 := L.v3; have t4 := L.t4; have a4 := L.a4; have z4 := L.z4; have v4 := L.v4; have t22 := L.t22; have a22 := L.a22; have z22 := L.z22; have v22 := L.v22; have t68 := L.t68; have a68 := L.a68; have z68 := L.z68; have v68 := L.v68; have a57 := L.a57; have z57 := L.z57; have v57 := L.v57; have aE := L.aE; have zE := L.zE
  have eI := L.ins
  have eY := L.esym
  have FG := L.sta
  have HC : Aside _ := hcmp
  have HI : Aside _ := hI
  have S0 : Aside (SWK enc k w0 blk off d0 w) := S
  have HO : Hid _ := hO
  have HP0 : Hid (Ph1 (sl (ltOf cf) tg) tg 20 n 0 d0) := Lib.hid (ph1_start htg)
  have hn1 : n ≤ d0.size := by omega
  have hn2 : d0.size ≤ n := by omega
  have hd0 : d0.size = n := by omega
  have HD : Hid (d0.size = n) := Lib.hid hd0
  clear S hcmp hI hO htg hn hd0
  go_enter FG, Tryz.ntmps139
  go_wp2
  go_loopg [7, 8] n (fun kx s7 s8 wr => ∃ (x y : Nat) (dk : Array α), s7 = .int .i64 x ∧ s8 = .int .i64 y ∧ y ≤ x + 20 ∧ x + 20 ≤ y ∧ x ≤ n ∧ n - x ≤ kx ∧ dk.size = n ∧ Aside (SWK enc k w0 blk off dk wr) ∧ Hid (20 ∣ x ∧ Ph1 (sl (ltOf cf) tg) tg 20 n x dk ∧ PermIn 0 n d0 dk))
  case atStart => exact ⟨0, 20, d0, by first | rfl | go_num, by first | rfl | go_num, by omega, by omega, Nat.zero_le _, by omega, HD.out, S0, ⟨Nat.dvd_zero _, HP0.out, permIn_refl _ _ _⟩⟩
  case round =>
    clear S0 HP0
    obtain ⟨x, y, dk, rfl, rfl, hy1, hy2, hxn, hkx, hds, S1, HJ⟩ := hrel
    by_cases hlt : y ≤ n
    · have hltz : (y : Int) ≤ (n : Int) := by omega
      have hy : y = x + 20 := by omega
      have hc := HI.out cap x y dk wr (by omega) S1.out (by omega) (by omega) (by omega)
      rw [hds] at hc
      have HS : Hid _ := Lib.hid (ins_sort HO.out (tg := tg) dk x y (by omega) (by omega) (ph1_rise HJ.out.2.1 hlt))
      have HY : Hid (y = x + 20) := Lib.hid hy
      clear hy S1
      have q1 : IntKind.i64.wrap ((y : Int) + 20) = (y : Int) + 20 := by rw [IntKind.wrap_i64]; omega
      go_wp2_with (go_at_fn 152; refine hc.mono ?_; rintro e w2 ⟨rfl, S2⟩)
      go_roundg (n - y)
      case measure => omega
      case rel =>
        obtain ⟨p1, p2⟩ := HS.out
        rw [HY.out] at p1 p2
        refine ⟨y, y + 20, insertionSort (ltOf cf) dk x y, rfl, by first | rfl | go_num, Nat.le_refl _, Nat.le_refl _, hlt, Nat.le_refl _, ?_, S2, ?_⟩
        · rw [HY.out, p1.1]; exact hds
        · rw [HY.out]
          refine ⟨Nat.dvd_add HJ.out.1 (Nat.dvd_refl _), ph1_next (by omega) HJ.out.2.1 HJ.out.1 (by omega) p1 p2, ?_⟩
          exact permIn_trans _ _ _ _ _ HJ.out.2.2 (permIn_mono _ _ _ _ _ _ (Nat.zero_le _) (by omega) (by omega) p1)
    · have hltz : ¬ (y : Int) ≤ (n : Int) := by omega
      have hc := HI.out cap x n dk wr (by omega) S1.out (by omega) (by omega) (by omega)
      rw [hds] at hc
      obtain ⟨p1, p2⟩ := ins_sort HO.out (tg := tg) dk x n (by omega) (by omega) (ph1_rise HJ.out.2.1 (Nat.le_refl _))
      have HQ : Hid (Ph2 (sl (ltOf cf) tg) tg 20 n (insertionSort (ltOf cf) dk x n) ∧ PermIn 0 n d0 (insertionSort (ltOf cf) dk x n)) := Lib.hid ⟨ph1_end (by omega) HJ.out.2.1 HJ.out.1 hxn (by omega) p1 p2, permIn_trans _ _ _ _ _ HJ.out.2.2 (permIn_mono _ _ _ _ _ _ (Nat.zero_le _) (by omega) (by omega) p1)⟩
      have hd1 : (insertionSort (ltOf cf) dk x n).size = n := p1.1.trans hds
      generalize insertionSort (ltOf cf) dk x n = d1 at hc HQ hd1
      clear p1 p2 HJ S1
      go_upto_region 7 with (go_at_fn 152; refine hc.mono ?_; rintro e w2 ⟨rfl, S2⟩)
      go_wp2
      go_loopg [6] n (fun kx s6 wr => ∃ (bs : Nat) (dk : Array α), s6 = .int .i64 bs ∧ 0 < bs ∧ bs ≤ 2 * n + 20 ∧ n - bs ≤ kx ∧ dk.size = n ∧ Aside (SWK enc k w0 blk off dk wr) ∧ Hid (Ph2 (sl (ltOf cf) tg) tg bs n dk ∧ PermIn 0 n d0 dk))
      case atStart => exact ⟨20, d1, by first | rfl | go_num, by omega, by omega, by omega, hd1, S2, HQ⟩
      case round =>
        clear S2 HQ hc
        obtain ⟨bs, dk, rfl, hb0, hb1, hkx, hds, S1, HJ⟩ := hrel
        by_cases hlt : bs < n
        · have hltz : (bs : Int) < (n : Int) := by omega
          have q2 : IntKind.i64.wrap (2 * (bs : Int)) = 2 * (bs : Int) := by rw [IntKind.wrap_i64]; omega
          have q3 : IntKind.i64.wrap ((bs : Int) * 2) = (bs : Int) * 2 := by rw [IntKind.wrap_i64]; omega
          go_wp2
          go_loopg [7, 8] n (fun kx s7 s8 wr => ∃ (x y : Nat) (dk : Array α), s7 = .int .i64 x ∧ s8 = .int .i64 y ∧ y ≤ x + 2 * bs ∧ x + 2 * bs ≤ y ∧ x ≤ n ∧ n - x ≤ kx ∧ dk.size = n ∧ Aside (SWK enc k w0 blk off dk wr) ∧ Hid (2 * bs ∣ x ∧ Ph3 (sl (ltOf cf) tg) tg bs n x dk ∧ PermIn 0 n d0 dk))
          case atStart => exact ⟨0, 2 * bs, dk, by first | rfl | go_num, by first | rfl | go_num, by omega, by omega, Nat.zero_le _, by omega, hds, S1, ⟨Nat.dvd_zero _, ph3_start HJ.out.1, HJ.out.2⟩⟩
          case round =>
            clear S1 HJ
            obtain ⟨x, y, dk, rfl, rfl, hy1, hy2, hxn, hkx2, hds, S1, HJ⟩ := hrel
            by_cases hlt2 : y ≤ n
            · have hltz2 : (y : Int) ≤ (n : Int) := by omega
              have hy : y = x + 2 * bs := by omega
              obtain ⟨p1, p2, p3⟩ := ph3_pre HJ.out.2.1 HJ.out.1 (by omega) (show x + 2 * bs = min (x + 2 * bs) n by omega)
              rw [← hy] at p2 p3
              have hc := sym_any L R cf HO.out tg g cb eg HC.out cap (y - x) x (x + bs) y dk wr (Nat.le_refl _) (by omega) S1.out (by omega) (by omega) (by omega) (by omega) p1 p2 p3
              rw [hds, show ((x + bs : Nat) : Int) = (x : Int) + (bs : Int) by omega] at hc
              have HY : Hid (y = x + 2 * bs) := Lib.hid hy
              clear hy S1 p1 p2 p3
              have q4 : IntKind.i64.wrap ((x : Int) + (bs : Int)) = (x : Int) + (bs : Int) := by rw [IntKind.wrap_i64]; omega
              have q5 : IntKind.i64.wrap ((y : Int) + 2 * (bs : Int)) = (y : Int) + 2 * (bs : Int) := by rw [IntKind.wrap_i64]; omega
              go_wp2_with (go_at_fn 153; refine hc.mono ?_; rintro e w2 ⟨rfl, d2, S2, P2, X2⟩)
              go_roundg (n - y)
              case measure => omega
              case rel =>
                rw [HY.out] at P2 X2
                refine ⟨y, y + 2 * bs, d2, rfl, by first | rfl | go_num, Nat.le_refl _, Nat.le_refl _, hlt2, Nat.le_refl _, P2.1.trans hds, S2, ?_⟩
                rw [HY.out]
                refine ⟨Nat.dvd_add HJ.out.1 (Nat.dvd_refl _), ph3_next (by omega) HJ.out.2.1 HJ.out.1 (by omega) P2 X2, ?_⟩
                exact permIn_trans _ _ _ _ _ HJ.out.2.2 (permIn_mono _ _ _ _ _ _ (Nat.zero_le _) (by omega) (by omega) P2)
            · have hltz2 : ¬ (y : Int) ≤ (n : Int) := by omega
              have q4 : IntKind.i64.wrap ((x : Int) + (bs : Int)) = (x : Int) + (bs : Int) := by rw [IntKind.wrap_i64]; omega
              by_cases hm : x + bs < n
              · have hmz : (x : Int) + (bs : Int) < (n : Int) := by omega
                obtain ⟨p1, p2, p3⟩ := ph3_pre HJ.out.2.1 HJ.out.1 (by omega) (show n = min (x + 2 * bs) n by omega)
                have hc := sym_any L R cf HO.out tg g cb eg HC.out cap (n - x) x (x + bs) n dk wr (Nat.le_refl _) (by omega) S1.out (by omega) (by omega) (by omega) (by omega) p1 p2 p3
                rw [hds, show ((x + bs : Nat) : Int) = (x : Int) + (bs : Int) by omega] at hc
                clear S1 p1 p2 p3
                go_wp2_with (go_at_fn 153; refine hc.mono ?_; rintro e w2 ⟨rfl, d2, S2, P2, X2⟩)
                go_roundg (n - 2 * bs)
                case measure => omega
                case rel =>
                  refine ⟨2 * bs, d2, by first | rfl | go_num | (congr 1; omega), by omega, by omega, Nat.le_refl _, P2.1.trans hds, S2, ⟨ph3_end (by omega) HJ.out.2.1 HJ.out.1 hxn (by omega) P2 X2, ?_⟩⟩
                  exact permIn_trans _ _ _ _ _ HJ.out.2.2 (permIn_mono _ _ _ _ _ _ (Nat.zero_le _) (by omega) (by omega) P2)
              · have hmz : ¬ (x : Int) + (bs : Int) < (n : Int) := by omega
                go_wp2
                go_roundg (n - 2 * bs)
                case measure => omega
                case rel =>
                  exact ⟨2 * bs, dk, by first | rfl | go_num | (congr 1; omega), by omega, by omega, Nat.le_refl _, hds, S1, ⟨ph3_end (by omega) HJ.out.2.1 HJ.out.1 hxn (by omega) (permIn_refl _ _ _) (ph3_last HJ.out.2.1 HJ.out.1 (by omega)), HJ.out.2.2⟩⟩
        · have hltz : ¬ (bs : Int) < (n : Int) := by omega
          go_wp2
          go_end0
          exact ⟨rfl, dk, S1.out, HJ.out.2, ph2_end HJ.out.1 (by omega)⟩

set_option maxHeartbeats 1000000 in
theorem sorts_any (L : Has P k) (R : RowK enc k w0 blk off d0) (cf : α → α → Int) (hO : SWO (ltOf cf)) (tg : α → Nat) (g : Nat) (cb : Array Value) (eg : ∀ args w, (callFunc g args).run P w = .ok (.enter g args) w) (hcmp : CmpLays P g cb enc k cf blk off d0.size w0)
    (hI : Ins P 152 enc k cf g cb w0 blk off d0) (cap n : Nat) (w : World) (S : SWK enc k w0 blk off d0 w) (hn : n = d0.size) (hsz : n < 288230376151711744) (htg : ∀ i j, i < j → j < n → tg d0[i]! < tg d0[j]!) :
    Calls P 117 #[.slice (some ⟨blk, off, none⟩) n cap, .func (.func g) #[] cb] w fun e w' =>
      e = .returned (.tuple #[]) ∧ ∃ d', SWK enc k w0 blk off d' w' ∧ PermIn 0 n d0 d' ∧ SortedIn (sl (ltOf cf) tg) 0 n d' := by
  have hc := stable_any L R cf hO tg g cb eg hcmp hI cap n w S hn hsz htg
  clear hn
  have mixed := L.mixed; have t0 := L.t0; have a0 := L.a0; have z0 := L.z0; have t3 := L.t3; have a3 := L.a3; have z3 := L.z3; have v3 := L.v3; have t4 := L.t4; have a4 := L.a4; have z4 := L.z4; have v4 := L.v4; have t22 := L.t22; have a22 := L.a22; have z22 := L.z22; have v22 := L.v22; have t68 := L.t68; have a68 := L.a68; have z68 := L.z68; have v68 := L.v68; have a57 := L.a57; have z57 := L.z57; have v57 := L.v57; have aE := L.aE; have zE := L.zE
  have eT := L.esta
  have FG := L.srt
  clear hcmp hI hO htg
  go_enter FG, Tryz.ntmps117
  go_wp2_with (go_at_fn 139; refine hc.mono ?_; rintro e w2 ⟨rfl, S2⟩)
  go_end0
  exact ⟨rfl, S2⟩

end Go.Proofs.YtihdijkplmfhfaaGreatDoor.Ss
