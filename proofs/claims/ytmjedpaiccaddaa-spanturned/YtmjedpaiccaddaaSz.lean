/-
  What the library's sorting that keeps the order of equals does: at elements of k cells, from a world of the sort's to a world of the sort's.  Conditions: as each theorem states.
-/
import Derived.Test.YtmjedpaiccaddaaSy
import Derived.Test.YtmjedpaiccaddaaSu
import Derived.Shelf.SlSortCmp.InsertionK
namespace Go.Proofs.Ytmjedpaiccaddaa.Ss
set_option maxRecDepth 1000000
open Go.Shelf Go.RowKit Go.Lib Go.Sort
variable {P : Program} {α : Type} [Inhabited α] {enc : α → List Value} {k : Nat} {w0 : World} {blk off : Nat} {d0 : Array α}

theorem inn_size (lt : α → α → Bool) (a : Nat) : ∀ (j : Nat) (d : Array α), (insInner lt a j d).size = d.size
  | 0, d => by unfold insInner; rfl
  | j + 1, d => by
    unfold insInner
    split
    · rw [inn_size lt a j, size_swp]
    · rfl

theorem ins_size (lt : α → α → Bool) (a b : Nat) : ∀ (m i : Nat) (d : Array α), b - i = m → (insOuter lt a b i d).size = d.size
  | 0, i, d, h => by rw [out_eq, if_neg (by omega)]
  | m + 1, i, d, h => by rw [out_eq, if_pos (by omega), ins_size lt a b m (i + 1) _ (by omega), inn_size]

/-- What is asked of the library's insertion. -/
def Ins (P : Program) (f : Nat) (enc : α → List Value) (k : Nat) (cf : α → α → Int) (g : Nat) (cb : Array Value) (w0 : World) (blk off : Nat) (d0 : Array α) : Prop :=
  ∀ (cap a b : Nat) (d : Array α) (w : World), d0.size = d.size → SWK enc k w0 blk off d w → a ≤ b → b ≤ d.size → d.size < 1152921504606846976 →
    Calls P f #[.slice (some ⟨blk, off, none⟩) d.size cap, .int .i64 a, .int .i64 b, .func (.func g) #[] cb] w fun e w' => e = .returned (.tuple #[]) ∧ SWK enc k w0 blk off (insertionSort (ltOf cf) d a b) w'

theorem ins_any {ρ : Ren} (L : SlLaysF0.n20 P ρ) (aE : ∀ w, (isAgg (ρ.t 24)).run P w = .ok true w) (zE : ∀ w, (Go.sizeOf (ρ.t 24)).run P w = .ok k w) (R : RowK enc k w0 blk off d0) (cf : α → α → Int) (g : Nat) (cb : Array Value)
    (eg : ∀ args w, (callFunc g args).run P w = .ok (.enter g args) w) (hcmp : CmpLays P g cb enc k cf blk off d0.size w0) : Ins P (ρ.f 20) enc k cf g cb w0 blk off d0 := by
  intro cap a b d w hs S hab hb hsz
  obtain ⟨n, os, rfl⟩ := S
  have h := AnyQ.insertionSortCmpFunc L k aE zE enc R.hk R.h1 cf g cb blk off cap a b d (sortWorldK enc k w0 blk off n d os) eg
    (fun m os' dk hk x y => by
      rw [sortWorldK_on enc k w0 blk off n m d dk os os' R.hblk hk]
      exact hcmp _ _ dk (hk.trans hs.symm) x y)
    (holdsK_sortWorldK enc k w0 blk off n d0 d os R.hblk R.hH hs.symm) (lt_sortWorldK enc k w0 blk off n d os R.hblk) hab hb (by omega)
  refine h.mono ?_
  rintro e w' ⟨rfl, m, os', rfl⟩
  refine ⟨rfl, n + m, os ++ os', ?_⟩
  have hz : (insertionSort (ltOf cf) d a b).size = d.size := by
    unfold insertionSort
    exact ins_size _ _ _ _ _ _ rfl
  exact sortWorldK_on enc k w0 blk off n m d _ os os' R.hblk hz

set_option maxHeartbeats 8000000 in
theorem stable_any (L : Has P k) (R : RowK enc k w0 blk off d0) (cf : α → α → Int) (hO : SWO (ltOf cf)) (tg : α → Nat) (g : Nat) (cb : Array Value) (eg : ∀ args w, (callFunc g args).run P w = .ok (.enter g args) w) (hcmp : CmpLays P g cb enc k cf blk off d0.size w0)
    (hI : Ins P 45 enc k cf g cb w0 blk off d0) (cap n : Nat) (w : World) (S : SWK enc k w0 blk off d0 w) (hn : n = d0.size) (hsz : n < 288230376151711744) (htg : ∀ i j, i < j → j < n → tg d0[i]! < tg d0[j]!) :
    Calls P 41 #[.slice (some ⟨blk, off, none⟩) n cap, .int .i64 n, .func (.func g) #[] cb] w fun e w' =>
      e = .returned (.tuple #[]) ∧ ∃ d', SWK enc k w0 blk off d' w' ∧ PermIn 0 n d0 d' ∧ SortedIn (sl (ltOf cf) tg) 0 n d' := by
  have mixed := L.mixed; have t0 := L.t0; have a0 := L.a0; have z0 := L.z0; have t3 := L.t3; have a3 := L.a3; have z3 := L.z3; have v3 := L.v3; have t4 := L.t4; have a4 := L.a4; have z4 := L.z4; have v4 := L.v4; have t22 := L.t22; have a22 := L.a22; have z22 := L.z22; have v22 := L.v22; have t68 := L.t68; have a68 := L.a68; have z68 := L.z68; have v68 := L.v68; have a57 := L.a57; have z57 := L.z57; have v57 := L.v57; have aE := L.aE; have zE := L.zE
  have eI := L.ins
  have eY := L.esym
  have FG := L.sta
  have HC : Aside _ := hcmp
  have HI : Aside _ := hI
  have S0 : Aside (SWK enc k w0 blk off d0 w) := S
  have HO : Hid _ := hO
  have HP0 : Hid (Ph1 (sl (ltOf cf) tg) tg 20 n 0 d0) := Lib.hid (ph1_start htg)
  have hn1 : n ≤ d0.size := by omega
  have hn2 : d0.size ≤ n := by omega
  have hd0 : d0.size = n := by omega
  have HD : Hid (d0.size = n) := Lib.hid hd0
  clear S hcmp hI hO htg hn hd0
  go_enter FG, Try.ntmps41
  go_wp2
  go_loopg [7, 8] n (fun kx s7 s8 wr => ∃ (x y : Nat) (dk : Array α), s7 = .int .i64 x ∧ s8 = .int .i64 y ∧ y ≤ x + 20 ∧ x + 20 ≤ y ∧ x ≤ n ∧ n - x ≤ kx ∧ dk.size = n ∧ Aside (SWK enc k w0 blk off dk wr) ∧ Hid (20 ∣ x ∧ Ph1 (sl (ltOf cf) tg) tg 20 n x dk ∧ PermIn 0 n d0 dk))
  case atStart => exact ⟨0, 20, d0, by first | rfl | go_num, by first | rfl | go_num, by omega, by omega, Nat.zero_le _, by omega, HD.out, S0, ⟨Nat.dvd_zero _, HP0.out, permIn_refl _ _ _⟩⟩
  case round =>
    clear S0 HP0
    obtain ⟨x, y, dk, rfl, rfl, hy1, hy2, hxn, hkx, hds, S1, HJ⟩ := hrel
    by_cases hlt : y ≤ n
    · have hltz : (y : Int) ≤ (n : Int) := by omega
      have hy : y = x + 20 := by omega
      have hc := HI.out cap x y dk wr (by omega) S1.out (by omega) (by omega) (by omega)
      rw [hds] at hc
      have HS : Hid _ := Lib.hid (ins_sort HO.out (tg := tg) dk x y (by omega) (by omega) (ph1_rise HJ.out.2.1 hlt))
      have HY : Hid (y = x + 20) := Lib.hid hy
      clear hy S1
      have q1 : IntKind.i64.wrap ((y : Int) + 20) = (y : Int) + 20 := by rw [IntKind.wrap_i64]; omega
      go_wp2_with (go_at_fn 45; refine hc.mono ?_; rintro e w2 ⟨rfl, S2⟩)
      go_roundg (n - y)
      case measure => omega
      case rel =>
        obtain ⟨p1, p2⟩ := HS.out
        rw [HY.out] at p1 p2
        refine ⟨y, y + 20, insertionSort (ltOf cf) dk x y, rfl, by first | rfl | go_num, Nat.le_refl _, Nat.le_refl _, hlt, Nat.le_refl _, ?_, S2, ?_⟩
        · rw [HY.out, p1.1]; exact hds
        · rw [HY.out]
          refine ⟨Nat.dvd_add HJ.out.1 (Nat.dvd_refl _), ph1_next (by omega) HJ.out.2.1 HJ.out.1 (by omega) p1 p2, ?_⟩
          exact permIn_trans _ _ _ _ _ HJ.out.2.2 (permIn_mono _ _ _ _ _ _ (Nat.zero_le _) (by omega) (by omega) p1)
    · have hltz : ¬ (y : Int) ≤ (n : Int) := by omega
      have hc := HI.out cap x n dk wr (by omega) S1.out (by omega) (by omega) (by omega)
      rw [hds] at hc
      obtain ⟨p1, p2⟩ := ins_sort HO.out (tg := tg) dk x n (by omega) (by omega) (ph1_rise HJ.out.2.1 (Nat.le_refl _))
      have HQ : Hid (Ph2 (sl (ltOf cf) tg) tg 20 n (insertionSort (ltOf cf) dk x n) ∧ PermIn 0 n d0 (insertionSort (ltOf cf) dk x n)) := Lib.hid ⟨ph1_end (by omega) HJ.out.2.1 HJ.out.1 hxn (by omega) p1 p2, permIn_trans _ _ _ _ _ HJ.out.2.2 (permIn_mono _ _ _ _ _ _ (Nat.zero_le _) (by omega) (by omega) p1)⟩
      have hd1 : (insertionSort (ltOf cf) dk x n).size = n := p1.1.trans hds
      generalize insertionSort (ltOf cf) dk x n = d1 at hc HQ hd1
      clear p1 p2 HJ S1
      go_upto_region 7 with (go_at_fn 45; refine hc.mono ?_; rintro e w2 ⟨rfl, S2⟩)
      go_wp2
      go_loopg [6] n (fun kx s6 wr => ∃ (bs : Nat) (dk : Array α), s6 = .int .i64 bs ∧ 0 < bs ∧ bs ≤ 2 * n + 20 ∧ n - bs ≤ kx ∧ dk.size = n ∧ Aside (SWK enc k w0 blk off dk wr) ∧ Hid (Ph2 (sl (ltOf cf) tg) tg bs n dk ∧ PermIn 0 n d0 dk))
      case atStart => exact ⟨20, d1, by first | rfl | go_num, by omega, by omega, by omega, hd1, S2, HQ⟩
      case round =>
        clear S2 HQ hc
        obtain ⟨bs, dk, rfl, hb0, hb1, hkx, hds, S1, HJ⟩ := hrel
        by_cases hlt : bs < n
        · have hltz : (bs : Int) < (n : Int) := by omega
          have q2 : IntKind.i64.wrap (2 * (bs : Int)) = 2 * (bs : Int) := by rw [IntKind.wrap_i64]; omega
          have q3 : IntKind.i64.wrap ((bs : Int) * 2) = (bs : Int) * 2 := by rw [IntKind.wrap_i64]; omega
          go_wp2
          go_loopg [7, 8] n (fun kx s7 s8 wr => ∃ (x y : Nat) (dk : Array α), s7 = .int .i64 x ∧ s8 = .int .i64 y ∧ y ≤ x + 2 * bs ∧ x + 2 * bs ≤ y ∧ x ≤ n ∧ n - x ≤ kx ∧ dk.size = n ∧ Aside (SWK enc k w0 blk off dk wr) ∧ Hid (2 * bs ∣ x ∧ Ph3 (sl (ltOf cf) tg) tg bs n x dk ∧ PermIn 0 n d0 dk))
          case atStart => exact ⟨0, 2 * bs, dk, by first | rfl | go_num, by first | rfl | go_num, by omega, by omega, Nat.zero_le _, by omega, hds, S1, ⟨Nat.dvd_zero _, ph3_start HJ.out.1, HJ.out.2⟩⟩
          case round =>
            clear S1 HJ
            obtain ⟨x, y, dk, rfl, rfl, hy1, hy2, hxn, hkx2, hds, S1, HJ⟩ := hrel
            by_cases hlt2 : y ≤ n
            · have hltz2 : (y : Int) ≤ (n : Int) := by omega
              have hy : y = x + 2 * bs := by omega
              obtain ⟨p1, p2, p3⟩ := ph3_pre HJ.out.2.1 HJ.out.1 (by omega) (show x + 2 * bs = min (x + 2 * bs) n by omega)
              rw [← hy] at p2 p3
              have hc := sym_any L R cf HO.out tg g cb eg HC.out cap (y - x) x (x + bs) y dk wr (Nat.le_refl _) (by omega) S1.out (by omega) (by omega) (by omega) (by omega) p1 p2 p3
              rw [hds, show ((x + bs : Nat) : Int) = (x : Int) + (bs : Int) by omega] at hc
              have HY : Hid (y = x + 2 * bs) := Lib.hid hy
              clear hy S1 p1 p2 p3
              have q4 : IntKind.i64.wrap ((x : Int) + (bs : Int)) = (x : Int) + (bs : Int) := by rw [IntKind.wrap_i64]; omega
              have q5 : IntKind.i64.wrap ((y : Int) + 2 * (bs : Int)) = (y : Int) + 2 * (bs : Int) := by rw [IntKind.wrap_i64]; omega
              go_wp2_with (go_at_fn 46; refine hc.mono ?_; rintro e w2 ⟨rfl, d2, S2, P2, X2⟩)
              go_roundg (n - y)
              case measure => omega
              case rel =>
                rw [HY.out] at P2 X2
                refine ⟨y, y + 2 * bs, d2, rfl, by first | rfl | go_num, Nat.le_refl _, Nat.le_refl _, hlt2, Nat.le_refl _, P2.1.trans hds, S2, ?_⟩
                rw [HY.out]
                refine ⟨Nat.dvd_add HJ.out.1 (Nat.dvd_refl _), ph3_next (by omega) HJ.out.2.1 HJ.out.1 (by omega) P2 X2, ?_⟩
                exact permIn_trans _ _ _ _ _ HJ.out.2.2 (permIn_mono _ _ _ _ _ _ (Nat.zero_le _) (by omega) (by omega) P2)
            · have hltz2 : ¬ (y : Int) ≤ (n : Int) := by omega
              have q4 : IntKind.i64.wrap ((x : Int) + (bs : Int)) = (x : Int) + (bs : Int) := by rw [IntKind.wrap_i64]; omega
              by_cases hm : x + bs < n
              · have hmz : (x : Int) + (bs : Int) < (n : Int) := by omega
                obtain ⟨p1, p2, p3⟩ := ph3_pre HJ.out.2.1 HJ.out.1 (by omega) (show n = min (x + 2 * bs) n by omega)
                have hc := sym_any L R cf HO.out tg g cb eg HC.out cap (n - x) x (x + bs) n dk wr (Nat.le_refl _) (by omega) S1.out (by omega) (by omega) (by omega) (by omega) p1 p2 p3
                rw [hds, show ((x + bs : Nat) : Int) = (x : Int) + (bs : Int) by omega] at hc
                clear S1 p1 p2 p3
                go_wp2_with (go_at_fn 46; refine hc.mono ?_; rintro e w2 ⟨rfl, d2, S2, P2, X2⟩)
                go_roundg (n - 2 * bs)
                case measure => omega
                case rel =>
                  refine ⟨2 * bs, d2, by first | rfl | go_num | (congr 1; omega), by omega, by omega, Nat.le_refl _, P2.1.trans hds, S2, ⟨ph3_end (by omega) HJ.out.2.1 HJ.out.1 hxn (by omega) P2 X2, ?_⟩⟩
                  exact permIn_trans _ _ _ _ _ HJ.out.2.2 (permIn_mono _ _ _ _ _ _ (Nat.zero_le _) (by omega) (by omega) P2)
              · have hmz : ¬ (x : Int) + (bs : Int) < (n : Int) := by omega
                go_wp2
                go_roundg (n - 2 * bs)
                case measure => omega
                case rel =>
                  exact ⟨2 * bs, dk, by first | rfl | go_num | (congr 1; omega), by omega, by omega, Nat.le_refl _, hds, S1, ⟨ph3_end (by omega) HJ.out.2.1 HJ.out.1 hxn (by omega) (permIn_refl _ _ _) (ph3_last HJ.out.2.1 HJ.out.1 (by omega)), HJ.out.2.2⟩⟩
        · have hltz : ¬ (bs : Int) < (n : Int) := by omega
          go_wp2
          go_end0
          exact ⟨rfl, dk, S1.out, HJ.out.2, ph2_end HJ.out.1 (by omega)⟩

set_option maxHeartbeats 1000000 in
theorem sorts_any (L : Has P k) (R : RowK enc k w0 blk off d0) (cf : α → α → Int) (hO : SWO (ltOf cf)) (tg : α → Nat) (g : Nat) (cb : Array Value) (eg : ∀ args w, (callFunc g args).run P w = .ok (.enter g args) w) (hcmp : CmpLays P g cb enc k cf blk off d0.size w0)
    (hI : Ins P 45 enc k cf g cb w0 blk off d0) (cap n : Nat) (w : World) (S : SWK enc k w0 blk off d0 w) (hn : n = d0.size) (hsz : n < 288230376151711744) (htg : ∀ i j, i < j → j < n → tg d0[i]! < tg d0[j]!) :
    Calls P 31 #[.slice (some ⟨blk, off, none⟩) n cap, .func (.func g) #[] cb] w fun e w' =>
      e = .returned (.tuple #[]) ∧ ∃ d', SWK enc k w0 blk off d' w' ∧ PermIn 0 n d0 d' ∧ SortedIn (sl (ltOf cf) tg) 0 n d' := by
  have hc := stable_any L R cf hO tg g cb eg hcmp hI cap n w S hn hsz htg
  clear hn
  have mixed := L.mixed; have t0 := L.t0; have a0 := L.a0; have z0 := L.z0; have t3 := L.t3; have a3 := L.a3; have z3 := L.z3; have v3 := L.v3; have t4 := L.t4; have a4 := L.a4; have z4 := L.z4; have v4 := L.v4; have t22 := L.t22; have a22 := L.a22; have z22 := L.z22; have v22 := L.v22; have t68 := L.t68; have a68 := L.a68; have z68 := L.z68; have v68 := L.v68; have a57 := L.a57; have z57 := L.z57; have v57 := L.v57; have aE := L.aE; have zE := L.zE
  have eT := L.esta
  have FG := L.srt
  clear hcmp hI hO htg
  go_enter FG, Try.ntmps31
  go_wp2_with (go_at_fn 41; refine hc.mono ?_; rintro e w2 ⟨rfl, S2⟩)
  go_end0
  exact ⟨rfl, S2⟩

end Go.Proofs.Ytmjedpaiccaddaa.Ss
