/-
  What the reckoning's parts of resolving answer: the place of the weightiest span at an instant, the next beginning or end, the first beginning.  Conditions: as each theorem states.
-/
import Derived.Test.YtmjedpaiccaddaaXf
namespace Go.Proofs.Ytmjedpaiccaddaa.Span
set_option maxRecDepth 100000
open Go.ChangeShapes Go.WideShapes Go.ChangeAt Go.RowKit
open Go.Proofs.Ytmjedpaiccaddaa.Divs Go.Proofs.Ytmjedpaiccaddaa.Grow
open Go.Proofs.Ytmjedpaiccaddaa.By (Sk SL bool_no bool_yes)
open Go.Proofs.Ytmjedpaiccaddaa.Sp

theorem nx_low {E : List Int} {a n e : Int} {b : Bool} (h : Nx E a n b) (he : e ≤ a) : Nx (E ++ [e]) a n b := by
  cases b with
  | false =>
    intro x hx
    rcases List.mem_append.1 hx with hx | hx
    · exact h x hx
    · rw [List.mem_singleton.1 hx]; exact he
  | true =>
    refine ⟨h.1, List.mem_append_left _ h.2.1, fun x hx => ?_⟩
    rcases List.mem_append.1 hx with hx | hx
    · exact h.2.2 x hx
    · rw [List.mem_singleton.1 hx]; exact .inl he

theorem nx_first {E : List Int} {a n e : Int} (h : Nx E a n false) (he : a < e) : Nx (E ++ [e]) a e true := by
  refine ⟨he, List.mem_append_right _ (List.mem_singleton.2 rfl), fun x hx => ?_⟩
  rcases List.mem_append.1 hx with hx | hx
  · exact .inl (h x hx)
  · rw [List.mem_singleton.1 hx]; exact .inr (Int.le_refl _)

theorem nx_less {E : List Int} {a n e : Int} (h : Nx E a n true) (he : a < e) (hn : e < n) : Nx (E ++ [e]) a e true := by
  refine ⟨he, List.mem_append_right _ (List.mem_singleton.2 rfl), fun x hx => ?_⟩
  rcases List.mem_append.1 hx with hx | hx
  · have := h.2.2 x hx; omega
  · rw [List.mem_singleton.1 hx]; exact .inr (Int.le_refl _)

theorem nx_more {E : List Int} {a n e : Int} (h : Nx E a n true) (hn : n ≤ e) : Nx (E ++ [e]) a n true := by
  refine ⟨h.1, List.mem_append_left _ h.2.1, fun x hx => ?_⟩
  rcases List.mem_append.1 hx with hx | hx
  · exact h.2.2 x hx
  · rw [List.mem_singleton.1 hx]; exact .inr hn

theorem ends_take {l : List Sp} {k : Nat} {x : Sp} (h : l[k]? = some x) : ends (l.take (k + 1)) = (ends (l.take k) ++ [x.f]) ++ [x.t] := by
  rw [take_at h, ends_append, List.append_assoc]
  rfl

/-- e hands back the next one of these above t, and whether there is one. -/
def IsNext (E : List Int) (t : Int) (e : Ending) : Prop := ∃ n b, e = .returned (.tuple #[.int .i64 n, .bool b]) ∧ Nx E t n b

set_option maxHeartbeats 8000000 in
theorem next_any (v : Value) (l : List Sp) (t : Int) (w : World) (h : Ws w v l) :
    Calls Try.prog 25 #[v, .int .i64 t] w fun e w' => IsNext (ends l) t e ∧ Later w w' := by
  obtain ⟨n, hn⟩ : ∃ n, l.length = n := ⟨_, rfl⟩
  have HN := Lib.hid hn
  have HG0 := Lib.hid (Later.refl w)
  have HX0 : Hid (Nx (ends (l.take 0)) t 0 false) := Lib.hid (by intro e he; simp [ends] at he)
  rcases Nat.eq_zero_or_pos n with h0 | h0
  · obtain ⟨ad, cap, rfl, hm⟩ := h.len
    rw [hn] at hm ⊢
    have hl := List.length_eq_zero_iff.1 (hn.trans h0)
    subst h0
    have HV : Hid (Nx (ends l) t 0 false) := Lib.hid (by rw [hl]; intro e he; simp [ends] at he)
    clear h hn hl HN HX0
    go_enter Try.func25, Try.ntmps25
    go_wp2_with fail
    refine wp_loop_rounds 1 ?_
    rw [rounds_succ]
    go_wp2
    go_ret2
    exact ⟨⟨_, _, rfl, HV.out⟩, HG0.out⟩
  · obtain ⟨B, off, cap, rfl, hm1, hm2, hB, hc⟩ := h.has (by omega)
    rw [hn] at hm1 ⊢
    have HC := Lib.hid hc
    clear h hn hc
    have ad : ∀ j, (⟨B, off, none⟩ : Addr).add j = ⟨B, off + j, none⟩ := Addr.add_mid B off
    go_enter Try.func25, Try.ntmps25
    go_wp2_with fail
    go_loopw [6, 7, 8] (fun p q i wr => ∃ (k : Nat) (y : Int) (b : Bool), k ≤ n ∧ p = .int .i64 y ∧ q = .bool b ∧ i = .int .i64 (k : Int) ∧ Nx (ends (l.take k)) t y b ∧ Later w wr) (fun _ _ i _ => n - (intOf i).toNat)
    case atStart => exact ⟨0, 0, false, by omega, rfl, rfl, rfl, HX0.out, HG0.out⟩
    case round =>
      obtain ⟨k, y, b, hk, rfl, rfl, rfl, hj, hg⟩ := hrel
      have HJ := Lib.hid hj
      have HG := Lib.hid hg
      clear hj hg
      by_cases hlt : k < n
      · obtain ⟨x, hx⟩ : ∃ x, l[k]? = some x := ⟨_, List.getElem?_eq_getElem (by rw [HN.out]; exact hlt)⟩
        have HX := Lib.hid hx
        obtain ⟨c0, c1, c2, c3⟩ := (HC.out k x hx).later HG.out
        clear hx c2 c3
        have hkz : (k : Int) < (n : Int) := by omega
        have HE := Lib.hid (ends_take HX.out)
        by_cases t1 : x.f > t
        · cases b with
          | false =>
            have H1 := Lib.hid (nx_first HJ.out t1)
            by_cases t2 : x.t > t
            · by_cases u2 : x.t < x.f
              · have H2 := Lib.hid (nx_less H1.out t2 u2)
                go_wp2
                go_roundw
                case rel => exact ⟨k + 1, x.t, true, by omega, rfl, rfl, by go_num, by rw [HE.out]; exact H2.out, HG.out⟩
                case measure => simp [intOf]; omega
              · have H2 := Lib.hid (nx_more H1.out (show x.f ≤ x.t by omega))
                go_wp2
                go_roundw
                case rel => exact ⟨k + 1, x.f, true, by omega, rfl, rfl, by go_num, by rw [HE.out]; exact H2.out, HG.out⟩
                case measure => simp [intOf]; omega
            · have H2 := Lib.hid (nx_low H1.out (show x.t ≤ t by omega))
              go_wp2
              go_roundw
              case rel => exact ⟨k + 1, x.f, true, by omega, rfl, rfl, by go_num, by rw [HE.out]; exact H2.out, HG.out⟩
              case measure => simp [intOf]; omega
          | true =>
            by_cases u1 : x.f < y
            · have H1 := Lib.hid (nx_less HJ.out t1 u1)
              by_cases t2 : x.t > t
              · by_cases u2 : x.t < x.f
                · have H2 := Lib.hid (nx_less H1.out t2 u2)
                  go_wp2
                  go_roundw
                  case rel => exact ⟨k + 1, x.t, true, by omega, rfl, rfl, by go_num, by rw [HE.out]; exact H2.out, HG.out⟩
                  case measure => simp [intOf]; omega
                · have H2 := Lib.hid (nx_more H1.out (show x.f ≤ x.t by omega))
                  go_wp2
                  go_roundw
                  case rel => exact ⟨k + 1, x.f, true, by omega, rfl, rfl, by go_num, by rw [HE.out]; exact H2.out, HG.out⟩
                  case measure => simp [intOf]; omega
              · have H2 := Lib.hid (nx_low H1.out (show x.t ≤ t by omega))
                go_wp2
                go_roundw
                case rel => exact ⟨k + 1, x.f, true, by omega, rfl, rfl, by go_num, by rw [HE.out]; exact H2.out, HG.out⟩
                case measure => simp [intOf]; omega
            · have H1 := Lib.hid (nx_more HJ.out (show y ≤ x.f by omega))
              by_cases t2 : x.t > t
              · by_cases u2 : x.t < y
                · have H2 := Lib.hid (nx_less H1.out t2 u2)
                  go_wp2
                  go_roundw
                  case rel => exact ⟨k + 1, x.t, true, by omega, rfl, rfl, by go_num, by rw [HE.out]; exact H2.out, HG.out⟩
                  case measure => simp [intOf]; omega
                · have H2 := Lib.hid (nx_more H1.out (show y ≤ x.t by omega))
                  go_wp2
                  go_roundw
                  case rel => exact ⟨k + 1, y, true, by omega, rfl, rfl, by go_num, by rw [HE.out]; exact H2.out, HG.out⟩
                  case measure => simp [intOf]; omega
              · have H2 := Lib.hid (nx_low H1.out (show x.t ≤ t by omega))
                go_wp2
                go_roundw
                case rel => exact ⟨k + 1, y, true, by omega, rfl, rfl, by go_num, by rw [HE.out]; exact H2.out, HG.out⟩
                case measure => simp [intOf]; omega
        · have H1 := Lib.hid (nx_low HJ.out (show x.f ≤ t by omega))
          by_cases t2 : x.t > t
          · cases b with
            | false =>
              have H2 := Lib.hid (nx_first H1.out t2)
              go_wp2
              go_roundw
              case rel => exact ⟨k + 1, x.t, true, by omega, rfl, rfl, by go_num, by rw [HE.out]; exact H2.out, HG.out⟩
              case measure => simp [intOf]; omega
            | true =>
              by_cases u2 : x.t < y
              · have H2 := Lib.hid (nx_less H1.out t2 u2)
                go_wp2
                go_roundw
                case rel => exact ⟨k + 1, x.t, true, by omega, rfl, rfl, by go_num, by rw [HE.out]; exact H2.out, HG.out⟩
                case measure => simp [intOf]; omega
              · have H2 := Lib.hid (nx_more H1.out (show y ≤ x.t by omega))
                go_wp2
                go_roundw
                case rel => exact ⟨k + 1, y, true, by omega, rfl, rfl, by go_num, by rw [HE.out]; exact H2.out, HG.out⟩
                case measure => simp [intOf]; omega
          · have H2 := Lib.hid (nx_low H1.out (show x.t ≤ t by omega))
            go_wp2
            go_roundw
            case rel => exact ⟨k + 1, y, b, by omega, rfl, rfl, by go_num, by rw [HE.out]; exact H2.out, HG.out⟩
            case measure => simp [intOf]; omega
      · have hkz : ¬ (k : Int) < (n : Int) := by omega
        have HV : Hid (Nx (ends l) t y b) := Lib.hid (by have := HJ.out; rwa [List.take_of_length_le (by rw [HN.out]; omega)] at this)
        go_wp2
        go_ret2
        exact ⟨⟨_, _, rfl, HV.out⟩, HG.out⟩

set_option maxHeartbeats 2000000 in
theorem least_any (v : Value) (l : List Sp) (w : World) (h : Ws w v l) (hp : 0 < l.length) :
    Calls Try.prog 24 #[v] w fun e w' => ∃ n, e = .returned (.int .i64 n) ∧ (∀ s ∈ l, n ≤ s.f) ∧ Later w w' := by
  obtain ⟨n, hn⟩ : ∃ n, l.length = n := ⟨_, rfl⟩
  have HN := Lib.hid hn
  have HG0 := Lib.hid (Later.refl w)
  obtain ⟨B, off, cap, rfl, hm1, hm2, hB, hc⟩ := h.has (by omega)
  rw [hn] at hm1 hp ⊢
  have HC := Lib.hid hc
  obtain ⟨x0, hx0⟩ : ∃ x, l[0]? = some x := ⟨_, List.getElem?_eq_getElem (by omega)⟩
  obtain ⟨d0, d1, d2, d3⟩ := hc 0 x0 hx0
  simp only [Nat.zero_mul, Nat.add_zero] at d0
  clear h hn hc d1 d2 d3 hx0
  have ad : ∀ j, (⟨B, off, none⟩ : Addr).add j = ⟨B, off + j, none⟩ := Addr.add_mid B off
  go_enter Try.func24, Try.ntmps24
  go_wp2_with fail
  go_loopw [3, 4] (fun p i wr => ∃ (k : Nat) (y : Int), k ≤ n ∧ p = .int .i64 y ∧ i = .int .i64 (k : Int) ∧ (∀ s ∈ l.take k, y ≤ s.f) ∧ Later w wr) (fun _ i _ => n - (intOf i).toNat)
  case atStart => exact ⟨0, x0.f, by omega, rfl, rfl, by simp, HG0.out⟩
  case round =>
    obtain ⟨k, y, hk, rfl, rfl, hj, hg⟩ := hrel
    have HJ := Lib.hid hj
    have HG := Lib.hid hg
    clear hj hg d0
    by_cases hlt : k < n
    · obtain ⟨x, hx⟩ : ∃ x, l[k]? = some x := ⟨_, List.getElem?_eq_getElem (by rw [HN.out]; exact hlt)⟩
      have HX := Lib.hid hx
      obtain ⟨c0, c1, c2, c3⟩ := (HC.out k x hx).later HG.out
      clear hx c1 c2 c3
      have hkz : (k : Int) < (n : Int) := by omega
      by_cases t : x.f < y
      · have HV : Hid (∀ s ∈ l.take (k + 1), x.f ≤ s.f) := Lib.hid (by
          intro s hs
          rw [take_at HX.out] at hs
          rcases List.mem_append.1 hs with hs | hs
          · have := HJ.out s hs; omega
          · rw [List.mem_singleton.1 hs]; omega)
        go_wp2
        go_roundw
        case rel => exact ⟨k + 1, x.f, by omega, rfl, by go_num, HV.out, HG.out⟩
        case measure => simp [intOf]; omega
      · have HV : Hid (∀ s ∈ l.take (k + 1), y ≤ s.f) := Lib.hid (by
          intro s hs
          rw [take_at HX.out] at hs
          rcases List.mem_append.1 hs with hs | hs
          · exact HJ.out s hs
          · rw [List.mem_singleton.1 hs]; omega)
        go_wp2
        go_roundw
        case rel => exact ⟨k + 1, y, by omega, rfl, by go_num, HV.out, HG.out⟩
        case measure => simp [intOf]; omega
    · have hkz : ¬ (k : Int) < (n : Int) := by omega
      have HV : Hid (∀ s ∈ l, y ≤ s.f) := Lib.hid (by have := HJ.out; rwa [List.take_of_length_le (by rw [HN.out]; omega)] at this)
      go_wp2
      go_ret
      exact ⟨_, rfl, HV.out, HG.out⟩

/-- e hands back the place of the weightiest one. -/
def IsBest (l : List Sp) (t : Int) (e : Ending) : Prop := ∃ j, e = .returned (.int .i64 j) ∧ Bi l t l.length j

set_option maxHeartbeats 4000000 in
theorem rweight_any (v : Value) (l : List Sp) (t : Int) (w : World) (h : Ws w v l) :
    Calls Try.prog 26 #[v, .int .i64 t] w fun e w' => IsBest l t e ∧ Later w w' := by
  have O := Lib.hid (fun x y W => over_any x y W)
  obtain ⟨n, hn⟩ : ∃ n, l.length = n := ⟨_, rfl⟩
  have HN := Lib.hid hn
  have HG0 := Lib.hid (Later.refl w)
  have HB0 := Lib.hid (bi_nil l t)
  rcases Nat.eq_zero_or_pos n with h0 | h0
  · obtain ⟨ad, cap, rfl, hm⟩ := h.len
    rw [hn] at hm ⊢
    have hl := hn.trans h0
    subst h0
    have HV : Hid (Bi l t l.length (-1)) := Lib.hid (by rw [hl]; exact bi_nil l t)
    clear h hn hl HN HB0
    go_enter Try.func26, Try.ntmps26
    go_wp2_with fail
    refine wp_loop_rounds 1 ?_
    rw [rounds_succ]
    go_wp2
    go_ret
    exact ⟨⟨_, rfl, HV.out⟩, HG0.out⟩
  · obtain ⟨B, off, cap, rfl, hm1, hm2, hB, hc⟩ := h.has (by omega)
    rw [hn] at hm1 ⊢
    have HC := Lib.hid hc
    clear h hn hc
    have ad : ∀ j, (⟨B, off, none⟩ : Addr).add j = ⟨B, off + j, none⟩ := Addr.add_mid B off
    go_enter Try.func26, Try.ntmps26
    go_wp2_with fail
    go_loopw [5, 6] (fun p i wr => ∃ (k : Nat) (j : Int), k ≤ n ∧ p = .int .i64 j ∧ i = .int .i64 (k : Int) ∧ Bi l t k j ∧ Later w wr) (fun _ i _ => n - (intOf i).toNat)
    case atStart => exact ⟨0, -1, by omega, rfl, rfl, HB0.out, HG0.out⟩
    case round =>
      obtain ⟨k, j, hk, rfl, rfl, hj, hg⟩ := hrel
      have HJ := Lib.hid hj
      have HG := Lib.hid hg
      clear hj hg
      by_cases hlt : k < n
      · have HK : Hid (k < l.length) := Lib.hid (by rw [HN.out]; exact hlt)
        obtain ⟨x, hx⟩ : ∃ x, l[k]? = some x := ⟨_, List.getElem?_eq_getElem HK.out⟩
        have HX : Hid (∀ hk : k < l.length, l[k] = x) := Lib.hid (fun hk => by rw [List.getElem?_eq_getElem hk] at hx; exact Option.some.inj hx)
        obtain ⟨c0, c1, c2, c3⟩ := (HC.out k x hx).later HG.out
        have HCX := Lib.hid (HC.out k x hx)
        clear hx c2 c3
        have hkz : (k : Int) < (n : Int) := by omega
        by_cases t1 : t < x.f
        · have HV := Lib.hid (bi_out l t k j HK.out HJ.out (by rw [HX.out]; exact .inl t1))
          go_wp2
          go_roundw
          case rel => exact ⟨k + 1, j, by omega, rfl, by go_num, HV.out, HG.out⟩
          case measure => simp [intOf]; omega
        · by_cases t2 : t ≥ x.t
          · have HV := Lib.hid (bi_out l t k j HK.out HJ.out (by rw [HX.out]; exact .inr t2))
            go_wp2
            go_roundw
            case rel => exact ⟨k + 1, j, by omega, rfl, by go_num, HV.out, HG.out⟩
            case measure => simp [intOf]; omega
          · have HI : Hid (∀ hk : k < l.length, l[k].f ≤ t ∧ t < l[k].t) := Lib.hid (fun hk => by rw [HX.out]; omega)
            by_cases t3 : j < 0
            · have HV : Hid (Bi l t (k + 1) k) := Lib.hid (by
                have hb := HJ.out
                have ej : j = -1 := by
                  unfold Bi at hb
                  cases e : best (l.take k) t with
                  | none => rw [e] at hb; exact hb
                  | some s => rw [e] at hb; have := hb.1; omega
                rw [ej] at hb
                exact bi_first l t k HK.out hb (HI.out HK.out))
              go_wp2
              go_roundw
              case rel => exact ⟨k + 1, k, by omega, rfl, by go_num, HV.out, HG.out⟩
              case measure => simp [intOf]; omega
            · obtain ⟨m, hm, ej, hmk, hbb⟩ := bi_best HJ.out (by omega)
              clear hbb
              have HM := Lib.hid hm
              obtain ⟨y, hy⟩ : ∃ y, l[m]? = some y := ⟨_, List.getElem?_eq_getElem hm⟩
              have HY : Hid (∀ hm : m < l.length, l[m] = y) := Lib.hid (fun hm => by rw [List.getElem?_eq_getElem hm] at hy; exact Option.some.inj hy)
              have HCY := Lib.hid (HC.out m y hy)
              subst ej
              have hmn : m < n := by omega
              have hmz : (m : Int) < (n : Int) := by omega
              have X0 : ∀ q : Gw wr, q.w'.cell? ⟨B, off + k * 4, none⟩ = some (.int .i64 x.f) := gw_cell (HCX.out.later HG.out).1
              have X1 : ∀ q : Gw wr, q.w'.cell? ⟨B, off + k * 4 + 1, none⟩ = some (.int .i64 x.t) := gw_cell (HCX.out.later HG.out).2.1
              have X2 : ∀ q : Gw wr, q.w'.cell? ⟨B, off + k * 4 + 2, none⟩ = some (.int .i64 x.m) := gw_cell (HCX.out.later HG.out).2.2.1
              have X3 : ∀ q : Gw wr, q.w'.cell? ⟨B, off + k * 4 + 3, none⟩ = some (.int .i64 x.p) := gw_cell (HCX.out.later HG.out).2.2.2
              have Y0 : ∀ q : Gw wr, q.w'.cell? ⟨B, off + m * 4, none⟩ = some (.int .i64 y.f) := gw_cell (HCY.out.later HG.out).1
              have Y1 : ∀ q : Gw wr, q.w'.cell? ⟨B, off + m * 4 + 1, none⟩ = some (.int .i64 y.t) := gw_cell (HCY.out.later HG.out).2.1
              have Y2 : ∀ q : Gw wr, q.w'.cell? ⟨B, off + m * 4 + 2, none⟩ = some (.int .i64 y.m) := gw_cell (HCY.out.later HG.out).2.2.1
              have Y3 : ∀ q : Gw wr, q.w'.cell? ⟨B, off + m * 4 + 3, none⟩ = some (.int .i64 y.p) := gw_cell (HCY.out.later HG.out).2.2.2
              have O' := Lib.hid (fun W => O.out x y W)
              unfold sc at O'
              clear hy hm
              cases ho : ov x y with
              | true =>
                rw [ho] at O'
                have HV : Hid (Bi l t (k + 1) k) := Lib.hid (bi_over l t k m HK.out HM.out HJ.out (HI.out HK.out) (by rw [HX.out, HY.out]; exact ho))
                clear ho
                go_wp2_with fail
                refine region_grown (by kernel_rfl) (by kernel_rfl) ?_
                repeat (go_big_quiet_step (first | (go_at_call 39; exact in_grown (O'.out _))))
                refine wpQuiet_nil (grown_end ?_)
                intro w2 hg2
                have HG2 := Lib.hid (gtrans HG.out hg2)
                clear hg2 X0 X1 X2 X3 Y0 Y1 Y2 Y3 c0 c1
                go_wp2_with fail
                go_roundw
                case rel => exact ⟨k + 1, k, by omega, rfl, by go_num, HV.out, HG2.out⟩
                case measure => simp [intOf]; omega
              | false =>
                rw [ho] at O'
                have HV : Hid (Bi l t (k + 1) m) := Lib.hid (bi_stay l t k m HK.out HM.out HJ.out (HI.out HK.out) (by rw [HX.out, HY.out]; exact ho))
                clear ho
                go_wp2_with fail
                refine region_grown (by kernel_rfl) (by kernel_rfl) ?_
                repeat (go_big_quiet_step (first | (go_at_call 39; exact in_grown (O'.out _))))
                refine wpQuiet_nil (grown_end ?_)
                intro w2 hg2
                have HG2 := Lib.hid (gtrans HG.out hg2)
                clear hg2 X0 X1 X2 X3 Y0 Y1 Y2 Y3 c0 c1
                go_wp2_with fail
                go_roundw
                case rel => exact ⟨k + 1, m, by omega, rfl, by go_num, HV.out, HG2.out⟩
                case measure => simp [intOf]; omega
      · have hkz : ¬ (k : Int) < (n : Int) := by omega
        have HV : Hid (Bi l t l.length j) := Lib.hid (by have := HJ.out; rwa [show k = l.length by rw [HN.out]; omega] at this)
        go_wp2
        go_ret
        exact ⟨⟨_, rfl, HV.out⟩, HG.out⟩

end Go.Proofs.Ytmjedpaiccaddaa.Span
