/-
  Texts of mine, merged: each part says what it holds. Conditions: as each theorem states.
-/
import Derived.Test.YtihdijkplmfhfaaGreatDoorM16

/- Whether two rows are the same, and spans whose weights are taken off. Conditions: as each theorem states. -/
namespace Go.Proofs.YtihdijkplmfhfaaGreatDoor.Span
set_option maxRecDepth 100000
set_option maxRecDepth 100000
open Go.ChangeShapes Go.WideShapes Go.ChangeAt Go.RowKit
open Go.Proofs.YtihdijkplmfhfaaGreatDoor.Divs Go.Proofs.YtihdijkplmfhfaaGreatDoor.Grow
open Go.Proofs.YtihdijkplmfhfaaGreatDoor.By (Sk SL bool_no bool_yes)
open Go.Proofs.YtihdijkplmfhfaaGreatDoor.Sp

theorem run_neq (x y : Sp) (w : World) : Sem.run Tryz.prog (binOp .neq 56 (.agg #[.int .i64 x.f, .int .i64 x.t, .int .i64 x.m, .int .i64 x.p]) (.agg #[.int .i64 y.f, .int .i64 y.t, .int .i64 y.m, .int .i64 y.p])) w = .ok (.bool (!decide (x = y))) w := by
  have u3 := Tryz.underlying56
  obtain ⟨a, b, c, d⟩ := x
  obtain ⟨a', b', c', d'⟩ := y
  go_simp
  by_cases h1 : a = a' <;> by_cases h2 : b = b' <;> by_cases h3 : c = c' <;> by_cases h4 : d = d' <;> simp [h1, h2, h3, h4]

theorem take_same {xs ys : List Sp} {k : Nat} {x : Sp} (hx : xs[k]? = some x) (hy : ys[k]? = some x) (h : xs.take k = ys.take k) : xs.take (k + 1) = ys.take (k + 1) := by
  rw [take_at hx, take_at hy, h]

set_option maxHeartbeats 2000000 in
theorem same_any (v u : Value) (xs ys : List Sp) (w : World) (hv : Ws w v xs) (hu : Ws w u ys) : Calls Tryz.prog 16 #[v, u] w fun e w' => e = .returned (.bool (decide (xs = ys))) ∧ Later w w' := by
  obtain ⟨O, hO⟩ : ∃ O, O = decide (xs = ys) := ⟨_, rfl⟩
  rw [← hO]
  have HO := Lib.hid hO
  clear hO
  obtain ⟨n, hn⟩ : ∃ n, xs.length = n := ⟨_, rfl⟩
  obtain ⟨m, hm⟩ : ∃ m, ys.length = m := ⟨_, rfl⟩
  have HN := Lib.hid hn
  have HM := Lib.hid hm
  have HG0 := Lib.hid (Later.refl w)
  by_cases hnm : n = m
  · subst hnm
    rcases Nat.eq_zero_or_pos n with h0 | h0
    · obtain ⟨ad, cap, rfl, h1⟩ := hv.len
      obtain ⟨ad', cap', rfl, h2⟩ := hu.len
      rw [hn] at h1
      rw [hm] at h2
      rw [hn, hm]
      subst h0
      have HV : Hid (O = true) := Lib.hid (by rw [HO.out, List.length_eq_zero_iff.1 hn, List.length_eq_zero_iff.1 hm]; rfl)
      clear hv hu hn hm
      go_enter Tryz.func16, Tryz.ntmps16
      go_wp2_with fail
      refine wp_loop_rounds 1 ?_
      rw [rounds_succ]
      go_wp2
      go_ret
      exact ⟨retb HV.out.symm, HG0.out⟩
    · obtain ⟨B, off, cap, rfl, h1, h2, hB, hc⟩ := hv.has (by omega)
      obtain ⟨B', off', cap', rfl, h1', h2', hB', hc'⟩ := hu.has (by omega)
      rw [hn] at h1 ⊢
      rw [hm] at h1' ⊢
      have HC := Lib.hid hc
      have HC' := Lib.hid hc'
      clear hv hu hn hm hc hc'
      have ad : ∀ j, (⟨B, off, none⟩ : Addr).add j = ⟨B, off + j, none⟩ := Addr.add_mid B off
      have ad' : ∀ j, (⟨B', off', none⟩ : Addr).add j = ⟨B', off' + j, none⟩ := Addr.add_mid B' off'
      go_enter Tryz.func16, Tryz.ntmps16
      go_wp2_with fail
      go_loopw [5] (fun i wr => ∃ k : Nat, k ≤ n ∧ i = .int .i64 (k : Int) ∧ xs.take k = ys.take k ∧ Later w wr) (fun i _ => n - (intOf i).toNat)
      case atStart => exact ⟨0, by omega, rfl, rfl, HG0.out⟩
      case round =>
        obtain ⟨k, hk, rfl, hj, hg⟩ := hrel
        have HJ := Lib.hid hj
        have HG := Lib.hid hg
        clear hj hg
        by_cases hlt : k < n
        · obtain ⟨x, hx⟩ : ∃ x, xs[k]? = some x := ⟨_, List.getElem?_eq_getElem (by rw [HN.out]; exact hlt)⟩
          obtain ⟨y, hy⟩ : ∃ y, ys[k]? = some y := ⟨_, List.getElem?_eq_getElem (by rw [HM.out]; exact hlt)⟩
          have HX := Lib.hid hx
          have HY := Lib.hid hy
          obtain ⟨c0, c1, c2, c3⟩ := (HC.out k x hx).later HG.out
          obtain ⟨e0, e1, e2, e3⟩ := (HC'.out k y hy).later HG.out
          clear hx hy
          have hkz : (k : Int) < (n : Int) := by omega
          by_cases t : x = y
          · have hq : ∀ W, Sem.run Tryz.prog (binOp .neq 56 (.agg #[.int .i64 x.f, .int .i64 x.t, .int .i64 x.m, .int .i64 x.p]) (.agg #[.int .i64 y.f, .int .i64 y.t, .int .i64 y.m, .int .i64 y.p])) W = .ok (.bool false) W := fun W => by rw [run_neq, decide_eq_true t]; rfl
            have HV := Lib.hid (take_same HX.out (by rw [t]; exact HY.out) HJ.out)
            clear t
            go_wp2_with fail
            go_quiet (fail)
            go_wp2_with fail
            go_roundw
            case rel => exact ⟨k + 1, by omega, by go_num, HV.out, HG.out⟩
            case measure => simp [intOf]; omega
          · have hq : ∀ W, Sem.run Tryz.prog (binOp .neq 56 (.agg #[.int .i64 x.f, .int .i64 x.t, .int .i64 x.m, .int .i64 x.p]) (.agg #[.int .i64 y.f, .int .i64 y.t, .int .i64 y.m, .int .i64 y.p])) W = .ok (.bool true) W := fun W => by rw [run_neq, decide_eq_false t]; rfl
            have HV : Hid (O = false) := Lib.hid (by
              rw [HO.out]
              refine decide_eq_false (fun e => t ?_)
              have := HX.out
              rw [e, HY.out] at this
              exact (Option.some.inj this).symm)
            clear t
            go_wp2_with fail
            go_quiet (fail)
            go_wp2_with fail
            go_ret
            exact ⟨retb HV.out.symm, HG.out⟩
        · have hkz : ¬ (k : Int) < (n : Int) := by omega
          have HV : Hid (O = true) := Lib.hid (by
            have := HJ.out
            rw [List.take_of_length_le (by rw [HN.out]; omega), List.take_of_length_le (by rw [HM.out]; omega)] at this
            rw [HO.out]
            exact decide_eq_true this)
          go_wp2
          go_ret
          exact ⟨retb HV.out.symm, HG.out⟩
  · obtain ⟨ad, cap, rfl, h1⟩ := hv.len
    obtain ⟨ad', cap', rfl, h2⟩ := hu.len
    rw [hn] at h1
    rw [hm] at h2
    rw [hn, hm]
    have HV : Hid (O = false) := Lib.hid (by rw [HO.out]; exact decide_eq_false (fun e => hnm (by rw [← hn, ← hm, e])))
    have t : ((n : Int) != (m : Int)) = true := by simp; omega
    clear hv hu hn hm
    go_enter Tryz.func16, Tryz.ntmps16
    go_wp2_with fail
    go_ret
    exact ⟨retb HV.out.symm, HG0.out⟩

/-- A span without its weight. -/
def nw (x : Sp) : Sp := ⟨x.f, x.t, x.m, 0⟩

def mo (xs : List Sp) (k : Nat) : List Sp := (xs.take k).map nw ++ xs.drop k

theorem mo_len (xs : List Sp) (k : Nat) : (mo xs k).length = xs.length := by
  unfold mo
  simp only [List.length_append, List.length_map, List.length_take, List.length_drop]
  omega

theorem mo_step {xs : List Sp} {k : Nat} {x : Sp} (h : xs[k]? = some x) : sf (mo xs (k + 1)) = (sf (mo xs k)).set (k * 4 + 3) (.int .i64 0) := by
  obtain ⟨hk, rfl⟩ := List.getElem?_eq_some_iff.1 h
  have e : xs.drop k = xs[k] :: xs.drop (k + 1) := List.drop_eq_getElem_cons hk
  unfold mo
  rw [e, take_more xs k hk, List.map_append, List.append_assoc, sf_app, sf_app, sf_app, List.set_append, sf_len, List.length_map, List.length_take, Nat.min_eq_left (by omega), if_neg (by omega)]
  rw [show k * 4 + 3 - k * 4 = 3 by omega]
  rfl

end Go.Proofs.YtihdijkplmfhfaaGreatDoor.Span

/- What the reckoning's parts of resolving answer: the place of the weightiest span at an instant, the next beginning or end, the first beginning. Conditions: as each theorem states. -/
namespace Go.Proofs.YtihdijkplmfhfaaGreatDoor.Span
set_option maxRecDepth 100000
set_option maxRecDepth 100000
open Go.ChangeShapes Go.WideShapes Go.ChangeAt Go.RowKit
open Go.Proofs.YtihdijkplmfhfaaGreatDoor.Divs Go.Proofs.YtihdijkplmfhfaaGreatDoor.Grow
open Go.Proofs.YtihdijkplmfhfaaGreatDoor.By (Sk SL bool_no bool_yes)
open Go.Proofs.YtihdijkplmfhfaaGreatDoor.Sp

theorem nx_low {E : List Int} {a n e : Int} {b : Bool} (h : Nx E a n b) (he : e ≤ a) : Nx (E ++ [e]) a n b := by
  cases b with
  | false =>
    intro x hx
    rcases List.mem_append.1 hx with hx | hx
    · exact h x hx
    · rw [List.mem_singleton.1 hx]; exact he
  | true =>
    refine ⟨h.1, List.mem_append_left _ h.2.1, fun x hx => ?_⟩
    rcases List.mem_append.1 hx with hx | hx
    · exact h.2.2 x hx
    · rw [List.mem_singleton.1 hx]; exact .inl he

theorem nx_first {E : List Int} {a n e : Int} (h : Nx E a n false) (he : a < e) : Nx (E ++ [e]) a e true := by
  refine ⟨he, List.mem_append_right _ (List.mem_singleton.2 rfl), fun x hx => ?_⟩
  rcases List.mem_append.1 hx with hx | hx
  · exact .inl (h x hx)
  · rw [List.mem_singleton.1 hx]; exact .inr (Int.le_refl _)

theorem nx_less {E : List Int} {a n e : Int} (h : Nx E a n true) (he : a < e) (hn : e < n) : Nx (E ++ [e]) a e true := by
  refine ⟨he, List.mem_append_right _ (List.mem_singleton.2 rfl), fun x hx => ?_⟩
  rcases List.mem_append.1 hx with hx | hx
  · have := h.2.2 x hx; omega
  · rw [List.mem_singleton.1 hx]; exact .inr (Int.le_refl _)

theorem nx_more {E : List Int} {a n e : Int} (h : Nx E a n true) (hn : n ≤ e) : Nx (E ++ [e]) a n true := by
  refine ⟨h.1, List.mem_append_left _ h.2.1, fun x hx => ?_⟩
  rcases List.mem_append.1 hx with hx | hx
  · exact h.2.2 x hx
  · rw [List.mem_singleton.1 hx]; exact .inr hn

theorem ends_take {l : List Sp} {k : Nat} {x : Sp} (h : l[k]? = some x) : ends (l.take (k + 1)) = (ends (l.take k) ++ [x.f]) ++ [x.t] := by
  rw [take_at h, ends_append, List.append_assoc]
  rfl

/-- e hands back the next one of these above t, and whether there is one. -/
def IsNext (E : List Int) (t : Int) (e : Ending) : Prop := ∃ n b, e = .returned (.tuple #[.int .i64 n, .bool b]) ∧ Nx E t n b

set_option maxHeartbeats 8000000 in
theorem next_any (v : Value) (l : List Sp) (t : Int) (w : World) (h : Ws w v l) :
    Calls Tryz.prog 66 #[v, .int .i64 t] w fun e w' => IsNext (ends l) t e ∧ Later w w' := by
  obtain ⟨n, hn⟩ : ∃ n, l.length = n := ⟨_, rfl⟩
  have HN := Lib.hid hn
  have HG0 := Lib.hid (Later.refl w)
  have HX0 : Hid (Nx (ends (l.take 0)) t 0 false) := Lib.hid (by intro e he; simp [ends] at he)
  rcases Nat.eq_zero_or_pos n with h0 | h0
  · obtain ⟨ad, cap, rfl, hm⟩ := h.len
    rw [hn] at hm ⊢
    have hl := List.length_eq_zero_iff.1 (hn.trans h0)
    subst h0
    have HV : Hid (Nx (ends l) t 0 false) := Lib.hid (by rw [hl]; intro e he; simp [ends] at he)
    clear h hn hl HN HX0
    go_enter Tryz.func66, Tryz.ntmps66
    go_wp2_with fail
    refine wp_loop_rounds 1 ?_
    rw [rounds_succ]
    go_wp2
    go_ret2
    exact ⟨⟨_, _, rfl, HV.out⟩, HG0.out⟩
  · obtain ⟨B, off, cap, rfl, hm1, hm2, hB, hc⟩ := h.has (by omega)
    rw [hn] at hm1 ⊢
    have HC := Lib.hid hc
    clear h hn hc
    have ad : ∀ j, (⟨B, off, none⟩ : Addr).add j = ⟨B, off + j, none⟩ := Addr.add_mid B off
    go_enter Tryz.func66, Tryz.ntmps66
    go_wp2_with fail
    go_loopw [6, 7, 8] (fun p q i wr => ∃ (k : Nat) (y : Int) (b : Bool), k ≤ n ∧ p = .int .i64 y ∧ q = .bool b ∧ i = .int .i64 (k : Int) ∧ Nx (ends (l.take k)) t y b ∧ Later w wr) (fun _ _ i _ => n - (intOf i).toNat)
    case atStart => exact ⟨0, 0, false, by omega, rfl, rfl, rfl, HX0.out, HG0.out⟩
    case round =>
      obtain ⟨k, y, b, hk, rfl, rfl, rfl, hj, hg⟩ := hrel
      have HJ := Lib.hid hj
      have HG := Lib.hid hg
      clear hj hg
      by_cases hlt : k < n
      · obtain ⟨x, hx⟩ : ∃ x, l[k]? = some x := ⟨_, List.getElem?_eq_getElem (by rw [HN.out]; exact hlt)⟩
        have HX := Lib.hid hx
        obtain ⟨c0, c1, c2, c3⟩ := (HC.out k x hx).later HG.out
        clear hx c2 c3
        have hkz : (k : Int) < (n : Int) := by omega
        have HE := Lib.hid (ends_take HX.out)
        by_cases t1 : x.f > t
        · cases b with
          | false =>
            have H1 := Lib.hid (nx_first HJ.out t1)
            by_cases t2 : x.t > t
            · by_cases u2 : x.t < x.f
              · have H2 := Lib.hid (nx_less H1.out t2 u2)
                go_wp2
                go_roundw
                case rel => exact ⟨k + 1, x.t, true, by omega, rfl, rfl, by go_num, by rw [HE.out]; exact H2.out, HG.out⟩
                case measure => simp [intOf]; omega
              · have H2 := Lib.hid (nx_more H1.out (show x.f ≤ x.t by omega))
                go_wp2
                go_roundw
                case rel => exact ⟨k + 1, x.f, true, by omega, rfl, rfl, by go_num, by rw [HE.out]; exact H2.out, HG.out⟩
                case measure => simp [intOf]; omega
            · have H2 := Lib.hid (nx_low H1.out (show x.t ≤ t by omega))
              go_wp2
              go_roundw
              case rel => exact ⟨k + 1, x.f, true, by omega, rfl, rfl, by go_num, by rw [HE.out]; exact H2.out, HG.out⟩
              case measure => simp [intOf]; omega
          | true =>
            by_cases u1 : x.f < y
            · have H1 := Lib.hid (nx_less HJ.out t1 u1)
              by_cases t2 : x.t > t
              · by_cases u2 : x.t < x.f
                · have H2 := Lib.hid (nx_less H1.out t2 u2)
                  go_wp2
                  go_roundw
                  case rel => exact ⟨k + 1, x.t, true, by omega, rfl, rfl, by go_num, by rw [HE.out]; exact H2.out, HG.out⟩
                  case measure => simp [intOf]; omega
                · have H2 := Lib.hid (nx_more H1.out (show x.f ≤ x.t by omega))
                  go_wp2
                  go_roundw
                  case rel => exact ⟨k + 1, x.f, true, by omega, rfl, rfl, by go_num, by rw [HE.out]; exact H2.out, HG.out⟩
                  case measure => simp [intOf]; omega
              · have H2 := Lib.hid (nx_low H1.out (show x.t ≤ t by omega))
                go_wp2
                go_roundw
                case rel => exact ⟨k + 1, x.f, true, by omega, rfl, rfl, by go_num, by rw [HE.out]; exact H2.out, HG.out⟩
                case measure => simp [intOf]; omega
            · have H1 := Lib.hid (nx_more HJ.out (show y ≤ x.f by omega))
              by_cases t2 : x.t > t
              · by_cases u2 : x.t < y
                · have H2 := Lib.hid (nx_less H1.out t2 u2)
                  go_wp2
                  go_roundw
                  case rel => exact ⟨k + 1, x.t, true, by omega, rfl, rfl, by go_num, by rw [HE.out]; exact H2.out, HG.out⟩
                  case measure => simp [intOf]; omega
                · have H2 := Lib.hid (nx_more H1.out (show y ≤ x.t by omega))
                  go_wp2
                  go_roundw
                  case rel => exact ⟨k + 1, y, true, by omega, rfl, rfl, by go_num, by rw [HE.out]; exact H2.out, HG.out⟩
                  case measure => simp [intOf]; omega
              · have H2 := Lib.hid (nx_low H1.out (show x.t ≤ t by omega))
                go_wp2
                go_roundw
                case rel => exact ⟨k + 1, y, true, by omega, rfl, rfl, by go_num, by rw [HE.out]; exact H2.out, HG.out⟩
                case measure => simp [intOf]; omega
        · have H1 := Lib.hid (nx_low HJ.out (show x.f ≤ t by omega))
          by_cases t2 : x.t > t
          · cases b with
            | false =>
              have H2 := Lib.hid (nx_first H1.out t2)
              go_wp2
              go_roundw
              case rel => exact ⟨k + 1, x.t, true, by omega, rfl, rfl, by go_num, by rw [HE.out]; exact H2.out, HG.out⟩
              case measure => simp [intOf]; omega
            | true =>
              by_cases u2 : x.t < y
              · have H2 := Lib.hid (nx_less H1.out t2 u2)
                go_wp2
                go_roundw
                case rel => exact ⟨k + 1, x.t, true, by omega, rfl, rfl, by go_num, by rw [HE.out]; exact H2.out, HG.out⟩
                case measure => simp [intOf]; omega
              · have H2 := Lib.hid (nx_more H1.out (show y ≤ x.t by omega))
                go_wp2
                go_roundw
                case rel => exact ⟨k + 1, y, true, by omega, rfl, rfl, by go_num, by rw [HE.out]; exact H2.out, HG.out⟩
                case measure => simp [intOf]; omega
          · have H2 := Lib.hid (nx_low H1.out (show x.t ≤ t by omega))
            go_wp2
            go_roundw
            case rel => exact ⟨k + 1, y, b, by omega, rfl, rfl, by go_num, by rw [HE.out]; exact H2.out, HG.out⟩
            case measure => simp [intOf]; omega
      · have hkz : ¬ (k : Int) < (n : Int) := by omega
        have HV : Hid (Nx (ends l) t y b) := Lib.hid (by have := HJ.out; rwa [List.take_of_length_le (by rw [HN.out]; omega)] at this)
        go_wp2
        go_ret2
        exact ⟨⟨_, _, rfl, HV.out⟩, HG.out⟩

set_option maxHeartbeats 2000000 in
theorem least_any (v : Value) (l : List Sp) (w : World) (h : Ws w v l) (hp : 0 < l.length) :
    Calls Tryz.prog 65 #[v] w fun e w' => ∃ n, e = .returned (.int .i64 n) ∧ (∀ s ∈ l, n ≤ s.f) ∧ Later w w' := by
  obtain ⟨n, hn⟩ : ∃ n, l.length = n := ⟨_, rfl⟩
  have HN := Lib.hid hn
  have HG0 := Lib.hid (Later.refl w)
  obtain ⟨B, off, cap, rfl, hm1, hm2, hB, hc⟩ := h.has (by omega)
  rw [hn] at hm1 hp ⊢
  have HC := Lib.hid hc
  obtain ⟨x0, hx0⟩ : ∃ x, l[0]? = some x := ⟨_, List.getElem?_eq_getElem (by omega)⟩
  obtain ⟨d0, d1, d2, d3⟩ := hc 0 x0 hx0
  simp only [Nat.zero_mul, Nat.add_zero] at d0
  clear h hn hc d1 d2 d3 hx0
  have ad : ∀ j, (⟨B, off, none⟩ : Addr).add j = ⟨B, off + j, none⟩ := Addr.add_mid B off
  go_enter Tryz.func65, Tryz.ntmps65
  go_wp2_with fail
  go_loopw [3, 4] (fun p i wr => ∃ (k : Nat) (y : Int), k ≤ n ∧ p = .int .i64 y ∧ i = .int .i64 (k : Int) ∧ (∀ s ∈ l.take k, y ≤ s.f) ∧ Later w wr) (fun _ i _ => n - (intOf i).toNat)
  case atStart => exact ⟨0, x0.f, by omega, rfl, rfl, by simp, HG0.out⟩
  case round =>
    obtain ⟨k, y, hk, rfl, rfl, hj, hg⟩ := hrel
    have HJ := Lib.hid hj
    have HG := Lib.hid hg
    clear hj hg d0
    by_cases hlt : k < n
    · obtain ⟨x, hx⟩ : ∃ x, l[k]? = some x := ⟨_, List.getElem?_eq_getElem (by rw [HN.out]; exact hlt)⟩
      have HX := Lib.hid hx
      obtain ⟨c0, c1, c2, c3⟩ := (HC.out k x hx).later HG.out
      clear hx c1 c2 c3
      have hkz : (k : Int) < (n : Int) := by omega
      by_cases t : x.f < y
      · have HV : Hid (∀ s ∈ l.take (k + 1), x.f ≤ s.f) := Lib.hid (by
          intro s hs
          rw [take_at HX.out] at hs
          rcases List.mem_append.1 hs with hs | hs
          · have := HJ.out s hs; omega
          · rw [List.mem_singleton.1 hs]; omega)
        go_wp2
        go_roundw
        case rel => exact ⟨k + 1, x.f, by omega, rfl, by go_num, HV.out, HG.out⟩
        case measure => simp [intOf]; omega
      · have HV : Hid (∀ s ∈ l.take (k + 1), y ≤ s.f) := Lib.hid (by
          intro s hs
          rw [take_at HX.out] at hs
          rcases List.mem_append.1 hs with hs | hs
          · exact HJ.out s hs
          · rw [List.mem_singleton.1 hs]; omega)
        go_wp2
        go_roundw
        case rel => exact ⟨k + 1, y, by omega, rfl, by go_num, HV.out, HG.out⟩
        case measure => simp [intOf]; omega
    · have hkz : ¬ (k : Int) < (n : Int) := by omega
      have HV : Hid (∀ s ∈ l, y ≤ s.f) := Lib.hid (by have := HJ.out; rwa [List.take_of_length_le (by rw [HN.out]; omega)] at this)
      go_wp2
      go_ret
      exact ⟨_, rfl, HV.out, HG.out⟩

/-- e hands back the place of the weightiest one. -/
def IsBest (l : List Sp) (t : Int) (e : Ending) : Prop := ∃ j, e = .returned (.int .i64 j) ∧ Bi l t l.length j

set_option maxHeartbeats 4000000 in
theorem rweight_any (v : Value) (l : List Sp) (t : Int) (w : World) (h : Ws w v l) :
    Calls Tryz.prog 67 #[v, .int .i64 t] w fun e w' => IsBest l t e ∧ Later w w' := by
  have O := Lib.hid (fun x y W => over_any x y W)
  obtain ⟨n, hn⟩ : ∃ n, l.length = n := ⟨_, rfl⟩
  have HN := Lib.hid hn
  have HG0 := Lib.hid (Later.refl w)
  have HB0 := Lib.hid (bi_nil l t)
  rcases Nat.eq_zero_or_pos n with h0 | h0
  · obtain ⟨ad, cap, rfl, hm⟩ := h.len
    rw [hn] at hm ⊢
    have hl := hn.trans h0
    subst h0
    have HV : Hid (Bi l t l.length (-1)) := Lib.hid (by rw [hl]; exact bi_nil l t)
    clear h hn hl HN HB0
    go_enter Tryz.func67, Tryz.ntmps67
    go_wp2_with fail
    refine wp_loop_rounds 1 ?_
    rw [rounds_succ]
    go_wp2
    go_ret
    exact ⟨⟨_, rfl, HV.out⟩, HG0.out⟩
  · obtain ⟨B, off, cap, rfl, hm1, hm2, hB, hc⟩ := h.has (by omega)
    rw [hn] at hm1 ⊢
    have HC := Lib.hid hc
    clear h hn hc
    have ad : ∀ j, (⟨B, off, none⟩ : Addr).add j = ⟨B, off + j, none⟩ := Addr.add_mid B off
    go_enter Tryz.func67, Tryz.ntmps67
    go_wp2_with fail
    go_loopw [5, 6] (fun p i wr => ∃ (k : Nat) (j : Int), k ≤ n ∧ p = .int .i64 j ∧ i = .int .i64 (k : Int) ∧ Bi l t k j ∧ Later w wr) (fun _ i _ => n - (intOf i).toNat)
    case atStart => exact ⟨0, -1, by omega, rfl, rfl, HB0.out, HG0.out⟩
    case round =>
      obtain ⟨k, j, hk, rfl, rfl, hj, hg⟩ := hrel
      have HJ := Lib.hid hj
      have HG := Lib.hid hg
      clear hj hg
      by_cases hlt : k < n
      · have HK : Hid (k < l.length) := Lib.hid (by rw [HN.out]; exact hlt)
        obtain ⟨x, hx⟩ : ∃ x, l[k]? = some x := ⟨_, List.getElem?_eq_getElem HK.out⟩
        have HX : Hid (∀ hk : k < l.length, l[k] = x) := Lib.hid (fun hk => by rw [List.getElem?_eq_getElem hk] at hx; exact Option.some.inj hx)
        obtain ⟨c0, c1, c2, c3⟩ := (HC.out k x hx).later HG.out
        have HCX := Lib.hid (HC.out k x hx)
        clear hx c2 c3
        have hkz : (k : Int) < (n : Int) := by omega
        by_cases t1 : t < x.f
        · have HV := Lib.hid (bi_out l t k j HK.out HJ.out (by rw [HX.out]; exact .inl t1))
          go_wp2
          go_roundw
          case rel => exact ⟨k + 1, j, by omega, rfl, by go_num, HV.out, HG.out⟩
          case measure => simp [intOf]; omega
        · by_cases t2 : t ≥ x.t
          · have HV := Lib.hid (bi_out l t k j HK.out HJ.out (by rw [HX.out]; exact .inr t2))
            go_wp2
            go_roundw
            case rel => exact ⟨k + 1, j, by omega, rfl, by go_num, HV.out, HG.out⟩
            case measure => simp [intOf]; omega
          · have HI : Hid (∀ hk : k < l.length, l[k].f ≤ t ∧ t < l[k].t) := Lib.hid (fun hk => by rw [HX.out]; omega)
            by_cases t3 : j < 0
            · have HV : Hid (Bi l t (k + 1) k) := Lib.hid (by
                have hb := HJ.out
                have ej : j = -1 := by
                  unfold Bi at hb
                  cases e : best (l.take k) t with
                  | none => rw [e] at hb; exact hb
                  | some s => rw [e] at hb; have := hb.1; omega
                rw [ej] at hb
                exact bi_first l t k HK.out hb (HI.out HK.out))
              go_wp2
              go_roundw
              case rel => exact ⟨k + 1, k, by omega, rfl, by go_num, HV.out, HG.out⟩
              case measure => simp [intOf]; omega
            · obtain ⟨m, hm, ej, hmk, hbb⟩ := bi_best HJ.out (by omega)
              clear hbb
              have HM := Lib.hid hm
              obtain ⟨y, hy⟩ : ∃ y, l[m]? = some y := ⟨_, List.getElem?_eq_getElem hm⟩
              have HY : Hid (∀ hm : m < l.length, l[m] = y) := Lib.hid (fun hm => by rw [List.getElem?_eq_getElem hm] at hy; exact Option.some.inj hy)
              have HCY := Lib.hid (HC.out m y hy)
              subst ej
              have hmn : m < n := by omega
              have hmz : (m : Int) < (n : Int) := by omega
              have X0 : ∀ q : Gw wr, q.w'.cell? ⟨B, off + k * 4, none⟩ = some (.int .i64 x.f) := gw_cell (HCX.out.later HG.out).1
              have X1 : ∀ q : Gw wr, q.w'.cell? ⟨B, off + k * 4 + 1, none⟩ = some (.int .i64 x.t) := gw_cell (HCX.out.later HG.out).2.1
              have X2 : ∀ q : Gw wr, q.w'.cell? ⟨B, off + k * 4 + 2, none⟩ = some (.int .i64 x.m) := gw_cell (HCX.out.later HG.out).2.2.1
              have X3 : ∀ q : Gw wr, q.w'.cell? ⟨B, off + k * 4 + 3, none⟩ = some (.int .i64 x.p) := gw_cell (HCX.out.later HG.out).2.2.2
              have Y0 : ∀ q : Gw wr, q.w'.cell? ⟨B, off + m * 4, none⟩ = some (.int .i64 y.f) := gw_cell (HCY.out.later HG.out).1
              have Y1 : ∀ q : Gw wr, q.w'.cell? ⟨B, off + m * 4 + 1, none⟩ = some (.int .i64 y.t) := gw_cell (HCY.out.later HG.out).2.1
              have Y2 : ∀ q : Gw wr, q.w'.cell? ⟨B, off + m * 4 + 2, none⟩ = some (.int .i64 y.m) := gw_cell (HCY.out.later HG.out).2.2.1
              have Y3 : ∀ q : Gw wr, q.w'.cell? ⟨B, off + m * 4 + 3, none⟩ = some (.int .i64 y.p) := gw_cell (HCY.out.later HG.out).2.2.2
              have O' := Lib.hid (fun W => O.out x y W)
              unfold sc at O'
              clear hy hm
              cases ho : ov x y with
              | true =>
                rw [ho] at O'
                have HV : Hid (Bi l t (k + 1) k) := Lib.hid (bi_over l t k m HK.out HM.out HJ.out (HI.out HK.out) (by rw [HX.out, HY.out]; exact ho))
                clear ho
                go_wp2_with fail
                refine region_grown (by kernel_rfl) (by kernel_rfl) ?_
                repeat (go_big_quiet_step (first | (go_at_call 101; exact in_grown (O'.out _))))
                refine wpQuiet_nil (grown_end ?_)
                intro w2 hg2
                have HG2 := Lib.hid (gtrans HG.out hg2)
                clear hg2 X0 X1 X2 X3 Y0 Y1 Y2 Y3 c0 c1
                go_wp2_with fail
                go_roundw
                case rel => exact ⟨k + 1, k, by omega, rfl, by go_num, HV.out, HG2.out⟩
                case measure => simp [intOf]; omega
              | false =>
                rw [ho] at O'
                have HV : Hid (Bi l t (k + 1) m) := Lib.hid (bi_stay l t k m HK.out HM.out HJ.out (HI.out HK.out) (by rw [HX.out, HY.out]; exact ho))
                clear ho
                go_wp2_with fail
                refine region_grown (by kernel_rfl) (by kernel_rfl) ?_
                repeat (go_big_quiet_step (first | (go_at_call 101; exact in_grown (O'.out _))))
                refine wpQuiet_nil (grown_end ?_)
                intro w2 hg2
                have HG2 := Lib.hid (gtrans HG.out hg2)
                clear hg2 X0 X1 X2 X3 Y0 Y1 Y2 Y3 c0 c1
                go_wp2_with fail
                go_roundw
                case rel => exact ⟨k + 1, m, by omega, rfl, by go_num, HV.out, HG2.out⟩
                case measure => simp [intOf]; omega
      · have hkz : ¬ (k : Int) < (n : Int) := by omega
        have HV : Hid (Bi l t l.length j) := Lib.hid (by have := HJ.out; rwa [show k = l.length by rw [HN.out]; omega] at this)
        go_wp2
        go_ret
        exact ⟨⟨_, rfl, HV.out⟩, HG.out⟩

end Go.Proofs.YtihdijkplmfhfaaGreatDoor.Span

/- What the reckoning resolves spans to. Conditions: the spans are at most 500. -/
namespace Go.Proofs.YtihdijkplmfhfaaGreatDoor.Span
set_option maxRecDepth 100000
open Go.ChangeShapes Go.WideShapes Go.ChangeAt Go.RowKit
open Go.Proofs.YtihdijkplmfhfaaGreatDoor.Divs Go.Proofs.YtihdijkplmfhfaaGreatDoor.Grow
open Go.Proofs.YtihdijkplmfhfaaGreatDoor.By (Sk SL bool_no bool_yes)
open Go.Proofs.YtihdijkplmfhfaaGreatDoor.Sp

/-- How many of these are above a. -/
def cnt : List Int → Int → Nat
  | [], _ => 0
  | e :: E, a => (if a < e then 1 else 0) + cnt E a

theorem cnt_le (E : List Int) (a b : Int) (h : a ≤ b) : cnt E b ≤ cnt E a := by
  induction E with
  | nil => simp [cnt]
  | cons e E ih => unfold cnt; split <;> split <;> omega

theorem cnt_lt {E : List Int} {a b : Int} (h : a < b) (hb : b ∈ E) : cnt E b < cnt E a := by
  induction E with
  | nil => cases hb
  | cons e E ih =>
    unfold cnt
    rcases List.mem_cons.1 hb with rfl | hb
    · have := cnt_le E a b (by omega)
      rw [if_neg (by omega), if_pos h]; omega
    · have := ih hb
      split <;> split <;> omega

theorem cnt_len (E : List Int) (a : Int) : cnt E a ≤ E.length := by
  induction E with
  | nil => simp [cnt]
  | cons e E ih => unfold cnt; simp only [List.length_cons]; split <;> omega

theorem sf_to (o : List Sp) (s : Sp) (b : Int) : (sf (o ++ [s])).set (o.length * 4 + 1) (.int .i64 b) = sf (o ++ [⟨s.f, b, s.m, s.p⟩]) := by
  rw [sf_app, sf_app, List.set_append, sf_len, if_neg (by omega), show o.length * 4 + 1 - o.length * 4 = 1 by omega]
  rfl

theorem last_or (R : List Sp) : R = [] ∨ ∃ o s, R = o ++ [s] := by
  rcases List.eq_nil_or_concat R with h | ⟨o, s, h⟩
  · exact .inl h
  · exact .inr ⟨o, s, by rw [h, List.concat_eq_append]⟩

theorem last_cells {W : World} {b g cap : Nat} {o : List Sp} {s : Sp} {n : Nat} (h : W.ownsRow b 56 4 (.slice (some ⟨g, 0, none⟩) n cap) n (sf (o ++ [s]))) : At W g (o.length * 4) s := by
  have go : ∀ j y, (sc s)[j]? = some y → W.cell? ⟨g, o.length * 4 + j, none⟩ = some y := fun j y hy => by
    have hj : j < 4 := by simpa [sc] using (List.getElem?_eq_some_iff.1 hy).1
    have e : (sf (o ++ [s]))[o.length * 4 + j]? = some y := by rw [sf_get (i := o.length) (x := s) (by simp) hj]; exact hy
    have c := World.ownsRow.cells h (g := g) rfl _ _ e
    rwa [By.add_zero] at c
  exact ⟨go 0 _ rfl, go 1 _ rfl, go 2 _ rfl, go 3 _ rfl⟩

theorem st_none {l R : List Sp} {a b : Int} (h : best l a = none) : st l R a b = R := by unfold st md; rw [h]; rfl
theorem st_some {l R : List Sp} {a b : Int} {x : Sp} (h : best l a = some x) : st l R a b = push R a b x.m := by unfold st md; rw [h]; rfl

theorem len_push (R : List Sp) (a b m : Int) : (push R a b m).length ≤ R.length + 1 := by
  rcases last_or R with rfl | ⟨o, s, rfl⟩
  · rw [push_nil]; simp
  · rw [push_last]; split <;> simp

theorem len_st (l R : List Sp) (a b : Int) : (st l R a b).length ≤ R.length + 1 := by
  unfold st; split
  · exact len_push _ _ _ _
  · omega

/-- e hands back a slice of its own of the row that tells the modes of l. -/
def IsRow (l : List Sp) (w w' : World) (v : Value) : Prop := ∃ R, Full R (md l) ∧ WL w' w.heap.size v R

set_option maxHeartbeats 8000000 in
theorem rresolve_any (v : Value) (l : List Sp) (w : World) (h : Ws w v l) (hl : l.length ≤ 500) :
    Calls Tryz.prog 38 #[v] w fun e w' => ∃ v', e = .returned v' ∧ IsRow l w w' v' ∧ Later w w' := by
  obtain ⟨n, hn⟩ : ∃ n, l.length = n := ⟨_, rfl⟩
  have HN := Lib.hid hn
  have HG0 := Lib.hid (Later.refl w)
  rcases Nat.eq_zero_or_pos n with h0 | h0
  · obtain ⟨ad, cap, rfl, hm⟩ := h.len
    rw [hn] at hm ⊢
    have e := List.length_eq_zero_iff.1 (hn.trans h0)
    have HV : Hid (IsRow l w w (.slice none 0 0)) := Lib.hid ⟨[], by rw [e]; exact full_nil, WL.nil w _⟩
    subst h0
    clear h hn e hl
    go_enter Tryz.func38, Tryz.ntmps38
    go_wp2_with fail
    go_ret
    exact ⟨_, rfl, HV.out, HG0.out⟩
  · have L := Lib.hid (fun W (g : Later w W) => least_any v l W (h.later g) (by omega))
    have X := Lib.hid (fun t W (g : Later w W) => next_any v l t W (h.later g))
    have B := Lib.hid (fun t W (g : Later w W) => rweight_any v l t W (h.later g))
    obtain ⟨B0, off, cap, rfl, hm1, hm2, hB, hc⟩ := h.has (by omega)
    rw [hn] at hm1 L X B hl ⊢
    have HC := Lib.hid hc
    have HEL : Hid ((ends l).length = 2 * n) := Lib.hid (by rw [ends_len, hn])
    clear h hn hc
    have ad : ∀ j, (⟨B0, off, none⟩ : Addr).add j = ⟨B0, off + j, none⟩ := Addr.add_mid B0 off
    have tn : ((n : Int) == 0) = false := by simp; omega
    go_enter Tryz.func38, Tryz.ntmps38
    go_wp2_with fail
    refine (L.out _ (Later.refl w)).mono ?_
    rintro e w1 ⟨a0, rfl, hlow, hg1⟩
    have HG1 := Lib.hid hg1
    have HLOW := Lib.hid (st_start l a0 hlow)
    have HC0 := Lib.hid (cnt_len (ends l) a0)
    clear hg1 hlow
    go_wp2_with fail
    refine (X.out _ _ HG1.out).mono ?_
    rintro e w2 ⟨⟨b0, m0, rfl, hnx⟩, hg2⟩
    have HG2 := Lib.hid (gtrans HG1.out hg2)
    have HNX := Lib.hid hnx
    clear hg2 hnx
    go_wp2_with fail
    go_loopw [3, 4, 5, 6] (fun r p q m wr => ∃ (a b : Int) (mo : Bool) (R : List Sp), p = .int .i64 a ∧ q = .int .i64 b ∧ m = .bool mo ∧ Sp.Good R (md l) a ∧ Nx (ends l) a b mo ∧ WL wr w.heap.size r R ∧ R.length + cnt (ends l) a ≤ 2 * n ∧ Later w wr) (fun _ p _ _ _ => cnt (ends l) (intOf p))
    case atStart => exact ⟨a0, b0, m0, [], rfl, rfl, rfl, HLOW.out, HNX.out, WL.nil _ _, by have := HC0.out; have := HEL.out; simp only [List.length_nil]; omega, HG2.out⟩
    case round =>
      obtain ⟨a, b, mo, R, rfl, rfl, rfl, hgood, hnx, hwl, hlen, hg⟩ := hrel
      have HGD := Lib.hid hgood
      have HX := Lib.hid hnx
      have HW := Lib.hid hwl
      have HLN := Lib.hid hlen
      have HG := Lib.hid hg
      clear hgood hnx hwl hlen hg HNX HLOW
      cases mo with
      | false =>
        have HV : Hid (IsRow l w wr u3) := Lib.hid ⟨R, st_end b HGD.out HX.out, HW.out⟩
        go_wp2_with fail
        go_ret
        exact ⟨_, rfl, HV.out, HG.out⟩
      | true =>
        have HG' := Lib.hid (st_good HGD.out HX.out)
        have HCN := Lib.hid (cnt_lt HX.out.1 HX.out.2.1)
        have HSL := Lib.hid (len_st l R a b)
        go_wp2_with fail
        refine (B.out _ _ HG.out).mono ?_
        rintro e w3 ⟨⟨j, rfl, hb⟩, hg3⟩
        have HG3 := Lib.hid (gtrans HG.out hg3)
        have HW3 := Lib.hid (HW.out.later hg3)
        clear hg3
        rcases bi_all hb with ⟨rfl, hbest⟩ | ⟨m, hm, rfl, hbest⟩
        · have ES := Lib.hid (st_none (R := R) (b := b) hbest)
          clear hb hbest
          obtain ⟨ad3, cap3, hv3, hl3⟩ := HW3.out.ws.len
          subst hv3
          go_wp2_with fail
          go_quiet (fail)
          have HG4 : Hid (Later w (w3.drewN nq)) := Lib.hid HG3.out
          have HW4 : Hid (WL (w3.drewN nq) w.heap.size (.slice ad3 R.length cap3) R) := Lib.hid (HW3.out.later (later_drewN w3 nq))
          generalize w3.drewN nq = w4 at HG4 HW4 ⊢
          go_wp2_with fail
          refine (X.out _ _ HG4.out).mono ?_
          rintro e w5 ⟨⟨b5, m5, rfl, hnx5⟩, hg5⟩
          have HG5 := Lib.hid (gtrans HG4.out hg5)
          have HX5 := Lib.hid hnx5
          have HW5 := Lib.hid (HW4.out.later hg5)
          clear hg5 hnx5
          go_wp2_with fail
          go_roundw
          case rel => exact ⟨b, b5, m5, _, rfl, rfl, rfl, HG'.out, HX5.out, by rw [ES.out]; exact HW5.out, by have := HCN.out; have := HSL.out; have := HLN.out; omega, HG5.out⟩
          case measure => exact HCN.out
        · obtain ⟨x, hx⟩ : ∃ x, l[m] = x := ⟨_, rfl⟩
          have HM : Hid (l[m]? = some x) := Lib.hid (by rw [List.getElem?_eq_getElem hm, hx])
          have hmn : m < n := by rw [← HN.out]; exact hm
          have hmz : (m : Int) < (n : Int) := by omega
          have m0' : decide ((m : Int) ≥ 0) = true := decide_eq_true (by omega)
          rw [hx] at hbest
          have ES := Lib.hid (st_some (R := R) (b := b) hbest)
          clear hb hbest hx hm
          obtain ⟨x0, x1, x2, x3⟩ := (HC.out m x HM.out).later HG3.out
          clear x0 x1 x3
          rcases last_or R with hR | ⟨o, s, hR⟩
          · have EP : Hid (st l R a b = R ++ [⟨a, b, x.m, 0⟩]) := Lib.hid (by rw [ES.out, hR, push_nil]; rfl)
            have hRz : R.length = 0 := by rw [hR]; rfl
            clear hR
            obtain ⟨ad3, cap3, hv3, hl3⟩ := HW3.out.ws.len
            rw [hRz] at hv3
            subst hv3
            go_wp2_with fail
            go_quiet (fail)
            have HG4 : Hid (Later w (w3.drewN nq)) := Lib.hid HG3.out
            have HW4 : Hid (WL (w3.drewN nq) w.heap.size (.slice ad3 0 cap3) R) := Lib.hid (HW3.out.later (later_drewN w3 nq))
            generalize w3.drewN nq = w4 at HG4 HW4 ⊢
            have x2 := ((HC.out m x HM.out).later HG4.out).2.2.1
            go_wp2_with (first | (refine append_spans rfl (.tmp 63) (.tmp 72) rfl w (HG4.out.put _) _ R rfl (HW4.out.later ((Later.refl w4).put _)) _ [⟨a, b, x.m, 0⟩] rfl (ws_one' ⟨a, b, x.m, 0⟩ rfl) (by have := HLN.out; simp only [List.length_cons, List.length_nil]; omega) ?_; intro v' w6 hw hl6 _; have HW6 := Lib.hid hw; have HL6 := Lib.hid hl6; clear hw hl6 x2))
            refine (X.out _ _ HL6.out).mono ?_
            rintro e w5 ⟨⟨b5, m5, rfl, hnx5⟩, hg5⟩
            have HG5 := Lib.hid (gtrans HL6.out hg5)
            have HX5 := Lib.hid hnx5
            have HW5 := Lib.hid (HW6.out.later hg5)
            clear hg5 hnx5
            go_wp2_with fail
            go_roundw
            case rel => exact ⟨b, b5, m5, _, rfl, rfl, rfl, HG'.out, HX5.out, by rw [EP.out]; exact HW5.out, by have := HCN.out; have := HSL.out; have := HLN.out; omega, HG5.out⟩
            case measure => exact HCN.out
          · obtain ⟨q, hq⟩ : ∃ q, o.length = q := ⟨_, rfl⟩
            have HQ := Lib.hid hq
            have hRl : R.length = q + 1 := by rw [hR, ← hq]; simp
            have HRL := Lib.hid hRl
            rcases HW3.out.2 with ⟨_, h0'⟩ | ⟨g, cap3, cur, hv3, hg0, _, _, hg3, _⟩
            · omega
            rw [hRl] at hv3
            subst hv3
            have HB0 := Lib.hid hg0
            have hcap : cap3 ≤ 9223372036854775807 := by simpa [maxLen] using hg3
            have HOW : Hid (w3.ownsRow w.heap.size 56 4 (.slice (some ⟨g, 0, none⟩) (q + 1) cap3) (q + 1) (sf (o ++ [s]))) := Lib.hid (by have := HW3.out; unfold WL at this; rw [hRl, hR] at this; exact this)
            have HR' := Lib.hid hR
            have hq5 : q ≤ 5000 := by have := HLN.out; omega
            clear hg0 hg3 hR hq hRl
            obtain ⟨s0, s1, s2, s3⟩ := last_cells HOW.out
            rw [HQ.out] at s0 s1 s2 s3
            clear s0 s3
            by_cases t1 : s.t = a
            · have t1d : (s.t == a) = true := by simpa using t1
              by_cases t2 : s.m = x.m
              · have t2d : (s.m == x.m) = true := by simpa using t2
                have EP : Hid (st l R a b = o ++ [⟨s.f, b, s.m, s.p⟩]) := Lib.hid (by rw [ES.out, HR'.out, push_last, if_pos ⟨t1, t2⟩])
                clear t1 t2
                go_wp2_with fail
                go_quiet (fail)
                have HG4 : Hid (Later w (w3.drewN nq)) := Lib.hid HG3.out
                have HW4 : Hid ((w3.drewN nq).ownsRow w.heap.size 56 4 (.slice (some ⟨g, 0, none⟩) (q + 1) cap3) (q + 1) (sf (o ++ [s]))) := Lib.hid (World.ownsRow.kept HOW.out (later_drewN w3 nq).grownBy (by cases (Value.slice (some ⟨g, 0, none⟩) (q + 1) cap3).ownBlock <;> simp))
                generalize w3.drewN nq = w4 at HG4 HW4 ⊢
                obtain ⟨p1, _⟩ := HW4.out.stored (q * 4 + 1) (.int .i64 b)
                have HW6 : Hid (WL (w4.setCell ⟨g, q * 4 + 1, none⟩ (.int .i64 b)) w.heap.size (.slice (some ⟨g, 0, none⟩) (q + 1) cap3) (o ++ [⟨s.f, b, s.m, s.p⟩])) := Lib.hid (by
                  have e := sf_to o s b
                  rw [HQ.out] at e
                  rw [e] at p1
                  unfold WL
                  rw [show (o ++ [(⟨s.f, b, s.m, s.p⟩ : Sp)]).length = q + 1 by rw [← HQ.out]; simp]
                  exact p1)
                have HL6 : Hid (Later w (w4.setCell ⟨g, q * 4 + 1, none⟩ (.int .i64 b))) := Lib.hid (HG4.out.setCell HB0.out _)
                have f1 := HW4.out.frozenAt (q * 4 + 1)
                have d1 := (last_cells HW4.out).2.1
                rw [HQ.out] at d1
                clear p1 s1 s2
                go_wp2_with fail
                refine (X.out _ _ HL6.out).mono ?_
                rintro e w5 ⟨⟨b5, m5, rfl, hnx5⟩, hg5⟩
                have HG5 := Lib.hid (gtrans HL6.out hg5)
                have HX5 := Lib.hid hnx5
                have HW5 := Lib.hid (HW6.out.later hg5)
                clear hg5 hnx5
                go_wp2_with fail
                go_roundw
                case rel => exact ⟨b, b5, m5, _, rfl, rfl, rfl, HG'.out, HX5.out, by rw [EP.out]; exact HW5.out, by have := HCN.out; have := HSL.out; have := HLN.out; omega, HG5.out⟩
                case measure => exact HCN.out
              · have t2d : (s.m == x.m) = false := by simpa using t2
                have EP : Hid (st l R a b = R ++ [⟨a, b, x.m, 0⟩]) := Lib.hid (by rw [ES.out, HR'.out, push_last, if_neg (fun c => t2 c.2)])
                clear t1 t2
                go_wp2_with fail
                go_quiet (fail)
                have HG4 : Hid (Later w (w3.drewN nq)) := Lib.hid HG3.out
                have HW4 : Hid (WL (w3.drewN nq) w.heap.size (.slice (some ⟨g, 0, none⟩) (q + 1) cap3) R) := Lib.hid (HW3.out.later (later_drewN w3 nq))
                generalize w3.drewN nq = w4 at HG4 HW4 ⊢
                have x2 := ((HC.out m x HM.out).later HG4.out).2.2.1
                go_wp2_with (first | (refine append_spans rfl (.tmp 63) (.tmp 72) rfl w (HG4.out.put _) _ R rfl (HW4.out.later ((Later.refl w4).put _)) _ [⟨a, b, x.m, 0⟩] rfl (ws_one' ⟨a, b, x.m, 0⟩ rfl) (by have := HLN.out; simp only [List.length_cons, List.length_nil]; omega) ?_; intro v' w6 hw hl6 _; have HW6 := Lib.hid hw; have HL6 := Lib.hid hl6; clear hw hl6 x2))
                refine (X.out _ _ HL6.out).mono ?_
                rintro e w5 ⟨⟨b5, m5, rfl, hnx5⟩, hg5⟩
                have HG5 := Lib.hid (gtrans HL6.out hg5)
                have HX5 := Lib.hid hnx5
                have HW5 := Lib.hid (HW6.out.later hg5)
                clear hg5 hnx5
                go_wp2_with fail
                go_roundw
                case rel => exact ⟨b, b5, m5, _, rfl, rfl, rfl, HG'.out, HX5.out, by rw [EP.out]; exact HW5.out, by have := HCN.out; have := HSL.out; have := HLN.out; omega, HG5.out⟩
                case measure => exact HCN.out
            · have t1d : (s.t == a) = false := by simpa using t1
              have EP : Hid (st l R a b = R ++ [⟨a, b, x.m, 0⟩]) := Lib.hid (by rw [ES.out, HR'.out, push_last, if_neg (fun c => t1 c.1)])
              clear t1
              go_wp2_with fail
              go_quiet (fail)
              have HG4 : Hid (Later w (w3.drewN nq)) := Lib.hid HG3.out
              have HW4 : Hid (WL (w3.drewN nq) w.heap.size (.slice (some ⟨g, 0, none⟩) (q + 1) cap3) R) := Lib.hid (HW3.out.later (later_drewN w3 nq))
              generalize w3.drewN nq = w4 at HG4 HW4 ⊢
              have x2 := ((HC.out m x HM.out).later HG4.out).2.2.1
              go_wp2_with (first | (refine append_spans rfl (.tmp 63) (.tmp 72) rfl w (HG4.out.put _) _ R rfl (HW4.out.later ((Later.refl w4).put _)) _ [⟨a, b, x.m, 0⟩] rfl (ws_one' ⟨a, b, x.m, 0⟩ rfl) (by have := HLN.out; simp only [List.length_cons, List.length_nil]; omega) ?_; intro v' w6 hw hl6 _; have HW6 := Lib.hid hw; have HL6 := Lib.hid hl6; clear hw hl6 x2))
              refine (X.out _ _ HL6.out).mono ?_
              rintro e w5 ⟨⟨b5, m5, rfl, hnx5⟩, hg5⟩
              have HG5 := Lib.hid (gtrans HL6.out hg5)
              have HX5 := Lib.hid hnx5
              have HW5 := Lib.hid (HW6.out.later hg5)
              clear hg5 hnx5
              go_wp2_with fail
              go_roundw
              case rel => exact ⟨b, b5, m5, _, rfl, rfl, rfl, HG'.out, HX5.out, by rw [EP.out]; exact HW5.out, by have := HCN.out; have := HSL.out; have := HLN.out; omega, HG5.out⟩
              case measure => exact HCN.out

end Go.Proofs.YtihdijkplmfhfaaGreatDoor.Span

/- How the program puts a piece behind a row, and makes its iterator. Conditions: the row is its own, and not too long. -/
namespace Go.Proofs.YtihdijkplmfhfaaGreatDoor.Span
set_option maxRecDepth 100000
open Go.ChangeShapes Go.WideShapes Go.ChangeAt Go.RowKit
open Go.Proofs.YtihdijkplmfhfaaGreatDoor.Divs Go.Proofs.YtihdijkplmfhfaaGreatDoor.Grow
open Go.Proofs.YtihdijkplmfhfaaGreatDoor.By (Sk SL)
open Go.Proofs.YtihdijkplmfhfaaGreatDoor.Sp

theorem grown_trans {a b c : World} {r : Option Nat} (h : Later a b) (k : b.grownBy c r) : a.grownBy c r :=
  ⟨k.os.trans h.1.1, k.tape.trans h.1.2, k.output.trans h.2.1, Nat.le_trans h.2.2.1 k.size, fun i hi hr => (k.block i (Nat.lt_of_lt_of_le hi h.2.2.1) hr).trans (h.2.2.2 i hi)⟩

theorem bounds_any (ad : Option Addr) (n cap : Nat) (w : World) : Calls Tryz.prog 93 #[.slice ad n cap] w fun e w' => e = .returned (.func (.func 122) #[] #[.pointer (some ⟨w.heap.size, 0, none⟩)]) ∧ w' = w.alloc (.cells #[.slice ad n cap] 36) := by
  go_enter Tryz.func93, Tryz.ntmps93
  go_wp2
  go_ret
  exact ⟨rfl, rfl⟩

/-- e hands back the row with the piece behind it. -/
def IsLaid (R : List Sp) (a b m : Int) (n0 : Nat) (w w' : World) (v : Value) (e : Ending) : Prop := ∃ v', e = .returned v' ∧ WL w' n0 v' (push R a b m) ∧ w.grownBy w' v.ownBlock

set_option maxHeartbeats 4000000 in
theorem lay_any (v : Value) (R : List Sp) (a b m : Int) (W0 w : World) (hl : Later W0 w) (h : WL w W0.heap.size v R) (hn : R.length ≤ 50000) :
    Calls Tryz.prog 94 #[v, .agg (sc ⟨a, b, m, 0⟩).toArray] w fun e w' => IsLaid R a b m W0.heap.size w w' v e := by
  obtain ⟨wb, hwb⟩ : ∃ wb, w.alloc (.cells #[.int .i64 a, .int .i64 b, .int .i64 m, .int .i64 0] 56) = wb := ⟨_, rfl⟩
  have HLB : Hid (Later w wb) := Lib.hid (by rw [← hwb]; exact (Later.refl w).put _)
  have HRB : Hid (RA wb w.heap.size #[.int .i64 a, .int .i64 b, .int .i64 m, .int .i64 0] 56) := Lib.hid (by rw [← hwb]; exact RA.new w _ _)
  have HL := Lib.hid (gtrans hl HLB.out)
  have HW := Lib.hid (h.later HLB.out)
  unfold sc
  rcases last_or R with hR | ⟨o, s, hR⟩
  · have EP : Hid (push R a b m = R ++ [⟨a, b, m, 0⟩]) := Lib.hid (by rw [hR, push_nil]; rfl)
    have hRz : R.length = 0 := by rw [hR]; rfl
    obtain ⟨ad, cap, hv, _⟩ := h.ws.len
    rw [hRz] at hv
    subst hv
    clear h hl hR hRz
    go_enter Tryz.func94, Tryz.ntmps94
    go_wp2_with fail
    clear hwb
    go_quiet (fail)
    have HL2 : Hid (Later W0 (wb.drewN nq)) := Lib.hid HL.out
    have HG2 : Hid (Later w (wb.drewN nq)) := Lib.hid HLB.out
    have HW2 : Hid (WL (wb.drewN nq) W0.heap.size (.slice ad 0 cap) R) := Lib.hid (HW.out.later (later_drewN wb nq))
    have HB2 : Hid (RA (wb.drewN nq) w.heap.size #[.int .i64 a, .int .i64 b, .int .i64 m, .int .i64 0] 56) := Lib.hid (HRB.out.later (later_drewN wb nq))
    generalize wb.drewN nq = w2 at HL2 HG2 HW2 HB2 ⊢
    have e0 := HB2.out.cell 0 _ rfl
    have e1 := HB2.out.cell 1 _ rfl
    have e2 := HB2.out.cell 2 _ rfl
    have e3 := HB2.out.cell 3 _ rfl
    go_wp2_with (refine append_spans rfl (.tmp 38) (.tmp 40) rfl W0 (HL2.out.put _) _ R rfl (HW2.out.later ((Later.refl w2).put _)) _ [⟨a, b, m, 0⟩] rfl (ws_one' ⟨a, b, m, 0⟩ rfl) (by simp only [List.length_cons, List.length_nil]; omega) ?_; intro v' w6 hw hl6 hgb; have HW6 := Lib.hid hw; have HL6 := Lib.hid hl6; have HGB := Lib.hid hgb; clear hw hl6 hgb)
    go_ret
    exact ⟨_, rfl, by rw [EP.out]; exact HW6.out, grown_trans (HG2.out.put _) HGB.out⟩
  · obtain ⟨q, hq⟩ : ∃ q, o.length = q := ⟨_, rfl⟩
    have HQ := Lib.hid hq
    have hRl : R.length = q + 1 := by rw [hR, ← hq]; simp
    rcases h.2 with ⟨_, h0'⟩ | ⟨g, cap, cur, hv, hg0, _, _, hg3, _⟩
    · omega
    rw [hRl] at hv
    subst hv
    have hcap : cap ≤ 9223372036854775807 := by simpa [maxLen] using hg3
    have HOW : Hid (wb.ownsRow W0.heap.size 56 4 (.slice (some ⟨g, 0, none⟩) (q + 1) cap) (q + 1) (sf (o ++ [s]))) := Lib.hid (by have := HW.out; unfold WL at this; rw [hRl, hR] at this; exact this)
    have HR' := Lib.hid hR
    have hq5 : q ≤ 50000 := by omega
    clear h hl hg0 hg3 hR hq hRl
    by_cases t1 : s.t = a
    · have t1d : (s.t == a) = true := by simpa using t1
      by_cases t2 : s.m = m
      · have t2d : (s.m == m) = true := by simpa using t2
        have EP : Hid (push R a b m = o ++ [⟨s.f, b, s.m, s.p⟩]) := Lib.hid (by rw [HR'.out, push_last, if_pos ⟨t1, t2⟩])
        clear t1 t2
        obtain ⟨s0, s1, s2, s3⟩ := last_cells HOW.out
        rw [HQ.out] at s0 s1 s2 s3
        have b0 := HRB.out.cell 0 _ rfl
        have b1 := HRB.out.cell 1 _ rfl
        have b2 := HRB.out.cell 2 _ rfl
        have b3 := HRB.out.cell 3 _ rfl
        clear s0 s3
        go_enter Tryz.func94, Tryz.ntmps94
        go_wp2_with fail
        clear hwb
        go_quiet (fail)
        have HG2 : Hid (Later w (wb.drewN nq)) := Lib.hid HLB.out
        have HO2 : Hid ((wb.drewN nq).ownsRow W0.heap.size 56 4 (.slice (some ⟨g, 0, none⟩) (q + 1) cap) (q + 1) (sf (o ++ [s]))) := Lib.hid (World.ownsRow.kept HOW.out (later_drewN wb nq).grownBy (by cases (Value.slice (some ⟨g, 0, none⟩) (q + 1) cap).ownBlock <;> simp))
        have HB2 : Hid (RA (wb.drewN nq) w.heap.size #[.int .i64 a, .int .i64 b, .int .i64 m, .int .i64 0] 56) := Lib.hid (HRB.out.later (later_drewN wb nq))
        generalize wb.drewN nq = w2 at HG2 HO2 HB2 ⊢
        obtain ⟨p1, p2⟩ := HO2.out.stored (q * 4 + 1) (.int .i64 b)
        have HW6 : Hid (WL (w2.setCell ⟨g, q * 4 + 1, none⟩ (.int .i64 b)) W0.heap.size (.slice (some ⟨g, 0, none⟩) (q + 1) cap) (o ++ [⟨s.f, b, s.m, s.p⟩])) := Lib.hid (by
          have e := sf_to o s b
          rw [HQ.out] at e
          rw [e] at p1
          unfold WL
          rw [show (o ++ [(⟨s.f, b, s.m, s.p⟩ : Sp)]).length = q + 1 by rw [← HQ.out]; simp]
          exact p1)
        have HGB := Lib.hid (grown_trans HG2.out p2)
        have f1 := HO2.out.frozenAt (q * 4 + 1)
        have d1 := (last_cells HO2.out).2.1
        rw [HQ.out] at d1
        have e1 := HB2.out.cell 1 _ rfl
        clear p1 p2 s1 s2 b0 b1 b2 b3
        go_wp2_with fail
        go_ret
        exact ⟨_, rfl, by rw [EP.out]; exact HW6.out, HGB.out⟩
      · have t2d : (s.m == m) = false := by simpa using t2
        have EP : Hid (push R a b m = R ++ [⟨a, b, m, 0⟩]) := Lib.hid (by rw [HR'.out, push_last, if_neg (fun c => t2 c.2)])
        clear t1 t2
        obtain ⟨s0, s1, s2, s3⟩ := last_cells HOW.out
        rw [HQ.out] at s0 s1 s2 s3
        have b0 := HRB.out.cell 0 _ rfl
        have b1 := HRB.out.cell 1 _ rfl
        have b2 := HRB.out.cell 2 _ rfl
        have b3 := HRB.out.cell 3 _ rfl
        clear s0 s3
        go_enter Tryz.func94, Tryz.ntmps94
        go_wp2_with fail
        clear hwb
        go_quiet (fail)
        have HL2 : Hid (Later W0 (wb.drewN nq)) := Lib.hid HL.out
        have HG2 : Hid (Later w (wb.drewN nq)) := Lib.hid HLB.out
        have HW2 : Hid (WL (wb.drewN nq) W0.heap.size (.slice (some ⟨g, 0, none⟩) (q + 1) cap) R) := Lib.hid (HW.out.later (later_drewN wb nq))
        have HB2 : Hid (RA (wb.drewN nq) w.heap.size #[.int .i64 a, .int .i64 b, .int .i64 m, .int .i64 0] 56) := Lib.hid (HRB.out.later (later_drewN wb nq))
        generalize wb.drewN nq = w2 at HL2 HG2 HW2 HB2 ⊢
        have e0 := HB2.out.cell 0 _ rfl
        have e1 := HB2.out.cell 1 _ rfl
        have e2 := HB2.out.cell 2 _ rfl
        have e3 := HB2.out.cell 3 _ rfl
        go_wp2_with (refine append_spans rfl (.tmp 38) (.tmp 40) rfl W0 (HL2.out.put _) _ R rfl (HW2.out.later ((Later.refl w2).put _)) _ [⟨a, b, m, 0⟩] rfl (ws_one' ⟨a, b, m, 0⟩ rfl) (by simp only [List.length_cons, List.length_nil]; omega) ?_; intro v' w6 hw hl6 hgb; have HW6 := Lib.hid hw; have HL6 := Lib.hid hl6; have HGB := Lib.hid hgb; clear hw hl6 hgb)
        go_ret
        exact ⟨_, rfl, by rw [EP.out]; exact HW6.out, grown_trans (HG2.out.put _) HGB.out⟩
    · have t1d : (s.t == a) = false := by simpa using t1
      have EP : Hid (push R a b m = R ++ [⟨a, b, m, 0⟩]) := Lib.hid (by rw [HR'.out, push_last, if_neg (fun c => t1 c.1)])
      clear t1
      obtain ⟨s0, s1, s2, s3⟩ := last_cells HOW.out
      rw [HQ.out] at s0 s1 s2 s3
      have b0 := HRB.out.cell 0 _ rfl
      have b1 := HRB.out.cell 1 _ rfl
      have b2 := HRB.out.cell 2 _ rfl
      have b3 := HRB.out.cell 3 _ rfl
      clear s0 s3
      go_enter Tryz.func94, Tryz.ntmps94
      go_wp2_with fail
      clear hwb
      go_quiet (fail)
      have HL2 : Hid (Later W0 (wb.drewN nq)) := Lib.hid HL.out
      have HG2 : Hid (Later w (wb.drewN nq)) := Lib.hid HLB.out
      have HW2 : Hid (WL (wb.drewN nq) W0.heap.size (.slice (some ⟨g, 0, none⟩) (q + 1) cap) R) := Lib.hid (HW.out.later (later_drewN wb nq))
      have HB2 : Hid (RA (wb.drewN nq) w.heap.size #[.int .i64 a, .int .i64 b, .int .i64 m, .int .i64 0] 56) := Lib.hid (HRB.out.later (later_drewN wb nq))
      generalize wb.drewN nq = w2 at HL2 HG2 HW2 HB2 ⊢
      have e0 := HB2.out.cell 0 _ rfl
      have e1 := HB2.out.cell 1 _ rfl
      have e2 := HB2.out.cell 2 _ rfl
      have e3 := HB2.out.cell 3 _ rfl
      go_wp2_with (refine append_spans rfl (.tmp 38) (.tmp 40) rfl W0 (HL2.out.put _) _ R rfl (HW2.out.later ((Later.refl w2).put _)) _ [⟨a, b, m, 0⟩] rfl (ws_one' ⟨a, b, m, 0⟩ rfl) (by simp only [List.length_cons, List.length_nil]; omega) ?_; intro v' w6 hw hl6 hgb; have HW6 := Lib.hid hw; have HL6 := Lib.hid hl6; have HGB := Lib.hid hgb; clear hw hl6 hgb)
      go_ret
      exact ⟨_, rfl, by rw [EP.out]; exact HW6.out, grown_trans (HG2.out.put _) HGB.out⟩

end Go.Proofs.YtihdijkplmfhfaaGreatDoor.Span
