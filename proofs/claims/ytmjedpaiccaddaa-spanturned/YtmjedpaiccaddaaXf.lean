/-
  Whether two rows are the same, and spans whose weights are taken off.  Conditions: as each theorem states.
-/
import Derived.Test.YtmjedpaiccaddaaXe
namespace Go.Proofs.Ytmjedpaiccaddaa.Span
set_option maxRecDepth 100000
open Go.ChangeShapes Go.WideShapes Go.ChangeAt Go.RowKit
open Go.Proofs.Ytmjedpaiccaddaa.Divs Go.Proofs.Ytmjedpaiccaddaa.Grow
open Go.Proofs.Ytmjedpaiccaddaa.By (Sk SL bool_no bool_yes)
open Go.Proofs.Ytmjedpaiccaddaa.Sp

theorem run_neq (x y : Sp) (w : World) : Sem.run Try.prog (binOp .neq 31 (.agg #[.int .i64 x.f, .int .i64 x.t, .int .i64 x.m, .int .i64 x.p]) (.agg #[.int .i64 y.f, .int .i64 y.t, .int .i64 y.m, .int .i64 y.p])) w = .ok (.bool (!decide (x = y))) w := by
  have u3 := Try.underlying31
  obtain ⟨a, b, c, d⟩ := x
  obtain ⟨a', b', c', d'⟩ := y
  go_simp
  by_cases h1 : a = a' <;> by_cases h2 : b = b' <;> by_cases h3 : c = c' <;> by_cases h4 : d = d' <;> simp [h1, h2, h3, h4]

theorem take_same {xs ys : List Sp} {k : Nat} {x : Sp} (hx : xs[k]? = some x) (hy : ys[k]? = some x) (h : xs.take k = ys.take k) : xs.take (k + 1) = ys.take (k + 1) := by
  rw [take_at hx, take_at hy, h]

set_option maxHeartbeats 2000000 in
theorem same_any (v u : Value) (xs ys : List Sp) (w : World) (hv : Ws w v xs) (hu : Ws w u ys) : Calls Try.prog 13 #[v, u] w fun e w' => e = .returned (.bool (decide (xs = ys))) ∧ Later w w' := by
  obtain ⟨O, hO⟩ : ∃ O, O = decide (xs = ys) := ⟨_, rfl⟩
  rw [← hO]
  have HO := Lib.hid hO
  clear hO
  obtain ⟨n, hn⟩ : ∃ n, xs.length = n := ⟨_, rfl⟩
  obtain ⟨m, hm⟩ : ∃ m, ys.length = m := ⟨_, rfl⟩
  have HN := Lib.hid hn
  have HM := Lib.hid hm
  have HG0 := Lib.hid (Later.refl w)
  by_cases hnm : n = m
  · subst hnm
    rcases Nat.eq_zero_or_pos n with h0 | h0
    · obtain ⟨ad, cap, rfl, h1⟩ := hv.len
      obtain ⟨ad', cap', rfl, h2⟩ := hu.len
      rw [hn] at h1
      rw [hm] at h2
      rw [hn, hm]
      subst h0
      have HV : Hid (O = true) := Lib.hid (by rw [HO.out, List.length_eq_zero_iff.1 hn, List.length_eq_zero_iff.1 hm]; rfl)
      clear hv hu hn hm
      go_enter Try.func13, Try.ntmps13
      go_wp2_with fail
      refine wp_loop_rounds 1 ?_
      rw [rounds_succ]
      go_wp2
      go_ret
      exact ⟨retb HV.out.symm, HG0.out⟩
    · obtain ⟨B, off, cap, rfl, h1, h2, hB, hc⟩ := hv.has (by omega)
      obtain ⟨B', off', cap', rfl, h1', h2', hB', hc'⟩ := hu.has (by omega)
      rw [hn] at h1 ⊢
      rw [hm] at h1' ⊢
      have HC := Lib.hid hc
      have HC' := Lib.hid hc'
      clear hv hu hn hm hc hc'
      have ad : ∀ j, (⟨B, off, none⟩ : Addr).add j = ⟨B, off + j, none⟩ := Addr.add_mid B off
      have ad' : ∀ j, (⟨B', off', none⟩ : Addr).add j = ⟨B', off' + j, none⟩ := Addr.add_mid B' off'
      go_enter Try.func13, Try.ntmps13
      go_wp2_with fail
      go_loopw [5] (fun i wr => ∃ k : Nat, k ≤ n ∧ i = .int .i64 (k : Int) ∧ xs.take k = ys.take k ∧ Later w wr) (fun i _ => n - (intOf i).toNat)
      case atStart => exact ⟨0, by omega, rfl, rfl, HG0.out⟩
      case round =>
        obtain ⟨k, hk, rfl, hj, hg⟩ := hrel
        have HJ := Lib.hid hj
        have HG := Lib.hid hg
        clear hj hg
        by_cases hlt : k < n
        · obtain ⟨x, hx⟩ : ∃ x, xs[k]? = some x := ⟨_, List.getElem?_eq_getElem (by rw [HN.out]; exact hlt)⟩
          obtain ⟨y, hy⟩ : ∃ y, ys[k]? = some y := ⟨_, List.getElem?_eq_getElem (by rw [HM.out]; exact hlt)⟩
          have HX := Lib.hid hx
          have HY := Lib.hid hy
          obtain ⟨c0, c1, c2, c3⟩ := (HC.out k x hx).later HG.out
          obtain ⟨e0, e1, e2, e3⟩ := (HC'.out k y hy).later HG.out
          clear hx hy
          have hkz : (k : Int) < (n : Int) := by omega
          by_cases t : x = y
          · have hq : ∀ W, Sem.run Try.prog (binOp .neq 31 (.agg #[.int .i64 x.f, .int .i64 x.t, .int .i64 x.m, .int .i64 x.p]) (.agg #[.int .i64 y.f, .int .i64 y.t, .int .i64 y.m, .int .i64 y.p])) W = .ok (.bool false) W := fun W => by rw [run_neq, decide_eq_true t]; rfl
            have HV := Lib.hid (take_same HX.out (by rw [t]; exact HY.out) HJ.out)
            clear t
            go_wp2_with fail
            go_quiet (fail)
            go_wp2_with fail
            go_roundw
            case rel => exact ⟨k + 1, by omega, by go_num, HV.out, HG.out⟩
            case measure => simp [intOf]; omega
          · have hq : ∀ W, Sem.run Try.prog (binOp .neq 31 (.agg #[.int .i64 x.f, .int .i64 x.t, .int .i64 x.m, .int .i64 x.p]) (.agg #[.int .i64 y.f, .int .i64 y.t, .int .i64 y.m, .int .i64 y.p])) W = .ok (.bool true) W := fun W => by rw [run_neq, decide_eq_false t]; rfl
            have HV : Hid (O = false) := Lib.hid (by
              rw [HO.out]
              refine decide_eq_false (fun e => t ?_)
              have := HX.out
              rw [e, HY.out] at this
              exact (Option.some.inj this).symm)
            clear t
            go_wp2_with fail
            go_quiet (fail)
            go_wp2_with fail
            go_ret
            exact ⟨retb HV.out.symm, HG.out⟩
        · have hkz : ¬ (k : Int) < (n : Int) := by omega
          have HV : Hid (O = true) := Lib.hid (by
            have := HJ.out
            rw [List.take_of_length_le (by rw [HN.out]; omega), List.take_of_length_le (by rw [HM.out]; omega)] at this
            rw [HO.out]
            exact decide_eq_true this)
          go_wp2
          go_ret
          exact ⟨retb HV.out.symm, HG.out⟩
  · obtain ⟨ad, cap, rfl, h1⟩ := hv.len
    obtain ⟨ad', cap', rfl, h2⟩ := hu.len
    rw [hn] at h1
    rw [hm] at h2
    rw [hn, hm]
    have HV : Hid (O = false) := Lib.hid (by rw [HO.out]; exact decide_eq_false (fun e => hnm (by rw [← hn, ← hm, e])))
    have t : ((n : Int) != (m : Int)) = true := by simp; omega
    clear hv hu hn hm
    go_enter Try.func13, Try.ntmps13
    go_wp2_with fail
    go_ret
    exact ⟨retb HV.out.symm, HG0.out⟩

/-- A span without its weight. -/
def nw (x : Sp) : Sp := ⟨x.f, x.t, x.m, 0⟩

def mo (xs : List Sp) (k : Nat) : List Sp := (xs.take k).map nw ++ xs.drop k

theorem mo_len (xs : List Sp) (k : Nat) : (mo xs k).length = xs.length := by
  unfold mo
  simp only [List.length_append, List.length_map, List.length_take, List.length_drop]
  omega

theorem mo_step {xs : List Sp} {k : Nat} {x : Sp} (h : xs[k]? = some x) : sf (mo xs (k + 1)) = (sf (mo xs k)).set (k * 4 + 3) (.int .i64 0) := by
  obtain ⟨hk, rfl⟩ := List.getElem?_eq_some_iff.1 h
  have e : xs.drop k = xs[k] :: xs.drop (k + 1) := List.drop_eq_getElem_cons hk
  unfold mo
  rw [e, take_more xs k hk, List.map_append, List.append_assoc, sf_app, sf_app, sf_app, List.set_append, sf_len, List.length_map, List.length_take, Nat.min_eq_left (by omega), if_neg (by omega)]
  rw [show k * 4 + 3 - k * 4 = 3 by omega]
  rfl

set_option maxHeartbeats 2000000 in
theorem modes_any (v : Value) (xs : List Sp) (W0 w : World) (hl : Later W0 w) (h : WL w W0.heap.size v xs) : Calls Try.prog 19 #[v] w fun e w' => e = .returned v ∧ WL w' W0.heap.size v (xs.map nw) ∧ Later W0 w' := by
  obtain ⟨n, hn⟩ : ∃ n, xs.length = n := ⟨_, rfl⟩
  have HN := Lib.hid hn
  have HL := Lib.hid hl
  rcases Nat.eq_zero_or_pos n with h0 | h0
  · obtain ⟨ad, cap, rfl, hm⟩ := h.ws.len
    rw [hn] at hm h ⊢
    subst h0
    have e := List.length_eq_zero_iff.1 hn
    subst e
    have HV := Lib.hid h
    clear h hn hl
    go_enter Try.func19, Try.ntmps19
    go_wp2_with fail
    refine wp_loop_rounds 1 ?_
    rw [rounds_succ]
    go_wp2
    go_ret
    exact ⟨rfl, HV.out, HL.out⟩
  · rcases h.2 with ⟨_, h0'⟩ | ⟨g, cap, cur, rfl, hg0, hg1, hg2, hg3, _⟩
    · omega
    rw [hn] at h hg2 ⊢
    have HW : Hid (W0.heap.size ≤ g) := Lib.hid hg0
    have hcap : cap ≤ 9223372036854775807 := by simpa [maxLen] using hg3
    have HS : Hid (w.ownsRow W0.heap.size 31 4 (.slice (some ⟨g, 0, none⟩) n cap) n (sf (mo xs 0))) := Lib.hid (by
      unfold WL at h
      rw [hn] at h
      unfold mo
      simpa using h)
    clear h hn hl hg0 hg1 hg3
    go_enter Try.func19, Try.ntmps19
    go_wp2_with fail
    go_loopw [3] (fun i wr => ∃ k : Nat, k ≤ n ∧ i = .int .i64 (k : Int) ∧ wr.ownsRow W0.heap.size 31 4 (.slice (some ⟨g, 0, none⟩) n cap) n (sf (mo xs k)) ∧ Later W0 wr) (fun i _ => n - (intOf i).toNat)
    case atStart => exact ⟨0, by omega, rfl, HS.out, HL.out⟩
    case round =>
      obtain ⟨k, hk, rfl, hr, hg⟩ := hrel
      have HR := Lib.hid hr
      have HG := Lib.hid hg
      clear hr hg
      by_cases hlt : k < n
      · obtain ⟨x, hx⟩ : ∃ x, xs[k]? = some x := ⟨_, List.getElem?_eq_getElem (by rw [HN.out]; exact hlt)⟩
        have hkz : (k : Int) < (n : Int) := by omega
        obtain ⟨s1, _⟩ := HR.out.stored (k * 4 + 3) (.int .i64 0)
        rw [← mo_step hx] at s1
        have HS1 := Lib.hid s1
        have f3 := HR.out.frozenAt (k * 4 + 3)
        obtain ⟨y, hy⟩ : ∃ y, (sf (mo xs k))[k * 4 + 3]? = some y := ⟨_, List.getElem?_eq_getElem (by rw [sf_len, mo_len, HN.out]; omega)⟩
        have c3 := World.ownsRow.cells HR.out (g := g) rfl _ _ hy
        rw [By.add_zero] at c3
        clear s1 hx hy
        go_wp2
        go_roundw
        case rel => exact ⟨k + 1, by omega, by go_num, HS1.out, HG.out.setCell HW.out _⟩
        case measure => simp [intOf]; omega
      · obtain rfl : k = n := by omega
        have hkz : ¬ (k : Int) < (k : Int) := by omega
        have HV : Hid (WL wr W0.heap.size (.slice (some ⟨g, 0, none⟩) k cap) (xs.map nw)) := Lib.hid (by
          have := HR.out
          unfold WL
          rw [List.length_map, HN.out]
          unfold mo at this
          rwa [List.take_of_length_le (by rw [HN.out]; omega), List.drop_of_length_le (by rw [HN.out]; omega), List.append_nil] at this)
        go_wp2
        go_ret
        exact ⟨rfl, HV.out, HG.out⟩

end Go.Proofs.Ytmjedpaiccaddaa.Span
