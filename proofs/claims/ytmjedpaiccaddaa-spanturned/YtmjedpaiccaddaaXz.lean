/-
  Rows without weights: what the law's modes leaves as it is.  Conditions: as each theorem states.
-/
import Derived.Test.YtmjedpaiccaddaaXy
namespace Go.Proofs.Ytmjedpaiccaddaa.Span
set_option maxRecDepth 100000
open Go.ChangeShapes Go.WideShapes Go.ChangeAt Go.RowKit
open Go.Proofs.Ytmjedpaiccaddaa.Divs Go.Proofs.Ytmjedpaiccaddaa.Grow
open Go.Proofs.Ytmjedpaiccaddaa.By (Sk SL)
open Go.Proofs.Ytmjedpaiccaddaa.Sp

/-- A store of what stands there changes nothing. -/
theorem set_same {W : World} {g i : Nat} {v : Value} (h : W.cell? ⟨g, i, none⟩ = some v) : W.setCell ⟨g, i, none⟩ v = W := by
  have key : (W.setCell ⟨g, i, none⟩ v).heap = W.heap := by
    refine Array.ext_getElem? (fun k => ?_)
    by_cases hk : k = g
    · subst hk
      show (W.heap.modify k _)[k]? = _
      rw [Array.getElem?_modify, if_pos rfl]
      unfold World.cell? at h
      cases ho : W.heap[k]? with
      | none => rfl
      | some o =>
        rw [ho] at h
        cases o with
        | cells cs t f =>
          simp at h
          simp only [Option.map_some, Option.some.injEq]
          have e : cs.setIfInBounds i v = cs := by
            refine Array.ext_getElem? (fun j => ?_)
            rw [Array.getElem?_setIfInBounds]
            split
            · rename_i hj
              subst hj
              rw [h, if_pos (Array.getElem?_eq_some_iff.1 h).1]
            · rfl
          show Obj.cells (cs.setIfInBounds i v) t f = Obj.cells cs t f
          rw [e]
        | _ => simp at h
    · exact Below.heap_setCell _ _ _ _ hk
  show ({ W with heap := (W.setCell ⟨g, i, none⟩ v).heap } : World) = W
  rw [key]

theorem cu_zero {R : List Sp} (h : ∀ x ∈ R, x.p = 0) (a b : Int) : ∀ x ∈ cu R a b, x.p = 0 := by
  intro x hx
  unfold cu at hx
  obtain ⟨y, hy, rfl⟩ := List.mem_map.1 (List.mem_filter.1 hx).1
  exact h y hy

/-- Rows without weights stay as they are, and so does all else. -/
theorem modes_zero (v : Value) (xs : List Sp) (b : Nat) (w : World) (h : WL w b v xs) (hz : ∀ x ∈ xs, x.p = 0) (hl : xs.length ≤ 50000) : Calls Try.prog 19 #[v] w fun e w' => e = .returned v ∧ Later w w' := by
  obtain ⟨n, hn⟩ : ∃ n, xs.length = n := ⟨_, rfl⟩
  have HN := Lib.hid hn
  have HZ := Lib.hid hz
  have HG0 := Lib.hid (Later.refl w)
  rcases Nat.eq_zero_or_pos n with h0 | h0
  · obtain ⟨ad, cap, rfl, hm⟩ := h.ws.len
    rw [hn] at hm h ⊢
    subst h0
    clear h hn hz hl
    go_enter Try.func19, Try.ntmps19
    go_wp2_with fail
    refine wp_loop_rounds 1 ?_
    rw [rounds_succ]
    go_wp2
    go_ret
    exact ⟨rfl, HG0.out⟩
  · rcases h.2 with ⟨_, h0'⟩ | ⟨g, cap, cur, rfl, hg0, hg1, hg2, hg3, _⟩
    · omega
    have HW := Lib.hid h
    rw [hn] at hg2 hl ⊢
    have hcap : cap ≤ 9223372036854775807 := by simpa [maxLen] using hg3
    clear h hn hg0 hg1 hg3 hz
    go_enter Try.func19, Try.ntmps19
    go_wp2_with fail
    go_loopw [3] (fun i wr => ∃ k : Nat, k ≤ n ∧ i = .int .i64 (k : Int) ∧ Later w wr) (fun i _ => n - (intOf i).toNat)
    case atStart => exact ⟨0, by omega, rfl, HG0.out⟩
    case round =>
      obtain ⟨k, hk, rfl, hg⟩ := hrel
      have HG := Lib.hid hg
      have HR := Lib.hid (HW.out.later hg)
      clear hg
      by_cases hlt : k < n
      · obtain ⟨x, hx⟩ : ∃ x, xs[k]? = some x := ⟨_, List.getElem?_eq_getElem (by rw [HN.out]; exact hlt)⟩
        have hkz : (k : Int) < (n : Int) := by omega
        have hp := HZ.out x (List.mem_of_getElem? hx)
        have f3 := World.ownsRow.frozenAt HR.out (k * 4 + 3)
        have c3 := World.ownsRow.cells HR.out (g := g) rfl _ _ ((Conf.sf_get' hx (by omega : 3 < 4)).trans (show (sc x)[3]? = some (.int .i64 x.p) from rfl))
        rw [By.add_zero, hp] at c3
        have HSM := Lib.hid (set_same c3)
        clear hx hp
        go_wp2
        go_roundw
        case rel => exact ⟨k + 1, by omega, by go_num, by rw [HSM.out]; exact HG.out⟩
        case measure => simp [intOf]; omega
      · obtain rfl : k = n := by omega
        have hkz : ¬ (k : Int) < (k : Int) := by omega
        go_wp2
        go_ret
        exact ⟨rfl, HG.out⟩

end Go.Proofs.Ytmjedpaiccaddaa.Span
