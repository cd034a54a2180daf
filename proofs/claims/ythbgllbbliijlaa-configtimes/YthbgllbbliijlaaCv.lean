/-
  Whether a configuration's windows may be, and whether a configuration may be, by the program. No condition but those that each theorem states.
-/
import Derived.Test.YthbgllbbliijlaaCt
namespace Go.Proofs.Ythbgllbbliijlaa.Conf
open Go.ChangeShapes Go.WideShapes Go.ChangeAt Go.RowKit
open Go.Proofs.Ythbgllbbliijlaa.Divs Go.Proofs.Ythbgllbbliijlaa.Grow Go.Proofs.Ythbgllbbliijlaa.Zone
open Go.Proofs.Ythbgllbbliijlaa.By (Sk SL)
open Go.Proofs.Ythbgllbbliijlaa.Each
open Go.Proofs.Ythbgllbbliijlaa.Zo Go.Proofs.Ythbgllbbliijlaa.Su Go.Proofs.Ythbgllbbliijlaa.Cf

/-- A window is loaded whole. -/
theorem load_win {ops : Array Oper} {rest : List Oper} {o : Oper} {a : Act} {W : World} {Q : Exit → Act → World → Prop} (y : Wn) (hgd : o.guard = none) (x : Operand) (ho : o.op = .load 35 x) (B off : Nat) (hx : a.eval x = .pointer (some ⟨B, off, none⟩)) (h : W.rangeAt B off (wc y)) (hK : wpList Try.prog ops Q rest (a.put o.dst (.agg #[.int .i64 y.k, .int .i64 y.m, .int .i64 y.p, .int .i64 y.a, .int .i64 y.h, .int .i64 y.u, .int .i64 y.l])) W) : wpList Try.prog ops Q (o :: rest) a W :=
  wpList_load_mid (P := Try.prog) hgd 35 x ho B off hx (wc y) _ h Try.underlying35 rfl (by kernel_rfl) hK

/-- The first k windows may be. -/
def WRel (xs : List Wn) (w : World) (i : Value) (wr : World) : Prop := ∃ k : Nat, k ≤ xs.length ∧ i = .int .i64 (k : Int) ∧ (∀ j x, j < k → xs[j]? = some x → wo x = true) ∧ Later w wr

theorem wa_no {xs : List Wn} {k : Nat} {x : Wn} (h : xs[k]? = some x) (hx : wo x = false) : wa xs = false := by
  unfold wa
  rw [List.all_eq_false]
  exact ⟨x, List.mem_of_getElem? h, by rw [hx]; simp⟩

theorem wa_yes {xs : List Wn} (h : ∀ j x, j < xs.length → xs[j]? = some x → wo x = true) : wa xs = true := by
  unfold wa
  rw [List.all_eq_true]
  intro x hx
  obtain ⟨i, hi⟩ := List.mem_iff_getElem?.1 hx
  exact h i x (List.getElem?_eq_some_iff.1 hi).1 hi

set_option maxHeartbeats 2000000 in
theorem windows_any (c : Cg) (u v : Value) (w : World) (hv : Wk w v c.ws) : Calls Try.prog 37 #[.agg (cc c u v)] w fun e w' => e = .returned (.int .i64 (if wa c.ws = true then 0 else 104)) ∧ Later w w' := by
  obtain ⟨N, hN⟩ : ∃ N : Int, N = if wa c.ws = true then 0 else 104 := ⟨_, rfl⟩
  rw [← hN]
  have HN := Lib.hid hN
  clear hN
  have K := Lib.hid (fun x W => window_any x W)
  obtain ⟨C, hC⟩ : ∃ C, C = cc c u v := ⟨_, rfl⟩
  rw [← hC]
  have f36 : C[36]? = some v := by rw [hC]; rfl
  clear hC
  have HG0 := Lib.hid ((Later.refl w).alloc C 33)
  rcases Nat.eq_zero_or_pos c.ws.length with h0 | h0
  · have HV : Hid (N = 0) := Lib.hid (by rw [HN.out, List.length_eq_zero_iff.1 h0]; rfl)
    obtain ⟨ad, cap, rfl, hm⟩ := hv.len
    rw [h0] at f36
    clear hv h0 hm
    go_enter Try.func37, Try.ntmps37
    go_wp2_with fail
    refine wp_loop_rounds 1 ?_
    rw [rounds_succ]
    go_wp2
    go_ret
    exact ⟨ret1 HV.out.symm, HG0.out⟩
  · obtain ⟨B, off, cap, rfl, hm, hB, hc⟩ := hv.has h0
    have HC := Lib.hid hc
    clear hv hc hB
    obtain ⟨xs, hxs⟩ : ∃ xs, c.ws = xs := ⟨_, rfl⟩
    rw [hxs] at HN HC hm h0 f36
    clear hxs
    obtain ⟨n, hn⟩ : ∃ n, xs.length = n := ⟨_, rfl⟩
    rw [hn] at h0 hm f36
    have HL := Lib.hid hn
    clear hn
    have ad : ∀ j, (⟨B, off, none⟩ : Addr).add j = ⟨B, off + j, none⟩ := Addr.add_mid B off
    go_enter Try.func37, Try.ntmps37
    go_wp2_with fail
    clear f36
    go_loopw [9] (fun i wr => WRel xs w i wr) (fun i _ => n - (intOf i).toNat)
    case atStart => exact ⟨0, by omega, rfl, by omega, HG0.out⟩
    case round =>
      obtain ⟨k, hk, rfl, hj, hg⟩ := hrel
      rw [HL.out] at hk
      have HG := Lib.hid hg
      clear hg
      by_cases hlt : k < n
      · obtain ⟨x, hx⟩ : ∃ x, xs[k]? = some x := ⟨_, List.getElem?_eq_getElem (by rw [HL.out]; exact hlt)⟩
        have hr := HC.out k x hx
        have HR : Hid (wr.rangeAt B (off + k * 7) (wc x)) := Lib.hid (fun j y hy => gsome HG.out (hr j y hy))
        have HJ := Lib.hid hj
        have HX := Lib.hid hx
        clear hr hj hx
        have K' := Lib.hid (fun W => K.out x W)
        unfold wc at K'
        go_wp2_with (refine load_win x rfl (.tmp 11) rfl B (off + k * 7) rfl HR.out ?_)
        refine (K'.out _).mono ?_
        rintro e w1 ⟨rfl, hg1⟩
        have HG1 := Lib.hid (gtrans HG.out (off_put hg1))
        clear hg1
        cases hb : wo x with
        | false =>
          have he : we x = 104 := by unfold we; rw [hb]; rfl
          have HV : Hid (N = 104) := Lib.hid (by rw [HN.out, wa_no HX.out hb]; rfl)
          rw [he]
          clear hb he
          go_wp2_with fail
          go_ret
          exact ⟨ret1 HV.out.symm, HG1.out⟩
        | true =>
          have he : we x = 0 := by unfold we; rw [hb]; rfl
          have HJ' : Hid (∀ j y, j < k + 1 → xs[j]? = some y → wo y = true) := Lib.hid (fun j y hj hy => by
            by_cases e : j = k
            · subst e
              rw [HX.out] at hy
              obtain rfl := Option.some.inj hy
              exact hb
            · exact HJ.out j y (by omega) hy)
          rw [he]
          clear hb he
          go_wp2_with fail
          go_roundw
          case rel => exact ⟨k + 1, by rw [HL.out]; omega, by go_num, HJ'.out, HG1.out⟩
          case measure => simp [intOf]; omega
      · obtain rfl : k = n := by omega
        have HV : Hid (N = 0) := Lib.hid (by rw [HN.out, wa_yes (fun j x hl hx => hj j x (by rw [← HL.out]; exact hl) hx)]; rfl)
        clear hj
        go_wp2_with fail
        go_ret
        exact ⟨ret1 HV.out.symm, HG.out⟩

end Go.Proofs.Ythbgllbbliijlaa.Conf
