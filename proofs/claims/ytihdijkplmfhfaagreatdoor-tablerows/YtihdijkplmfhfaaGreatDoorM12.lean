/-
  Texts of mine, merged: each part says what it holds. Conditions: as each theorem states.
-/
import Derived.Handy
import Derived.Test.YtihdijkplmfhfaaGreatDoorM11

/- Whether a configuration may be, by the reckoning. No condition but those that each theorem states. -/
namespace Go.Proofs.YtihdijkplmfhfaaGreatDoor.Conf
set_option maxRecDepth 100000
set_option maxRecDepth 100000
open Go.ChangeShapes Go.WideShapes Go.ChangeAt Go.RowKit
open Go.Proofs.YtihdijkplmfhfaaGreatDoor.Divs Go.Proofs.YtihdijkplmfhfaaGreatDoor.Grow Go.Proofs.YtihdijkplmfhfaaGreatDoor.Zone
open Go.Proofs.YtihdijkplmfhfaaGreatDoor.By (Sk SL bool_no bool_yes)
open Go.Proofs.YtihdijkplmfhfaaGreatDoor.Each
open Go.Proofs.YtihdijkplmfhfaaGreatDoor.Zo Go.Proofs.YtihdijkplmfhfaaGreatDoor.Su Go.Proofs.YtihdijkplmfhfaaGreatDoor.Cf

/-- The first k windows may be; the configuration lies in the block A. -/
def RRel (xs : List Wn) (C : Array Value) (A : Nat) (w : World) (i : Value) (wr : World) : Prop :=
  ∃ k : Nat, k ≤ xs.length ∧ i = .int .i64 (k : Int) ∧ (∀ j y, j < k → xs[j]? = some y → wo y = true) ∧ At wr A C ∧ Later w wr

set_option maxHeartbeats 4000000 in
theorem rcheck_rest (c : Cg) (u v : Value) (w : World) (hu : Sk .i64 w u c.st) (hv : Wk w v c.ws) (h : so c = true) : Calls Tryz.prog 14 #[.agg (cc c u v)] w fun e w' => e = .returned (.int .i64 (ce c)) ∧ Later w w' := by
  have KS := Lib.hid (fun W (g : Later w W) => rstops_any c u v W (hu.later g))
  have KT := Lib.hid (fun W => rtimes_any c u v W)
  have KZ := Lib.hid (fun W => rcheck_any c.z W)
  have KN := Lib.hid (fun W => Sun.rcheck_tab c.s W)
  have KW := Lib.hid (fun x W => rwindow_any x W)
  obtain ⟨N, hN⟩ : ∃ N, ce c = N := ⟨_, rfl⟩
  rw [hN]
  unfold ce at hN
  rw [if_pos h] at hN
  have HL := Lib.hid ((Later.refl w).alloc (cc c u v) 33)
  have HZ := Lib.hid (fun W b h => cc_zone c u v (W := W) (b := b) h)
  have HS := Lib.hid (fun W b h => cc_sun c u v (W := W) (b := b) h)
  have HA := Lib.hid (At.new w (cc c u v) 33)
  rw [so_iff] at h
  obtain ⟨C, hC⟩ : ∃ C, C = cc c u v := ⟨_, rfl⟩
  rw [← hC] at HL HA HZ HS KS KT ⊢
  have f0 : C[0]? = some (.int .i64 c.f) := by rw [hC]; rfl
  have f1 : C[1]? = some (.int .i64 c.n) := by rw [hC]; rfl
  have f2 : C[2]? = some (.int .i64 c.p) := by rw [hC]; rfl
  have F36 : Hid (C[36]? = some v) := Lib.hid (by rw [hC]; rfl)
  have HC : Hid (C.size = 37) := Lib.hid (by rw [hC]; rfl)
  clear hC
  have HV := Lib.hid hv
  clear hu hv
  generalize to c = b1 at *
  generalize ti c = b2 at *
  generalize ck c.z = x at *
  generalize sk c.s = y at *
  have HN := Lib.hid hN
  clear hN
  generalize c.f = f at *
  generalize c.n = n at *
  generalize c.p = p at *
  generalize c.ws = xs at *
  generalize c.z = z at *
  generalize c.s = s at *
  obtain ⟨h1, h2, h3, h4, h5, h6⟩ := h
  have g1 : ¬ f < 2 := by omega
  have g2 : ¬ f > 64 := by omega
  have g3 : ¬ n < 1 := by omega
  have g4 : ¬ n > 8 := by omega
  have g5 : ¬ p < 0 := by omega
  have g6 : ¬ p ≥ f := by omega
  clear h1 h2 h3 h4 h5 h6
  go_enter Tryz.func14, Tryz.ntmps14
  go_wp2_with (refine load_at C HC.out rfl (.tmp 1) rfl w.heap.size rfl HA.out ?_)
  clear g1 g2 g3 g4 g5 g6 f0 f1 f2
  refine (KS.out _ HL.out).mono ?_
  rintro e w1 ⟨rfl, hg1⟩
  have HL1 := Lib.hid (gtrans HL.out hg1)
  have HA1 := Lib.hid (HA.out.later hg1)
  clear hg1
  cases b1 with
  | false =>
    go_wp2_with fail
    go_ret
    exact ⟨ret1 (by rw [← HN.out]; rfl), HL1.out⟩
  | true =>
  go_wp2_with (refine load_at C HC.out rfl (.tmp 1) rfl w.heap.size rfl HA1.out ?_)
  refine (KT.out _).mono ?_
  rintro e w2 ⟨rfl, hg2⟩
  have HL2 := Lib.hid (gtrans HL1.out hg2)
  have HA2 := Lib.hid (HA1.out.later hg2)
  clear hg2
  cases b2 with
  | false =>
    go_wp2_with fail
    go_ret
    exact ⟨ret1 (by rw [← HN.out]; rfl), HL2.out⟩
  | true =>
  go_wp2_with (refine load_zn z rfl (.tmp 47) rfl w.heap.size 13 rfl (HZ.out _ _ HA2.out) ?_)
  refine (KZ.out _).mono ?_
  rintro e w3 ⟨rfl, hg3⟩
  have HL3 := Lib.hid (gtrans HL2.out hg3)
  have HA3 := Lib.hid (HA2.out.later hg3)
  clear hg3
  by_cases hx : x = 0
  case neg =>
    have t : (x != 0) = true := by simpa using hx
    have HV' : Hid (N = x) := Lib.hid (by rw [← HN.out]; simp [hx])
    clear hx
    go_wp2_with fail
    go_ret
    exact ⟨ret1 HV'.out.symm, HL3.out⟩
  subst hx
  go_wp2_with (refine load_sn s rfl (.tmp 53) rfl w.heap.size 23 rfl (HS.out _ _ HA3.out) ?_)
  refine (KN.out _).mono ?_
  rintro e w4 ⟨rfl, hg4⟩
  have HL4 := Lib.hid (gtrans HL3.out hg4)
  have HA4 := Lib.hid (HA3.out.later hg4)
  clear hg4
  by_cases hy : y = 0
  case neg =>
    have t : (y != 0) = true := by simpa using hy
    have HV' : Hid (N = y) := Lib.hid (by rw [← HN.out]; simp [hy])
    clear hy
    go_wp2_with fail
    go_ret
    exact ⟨ret1 HV'.out.symm, HL4.out⟩
  subst hy
  have HN' : Hid (N = if xs.length ≤ 16 then (if wa xs = true then 0 else 104) else 103) := Lib.hid (by rw [← HN.out]; simp)
  have c36 := HA4.out 36 _ F36.out
  have wv := HV.out.later HL4.out
  rcases Nat.eq_zero_or_pos xs.length with h0 | h0
  · have HV' : Hid (N = 0) := Lib.hid (by rw [HN'.out, List.length_eq_zero_iff.1 h0]; rfl)
    obtain ⟨ad, cap, rfl, hm⟩ := wv.len
    rw [h0] at c36
    clear wv hm h0
    go_wp2_with fail
    refine wp_loop_rounds 1 ?_
    rw [rounds_succ]
    go_wp2
    go_ret
    exact ⟨ret1 HV'.out.symm, HL4.out⟩
  · obtain ⟨B, off, cap, rfl, hm, hB, hc⟩ := wv.has h0
    clear hB wv
    obtain ⟨n, hn⟩ : ∃ n, xs.length = n := ⟨_, rfl⟩
    rw [hn] at h0 hm c36 HN' F36
    have HX := Lib.hid hn
    clear hn
    by_cases h16 : n ≤ 16
    case neg =>
      have t : decide ((n : Int) > 16) = true := by simp; omega
      have HV' : Hid (N = 103) := Lib.hid (by rw [HN'.out, if_neg h16])
      clear hc h16
      go_wp2_with fail
      go_ret
      exact ⟨ret1 HV'.out.symm, HL4.out⟩
    have t : decide ((n : Int) > 16) = false := by simp; omega
    have HR := Lib.hid hc
    have HM : Hid (N = if wa xs = true then 0 else 104) := Lib.hid (by rw [HN'.out, if_pos h16])
    clear hc h16
    have ad : ∀ j, (⟨B, off, none⟩ : Addr).add j = ⟨B, off + j, none⟩ := Addr.add_mid B off
    go_wp2_with fail
    clear t c36
    go_loopw [7] (fun i wr => RRel xs C w.heap.size w4 i wr) (fun i _ => n - (intOf i).toNat)
    case atStart => exact ⟨0, by omega, rfl, by omega, HA4.out, Later.refl _⟩
    case round =>
      obtain ⟨k, hk, rfl, hj, ha, hg⟩ := hrel
      rw [HX.out] at hk
      have HG := Lib.hid hg
      have HA5 := Lib.hid ha
      have HJ := Lib.hid hj
      clear hg ha hj
      have c36 := HA5.out 36 _ F36.out
      by_cases hlt : k < n
      · obtain ⟨x, hx⟩ : ∃ x, xs[k]? = some x := ⟨_, List.getElem?_eq_getElem (by rw [HX.out]; exact hlt)⟩
        have hr := HR.out k x hx
        have HR' : Hid (wr.rangeAt B (off + k * 7) (wc x)) := Lib.hid (fun j y hy => gsome HG.out (hr j y hy))
        have HE := Lib.hid hx
        clear hr hx
        have K' := Lib.hid (fun W => KW.out x W)
        unfold wc at K'
        go_wp2_with (refine load_win x rfl (.tmp 73) rfl B (off + k * 7) rfl HR'.out ?_)
        refine (K'.out _).mono ?_
        rintro e w5 ⟨rfl, hg5⟩
        have HG5 := Lib.hid (gtrans HG.out hg5)
        have HA6 := Lib.hid (HA5.out.later hg5)
        clear hg5 c36
        cases hb : wo x with
        | false =>
          have HV' : Hid (N = 104) := Lib.hid (by rw [HM.out, wa_no HE.out hb]; rfl)
          clear hb
          go_wp2_with fail
          go_ret
          exact ⟨ret1 HV'.out.symm, gtrans HL4.out HG5.out⟩
        | true =>
          have HJ' : Hid (∀ j y, j < k + 1 → xs[j]? = some y → wo y = true) := Lib.hid (fun j y hj hy => by
            by_cases e : j = k
            · subst e
              rw [HE.out] at hy
              obtain rfl := Option.some.inj hy
              exact hb
            · exact HJ.out j y (by omega) hy)
          clear hb
          go_wp2_with fail
          go_roundw
          case rel => exact ⟨k + 1, by rw [HX.out]; omega, by go_num, HJ'.out, HA6.out, HG5.out⟩
          case measure => simp [intOf]; omega
      · obtain rfl : k = n := by omega
        have HV' : Hid (N = 0) := Lib.hid (by rw [HM.out, wa_yes (fun j x hl hx => HJ.out j x (by rw [← HX.out]; exact hl) hx)]; rfl)
        go_wp2_with fail
        go_ret
        exact ⟨ret1 HV'.out.symm, gtrans HL4.out HG.out⟩

theorem rcfg_any (c : Cg) (u v : Value) (w : World) (hu : Sk .i64 w u c.st) (hv : Wk w v c.ws) : Calls Tryz.prog 14 #[.agg (cc c u v)] w fun e w' => e = .returned (.int .i64 (ce c)) ∧ Later w w' := by
  by_cases h : so c = true
  · exact rcheck_rest c u v w hu hv h
  · exact rcheck_size c u v w h

end Go.Proofs.YtihdijkplmfhfaaGreatDoor.Conf

/- Whether two configurations are the same, by the reckoning. No condition but those that each theorem states. -/
namespace Go.Proofs.YtihdijkplmfhfaaGreatDoor.Conf
set_option maxRecDepth 100000
set_option maxRecDepth 100000
open Go.ChangeShapes Go.WideShapes Go.ChangeAt Go.RowKit
open Go.Proofs.YtihdijkplmfhfaaGreatDoor.Divs Go.Proofs.YtihdijkplmfhfaaGreatDoor.Grow Go.Proofs.YtihdijkplmfhfaaGreatDoor.Zone
open Go.Proofs.YtihdijkplmfhfaaGreatDoor.By (Sk SL bool_no bool_yes)
open Go.Proofs.YtihdijkplmfhfaaGreatDoor.Each
open Go.Proofs.YtihdijkplmfhfaaGreatDoor.Zo Go.Proofs.YtihdijkplmfhfaaGreatDoor.Su Go.Proofs.YtihdijkplmfhfaaGreatDoor.Cf

attribute [local go_sem high] equal_win equal_times equal_sun equal_zn

theorem sk_form {W : World} {v : Value} {xs : List Int} (h : Sk .i64 W v xs) : ∃ ad cap, v = .slice ad xs.length cap ∧ xs.length ≤ 9223372036854775807 ∧ (∀ i x, xs[i]? = some x → ∃ B off, ad = some ⟨B, off, none⟩ ∧ W.cell? ⟨B, off + i, none⟩ = some (.int .i64 x)) := by
  obtain ⟨ad, cap, rfl, h1, h2, h3, h4⟩ := h
  exact ⟨ad, cap, rfl, by omega, h4⟩

theorem wk_form {W : World} {v : Value} {xs : List Wn} (h : Wk W v xs) : ∃ ad cap, v = .slice ad xs.length cap ∧ xs.length ≤ 9223372036854775807 ∧ (∀ i x, xs[i]? = some x → ∃ B off, ad = some ⟨B, off, none⟩ ∧ W.rangeAt B (off + i * 7) (wc x)) := by
  rcases Nat.eq_zero_or_pos xs.length with h0 | h0
  · obtain ⟨ad, cap, rfl, hm⟩ := h.len
    refine ⟨ad, cap, rfl, hm, fun i x hx => ?_⟩
    have := (List.getElem?_eq_some_iff.1 hx).1
    omega
  · obtain ⟨b, off, cap, rfl, hm, _, hc⟩ := h.has h0
    exact ⟨_, cap, rfl, hm, fun i x hx => ⟨b, off, rfl, hc i x hx⟩⟩

end Go.Proofs.YtihdijkplmfhfaaGreatDoor.Conf

/- A configuration that is small, and rows of stops and of windows that are appended. Conditions: as each theorem states. -/
namespace Go.Proofs.YtihdijkplmfhfaaGreatDoor.Conf
set_option maxRecDepth 100000
set_option maxRecDepth 100000
open Go.ChangeShapes Go.WideShapes Go.ChangeAt Go.RowKit
open Go.Proofs.YtihdijkplmfhfaaGreatDoor.Divs Go.Proofs.YtihdijkplmfhfaaGreatDoor.Grow Go.Proofs.YtihdijkplmfhfaaGreatDoor.Zone
open Go.Proofs.YtihdijkplmfhfaaGreatDoor.By (Sk SL bool_no bool_yes)
open Go.Proofs.YtihdijkplmfhfaaGreatDoor.Each
open Go.Proofs.YtihdijkplmfhfaaGreatDoor.Zo Go.Proofs.YtihdijkplmfhfaaGreatDoor.Su Go.Proofs.YtihdijkplmfhfaaGreatDoor.Cf

/-- Has one few stops and windows? -/
def fw (c : Cg) : Bool := decide (c.st.length ≤ 80 ∧ c.ws.length ≤ 20)

theorem fw_iff (c : Cg) : fw c = true ↔ c.st.length ≤ 80 ∧ c.ws.length ≤ 20 := by simp [fw]

set_option maxHeartbeats 1000000 in
theorem few_any (c : Cg) (u v : Value) (w : World) (hu : Sk .i64 w u c.st) (hv : Wk w v c.ws) : Calls Tryz.prog 9 #[.agg (cc c u v)] w fun e w' => e = .returned (.bool (fw c)) ∧ Later w w' := by
  have HR := Lib.hid (fw_iff c)
  generalize fw c = R at *
  have HG := Lib.hid ((Later.refl w).alloc (cc c u v) 33)
  obtain ⟨d1, p1, rfl, m1, _⟩ := sk_form hu
  obtain ⟨d2, p2, rfl, m2, _⟩ := wk_form hv
  clear hu hv
  unfold cc at *
  generalize c.st.length = m at *
  generalize c.ws.length = n at *
  by_cases h1 : m ≤ 80
  · have t1 : decide ((m : Int) ≤ 80) = true := by simp; omega
    by_cases h2 : n ≤ 20
    · have t2 : decide ((n : Int) ≤ 20) = true := by simp; omega
      have HV : Hid (R = true) := Lib.hid (HR.out.2 ⟨h1, h2⟩)
      clear h1 h2 HR
      go_enter Tryz.func9, Tryz.ntmps9
      go_wp2_with fail
      go_ret
      exact ⟨retb HV.out.symm, HG.out⟩
    · have t2 : decide ((n : Int) ≤ 20) = false := by simp; omega
      have HV : Hid (R = false) := Lib.hid (by
        cases e : R with
        | false => rfl
        | true => exact absurd (HR.out.1 e).2 h2)
      clear h1 h2 HR
      go_enter Tryz.func9, Tryz.ntmps9
      go_wp2_with fail
      go_ret
      exact ⟨retb HV.out.symm, HG.out⟩
  · have t1 : decide ((m : Int) ≤ 80) = false := by simp; omega
    have HV : Hid (R = false) := Lib.hid (by
      cases e : R with
      | false => rfl
      | true => exact absurd (HR.out.1 e).1 h1)
    clear h1 HR
    go_enter Tryz.func9, Tryz.ntmps9
    go_wp2_with fail
    go_ret
    exact ⟨retb HV.out.symm, HG.out⟩

/-- A slice that owns these windows. -/
def WL (W : World) (b : Nat) (v : Value) (xs : List Wn) : Prop := W.ownsRow b 65 7 v xs.length (fl xs)

theorem WL.later {W W' : World} {b : Nat} {v : Value} {xs : List Wn} (h : WL W b v xs) (g : Later W W') : WL W' b v xs :=
  World.ownsRow.kept h g.grownBy (by cases v.ownBlock <;> simp)

theorem win_grown {w a b : World} {v : Value} {xs : List Wn} (g : Later w a) (f : WL a w.heap.size v xs) (h : a.grownBy b v.ownBlock) : Later w b :=
  Later.of_below (g.below.grown h g.size (fun j e => (World.ownsRow.lt f j e).1))

theorem WL.wk {W : World} {b : Nat} {v : Value} {xs : List Wn} (h : WL W b v xs) : Wk W v xs := by
  rcases h.2 with ⟨hv, h0⟩ | ⟨g, cap, cur, rfl, _, _, h1, h2, _⟩
  · obtain rfl : xs = [] := List.length_eq_zero_iff.1 h0
    exact ⟨none, 0, hv, by simp, by omega, by simp, by simp [fl]⟩
  · refine ⟨_, cap, rfl, h1, by simpa [maxLen] using h2, by simp, fun i x hx => ⟨g, 0, rfl, ?_⟩⟩
    have c := World.ownsRow.cells h (g := g) rfl i x hx
    rw [By.add_zero] at c
    rw [Nat.zero_add]
    exact c

theorem WL.made (W0 w : World) (h : Later W0 w) : WL (w.alloc (.cells #[] 65)) W0.heap.size (.slice (some ⟨w.heap.size, 0, none⟩) 0 0) [] := by
  refine ⟨rfl, .inr ⟨w.heap.size, 0, #[], rfl, h.size, heap_alloc_new _ _, by simp, by simp, by simp, by simp [fl]⟩⟩

theorem ints_made (W0 w : World) (h : Later W0 w) : SL .i64 3 (w.alloc (.cells #[] 3)) W0.heap.size (.slice (some ⟨w.heap.size, 0, none⟩) 0 0) [] := by
  refine ⟨rfl, .inr ⟨w.heap.size, 0, #[], rfl, h.size, heap_alloc_new _ _, by simp, by simp, by simp, by simp⟩⟩

theorem append_ints {w : World} {ops : Array Oper} {rest : List Oper} {o : Oper} {a : Act} {Q : Exit → Act → World → Prop} (hgd : o.guard = none) (s x : Operand)
    (ho : o.op = .call { callee := .builtin .append, args := #[s, x], argTypes := #[22, 22] })
    (W0 : World) (hl : Later W0 w) (v : Value) (xs : List Int) (hs : a.eval s = v) (hown : SL .i64 3 w W0.heap.size v xs)
    (u : Value) (ys : List Int) (hx : a.eval x = u) (hy : Sk .i64 w u ys) (hb : xs.length + ys.length ≤ 100000)
    (h : ∀ v' w', SL .i64 3 w' W0.heap.size v' (xs ++ ys) → Later W0 w' → wpList Tryz.prog ops Q rest (a.put o.dst v') w') : wpList Tryz.prog ops Q (o :: rest) a w := by
  obtain ⟨i0, hi, hz0, hz1, hz2⟩ := info_parts By.info_int
  rcases hy.src with ⟨rfl, rfl⟩ | ⟨ad, cap, rfl, hc⟩
  · refine wpList_append_own_none hgd s x 22 ho W0.heap.size 3 i0 1 Tryz.underlying22 hi v _ _ hs hown hx ?_
    exact h v w (by rw [List.append_nil]; exact hown) hl
  · refine wpList_append_own w hgd s x 22 ho W0.heap.size 3 i0 (.int .i64 0) 1 8 Tryz.underlying22 hi hz0 hz1 hz2 rfl (by decide) v _ _ hs hown ad ys.length cap (ys.map (Value.int .i64)) hx (by simp) hc (by intro u hu; obtain ⟨y, _, rfl⟩ := List.mem_map.1 hu; rfl) (by simp only [maxLen]; omega) (by omega) hl.size ?_
    intro v' w' h1 h2 _
    refine h v' w' ?_ (By.later_grown hl hown h2)
    unfold By.SL
    rw [List.length_append, List.map_append]
    exact h1

theorem info_win : (Tryz.prog.info? 65).map (fun i => (i.zero, i.size, i.bytes)) = some (some (.agg #[.int .i64 0, .int .i64 0, .int .i64 0, .int .i64 0, .int .i64 0, .int .i64 0, .int .i64 0]), 7, 56) := by kernel_rfl

theorem Wk.src {W : World} {v : Value} {xs : List Wn} (h : Wk W v xs) :
    (v = .slice none 0 0 ∧ xs = []) ∨ ∃ a cap, v = .slice (some a) xs.length cap ∧ ∀ j u, (fl xs)[j]? = some u → W.cell? (a.add j) = some u := by
  obtain ⟨ad, cap, rfl, h1, h2, h3, h4⟩ := h
  cases ad with
  | none =>
    obtain rfl := h3 rfl
    obtain rfl := List.length_eq_zero_iff.1 (Nat.le_zero.1 h1)
    exact .inl ⟨rfl, rfl⟩
  | some a =>
    refine .inr ⟨a, cap, rfl, fun j u hu => ?_⟩
    obtain ⟨b, off, e, c⟩ := h4 j u hu
    obtain rfl := Option.some.inj e
    rw [Addr.add_mid]
    exact c

theorem fl_cell (xs : List Wn) : ∀ u ∈ fl xs, u.oneCell' = true := by
  intro u hu
  obtain ⟨x, _, hx⟩ := List.mem_flatMap.1 hu
  simp only [wc, List.mem_cons, List.not_mem_nil, or_false] at hx
  rcases hx with rfl | rfl | rfl | rfl | rfl | rfl | rfl <;> rfl

theorem append_wins {w : World} {ops : Array Oper} {rest : List Oper} {o : Oper} {a : Act} {Q : Exit → Act → World → Prop} (hgd : o.guard = none) (s x : Operand)
    (ho : o.op = .call { callee := .builtin .append, args := #[s, x], argTypes := #[31, 31] })
    (W0 : World) (hl : Later W0 w) (v : Value) (xs : List Wn) (hs : a.eval s = v) (hown : WL w W0.heap.size v xs)
    (u : Value) (ys : List Wn) (hx : a.eval x = u) (hy : Wk w u ys) (hb : xs.length + ys.length ≤ 100000)
    (h : ∀ v' w', WL w' W0.heap.size v' (xs ++ ys) → Later W0 w' → wpList Tryz.prog ops Q rest (a.put o.dst v') w') : wpList Tryz.prog ops Q (o :: rest) a w := by
  obtain ⟨i0, hi, hz0, hz1, hz2⟩ := info_parts info_win
  rcases hy.src with ⟨rfl, rfl⟩ | ⟨ad, cap, rfl, hc⟩
  · refine wpList_append_own_none hgd s x 31 ho W0.heap.size 65 i0 7 Tryz.underlying31 hi v _ _ hs hown hx ?_
    exact h v w (by rw [List.append_nil]; exact hown) hl
  · refine wpList_append_own w hgd s x 31 ho W0.heap.size 65 i0 _ 7 56 Tryz.underlying31 hi hz0 hz1 hz2 rfl (by decide) v _ _ hs hown ad ys.length cap (fl ys) hx (fl_len ys) hc (fl_cell ys) (by simp only [maxLen]; omega) (by omega) hl.size ?_
    intro v' w' h1 h2 _
    refine h v' w' ?_ (win_grown hl hown h2)
    unfold WL
    rw [List.length_append, fl_app]
    exact h1

end Go.Proofs.YtihdijkplmfhfaaGreatDoor.Conf

/- Cells that are set, rows that are kept by that, and a configuration's result out of its cells. Conditions: as each theorem states. -/
namespace Go.Proofs.YtihdijkplmfhfaaGreatDoor.Conf
set_option maxRecDepth 100000
set_option maxRecDepth 100000
open Go.ChangeShapes Go.WideShapes Go.ChangeAt Go.RowKit
open Go.Proofs.YtihdijkplmfhfaaGreatDoor.Divs Go.Proofs.YtihdijkplmfhfaaGreatDoor.Grow Go.Proofs.YtihdijkplmfhfaaGreatDoor.Zone
open Go.Proofs.YtihdijkplmfhfaaGreatDoor.By (Sk SL bool_no bool_yes)
open Go.Proofs.YtihdijkplmfhfaaGreatDoor.Each
open Go.Proofs.YtihdijkplmfhfaaGreatDoor.Zo Go.Proofs.YtihdijkplmfhfaaGreatDoor.Su Go.Proofs.YtihdijkplmfhfaaGreatDoor.Cf

theorem heap_set_other (W : World) (A i g : Nat) (y : Value) (h : g ≠ A) : (W.setCell ⟨A, i, none⟩ y).heap[g]? = W.heap[g]? := by
  simp [World.setCell, Array.getElem?_modify, Ne.symm h]

theorem owns_set {W : World} {b : Nat} {e : TypeId} {n m : Nat} {v : Value} {xs : List Value} (h : W.ownsRow b e n v m xs) {A : Nat} (hA : A < b) (i : Nat) (y : Value) : (W.setCell ⟨A, i, none⟩ y).ownsRow b e n v m xs := by
  refine ⟨h.1, ?_⟩
  rcases h.2 with h | ⟨g, cap, cur, hv, h1, h2, h3⟩
  · exact .inl h
  · exact .inr ⟨g, cap, cur, hv, h1, by rw [heap_set_other _ _ _ _ _ (by omega)]; exact h2, h3⟩

theorem owns_sets {b : Nat} {e : TypeId} {n m : Nat} {v : Value} {xs : List Value} {A : Nat} (hA : A < b) (vs : List Value) : ∀ (W : World) (o : Nat), W.ownsRow b e n v m xs → (W.setCells A o vs).ownsRow b e n v m xs := by
  induction vs with
  | nil => intro W o h; exact h
  | cons y r ih => intro W o h; exact ih _ _ (owns_set h hA _ _)

theorem later_sets {w : World} {A : Nat} (hA : w.heap.size ≤ A) (vs : List Value) : ∀ (W : World) (o : Nat), Later w W → Later w (W.setCells A o vs) := by
  induction vs with
  | nil => intro W o h; exact h
  | cons y r ih => intro W o h; exact ih _ _ (h.setCell hA _)

theorem Row.there {B : Nat} {t : TypeId} {cs : Array Value} {W : World} (h : Row B t cs W) : W.there B 0 cs.size := by
  intro j hj
  rw [Nat.zero_add]
  refine ⟨?_, h.frozen j⟩
  rw [h.cell j (Array.getElem?_eq_getElem hj)]
  rfl

theorem results_at {fn : Func} {p : Tmp} (h : fn.results = #[.cell p 33]) (tmps : Array Value) (W : World) (g : Nat) (C : Array Value) (hC : C.size = 37) (hp : tmps.getD p undef = .pointer (some ⟨g, 0, none⟩)) (hA : At W g C) : (results fn tmps).run Tryz.prog W = .ok (.agg C) W := by
  have hp' : tmps[p]?.getD undef = .pointer (some ⟨g, 0, none⟩) := by simpa using hp
  have hi : (Tryz.prog.info? 33).map (·.size) = some C.toList.length := by
    rw [Array.length_toList, hC]
    kernel_rfl
  have := run_loadVar_mid (P := Tryz.prog) W g 0 33 C.toList _ (fun j v hv => by rw [Nat.zero_add]; exact hA j v (by simpa using hv)) Tryz.underlying33 rfl hi
  simp [results, h, hp', asAddr, this]

end Go.Proofs.YtihdijkplmfhfaaGreatDoor.Conf

/- A configuration in memory of its own. Conditions: as each theorem states. -/
namespace Go.Proofs.YtihdijkplmfhfaaGreatDoor.Conf
set_option maxRecDepth 100000
set_option maxRecDepth 100000
open Go.ChangeShapes Go.WideShapes Go.ChangeAt Go.RowKit
open Go.Proofs.YtihdijkplmfhfaaGreatDoor.Divs Go.Proofs.YtihdijkplmfhfaaGreatDoor.Grow Go.Proofs.YtihdijkplmfhfaaGreatDoor.Zone
open Go.Proofs.YtihdijkplmfhfaaGreatDoor.By (Sk SL bool_no bool_yes)
open Go.Proofs.YtihdijkplmfhfaaGreatDoor.Each
open Go.Proofs.YtihdijkplmfhfaaGreatDoor.Zo Go.Proofs.YtihdijkplmfhfaaGreatDoor.Su Go.Proofs.YtihdijkplmfhfaaGreatDoor.Cf

theorem ints_made' (w : World) (g B : Nat) (hg : g = w.heap.size) (hB : B ≤ w.heap.size) : SL .i64 3 (w.alloc (.cells #[] 3)) B (.slice (some ⟨g, 0, none⟩) 0 0) [] := by
  subst hg
  exact ⟨rfl, .inr ⟨w.heap.size, 0, #[], rfl, hB, heap_alloc_new _ _, by simp, by simp, by simp, by simp⟩⟩

theorem wins_made' (w : World) (g B : Nat) (hg : g = w.heap.size) (hB : B ≤ w.heap.size) : WL (w.alloc (.cells #[] 65)) B (.slice (some ⟨g, 0, none⟩) 0 0) [] := by
  subst hg
  exact ⟨rfl, .inr ⟨w.heap.size, 0, #[], rfl, hB, heap_alloc_new _ _, by simp, by simp, by simp, by simp [fl]⟩⟩

theorem append_ints' {w : World} {ops : Array Oper} {rest : List Oper} {o : Oper} {a : Act} {Q : Exit → Act → World → Prop} (hgd : o.guard = none) (s x : Operand)
    (ho : o.op = .call { callee := .builtin .append, args := #[s, x], argTypes := #[22, 22] })
    (W0 : World) (hl : Later W0 w) (B : Nat) (hB : B = W0.heap.size) (v : Value) (xs : List Int) (hs : a.eval s = v) (hown : SL .i64 3 w B v xs)
    (u : Value) (ys : List Int) (hx : a.eval x = u) (hy : Sk .i64 w u ys) (hb : xs.length + ys.length ≤ 100000)
    (h : ∀ v' w', SL .i64 3 w' B v' (xs ++ ys) → Later W0 w' → wpList Tryz.prog ops Q rest (a.put o.dst v') w') : wpList Tryz.prog ops Q (o :: rest) a w := by
  subst hB
  exact append_ints hgd s x ho W0 hl v xs hs hown u ys hx hy hb h

theorem append_wins' {w : World} {ops : Array Oper} {rest : List Oper} {o : Oper} {a : Act} {Q : Exit → Act → World → Prop} (hgd : o.guard = none) (s x : Operand)
    (ho : o.op = .call { callee := .builtin .append, args := #[s, x], argTypes := #[31, 31] })
    (W0 : World) (hl : Later W0 w) (B : Nat) (hB : B = W0.heap.size) (v : Value) (xs : List Wn) (hs : a.eval s = v) (hown : WL w B v xs)
    (u : Value) (ys : List Wn) (hx : a.eval x = u) (hy : Wk w u ys) (hb : xs.length + ys.length ≤ 100000)
    (h : ∀ v' w', WL w' B v' (xs ++ ys) → Later W0 w' → wpList Tryz.prog ops Q rest (a.put o.dst v') w') : wpList Tryz.prog ops Q (o :: rest) a w := by
  subst hB
  exact append_wins hgd s x ho W0 hl v xs hs hown u ys hx hy hb h

end Go.Proofs.YtihdijkplmfhfaaGreatDoor.Conf

/- A configuration in memory of its own. Conditions: as each theorem states. -/
namespace Go.Proofs.YtihdijkplmfhfaaGreatDoor.Conf
set_option maxRecDepth 100000
set_option maxRecDepth 100000
open Go.ChangeShapes Go.WideShapes Go.ChangeAt Go.RowKit
open Go.Proofs.YtihdijkplmfhfaaGreatDoor.Divs Go.Proofs.YtihdijkplmfhfaaGreatDoor.Grow Go.Proofs.YtihdijkplmfhfaaGreatDoor.Zone
open Go.Proofs.YtihdijkplmfhfaaGreatDoor.By (Sk SL bool_no bool_yes)
open Go.Proofs.YtihdijkplmfhfaaGreatDoor.Each
open Go.Proofs.YtihdijkplmfhfaaGreatDoor.Zo Go.Proofs.YtihdijkplmfhfaaGreatDoor.Su Go.Proofs.YtihdijkplmfhfaaGreatDoor.Cf

theorem owns_base {W : World} {b c : Nat} {e : TypeId} {n m : Nat} {v : Value} {xs : List Value} (h : W.ownsRow b e n v m xs) (hb : c ≤ b) : W.ownsRow c e n v m xs := by
  refine ⟨h.1, ?_⟩
  rcases h.2 with h | ⟨g, cap, cur, hv, h1, h2⟩
  · exact .inl h
  · exact .inr ⟨g, cap, cur, hv, Nat.le_trans hb h1, h2⟩

theorem Row.apart {B : Nat} {t : TypeId} {cs : Array Value} {W : World} (h : Row B t cs W) (A i : Nat) (y : Value) (ha : B ≠ A) : Row B t cs (W.setCell ⟨A, i, none⟩ y) := by
  unfold Row at *
  rw [heap_set_other _ _ _ _ _ ha]
  exact h

set_option maxHeartbeats 2000000 in
theorem own_any (c : Cg) (u v : Value) (w : World) (hu : Sk .i64 w u c.st) (hv : Wk w v c.ws) (hs : c.st.length ≤ 80) (hw : c.ws.length ≤ 20) : Calls Tryz.prog 12 #[.agg (cc c u v)] w fun e w' =>
    ∃ u' v', e = .returned (.agg (cc c u' v')) ∧ SL .i64 3 w' w.heap.size u' c.st ∧ WL w' w.heap.size v' c.ws ∧ Later w w' := by
  obtain ⟨C, hC⟩ : ∃ C, C = cc c u v := ⟨_, rfl⟩
  rw [← hC]
  have f3 : C[3]? = some u := by rw [hC]; rfl
  have F36 : Hid (C[36]? = some v) := Lib.hid (by rw [hC]; rfl)
  have HZ : Hid (C.size = 37) := Lib.hid (by rw [hC]; rfl)
  have HU := Lib.hid hu
  have HV := Lib.hid hv
  have HC := Lib.hid hC
  obtain ⟨d0, q0, rfl, _, _⟩ := sk_form hu
  obtain ⟨d9, q9, rfl, _, _⟩ := wk_form hv
  clear hC hu hv
  go_enter Tryz.func12, Tryz.ntmps12
  go_wp2_with (first
    | (at_builtin; refine append_ints' rfl _ _ rfl _ ((Later.refl _).alloc _ _) (w.heap.size + 1 + 1) (by simp) _ [] rfl (ints_made' _ _ _ (by simp) (by simp)) _ c.st rfl (HU.out.later ((((Later.refl w).alloc _ _).alloc _ _).alloc _ _)) (by simp; omega) ?_; intro u' w1 hs1 hg1; rw [List.nil_append] at hs1; obtain ⟨d1, q1, rfl, _, _⟩ := sk_form (By.SL.sk hs1); have HA1 := Lib.hid (((Row.new w C 33).later ((Later.refl _).alloc _ _)).later hg1); have HR1 := Lib.hid ((Row.new _ _ _).later hg1); have HG1 := Lib.hid (gtrans (((Later.refl w).alloc _ _).alloc _ _) hg1); have HS1 := Lib.hid hs1; have HSZ : Hid (w.heap.size + 2 ≤ w1.heap.size) := Lib.hid (by have := hg1.size; simp at this; omega); clear hs1 hg1; have a3 := HA1.out.cell 3 f3; have a36 := ((HA1.out.set 3 (.slice d1 c.st.length q1)).later ((Later.refl _).alloc #[] 65)).cell 36 (v := .slice d9 c.ws.length q9) (by rw [Array.getElem?_setIfInBounds_ne (by omega)]; exact F36.out); have z3 := HA1.out.frozen 3)
    | (at_builtin; refine append_wins' rfl _ _ rfl _ ((Later.refl _).alloc _ _) _ rfl _ [] rfl (wins_made' _ _ _ (by simp) (by simp)) _ c.ws rfl (HV.out.later ((HG1.out.setCell (Nat.le_refl _) _).alloc _ _)) (by simp; omega) ?_; intro v' w2 hs2 hg2; rw [List.nil_append] at hs2; obtain ⟨d2, q2, rfl, _, _⟩ := wk_form (WL.wk hs2); have HA2 := Lib.hid ((HA1.out.set 3 _).later hg2); have b36 := HA2.out.cell 36 (v := .slice d9 c.ws.length q9) (by rw [Array.getElem?_setIfInBounds_ne (by omega)]; exact F36.out); have y36 := HA2.out.frozen 36; have HS2 := Lib.hid hs2; have HG2 := Lib.hid hg2; clear hs2 hg2; obtain ⟨D, hD⟩ : ∃ D, D = (cc c (.slice d1 c.st.length q1) (.slice d2 c.ws.length q2)) := ⟨_, rfl⟩; have HD := Lib.hid hD; have D37 : Hid (D.size = 37) := Lib.hid (by rw [hD]; rfl); have D1 : Hid (D.all (·.oneCell') = true) := Lib.hid (by rw [hD]; unfold cc; simp [Value.oneCell']); clear hD; have HA3 : Hid (At (w2.setCell ⟨w.heap.size, 36, none⟩ (.slice d2 c.ws.length q2)) w.heap.size D) := Lib.hid (by have h := (HA2.out.set 36 (.slice d2 c.ws.length q2)).at; rw [HC.out] at h; rw [HD.out]; exact h); have HR3 := Lib.hid (((HR1.out.apart w.heap.size 3 (.slice d1 c.st.length q1) (by simp)).later HG2.out).apart w.heap.size 36 (.slice d2 c.ws.length q2) (by simp)); have HT3 : Hid ((w2.setCell ⟨w.heap.size, 36, none⟩ (.slice d2 c.ws.length q2)).there (w.heap.size + 1) 0 D.size) := Lib.hid (by rw [D37.out]; have h := HR3.out.there; simp only [World.size_alloc] at h; exact h); clear HR3 HR1)
    | (refine load_at D D37.out rfl (.tmp 1) rfl w.heap.size rfl HA3.out ?_)
    | (refine wpList_store_mid rfl 33 (.tmp 2) (.tmp 13) rfl (w.heap.size + 1) 0 D rfl rfl HT3.out (by rw [D37.out]; kernel_rfl) D1.out ?_))
  have hAt : At ((w2.setCell ⟨w.heap.size, 36, none⟩ (.slice d2 c.ws.length q2)).setCells (w.heap.size + 1) 0 D.toList) (w.heap.size + 1) D := fun j x hx => by
    have := World.rangeAt_setCells_same (w2.setCell ⟨w.heap.size, 36, none⟩ (.slice d2 c.ws.length q2)) (w.heap.size + 1) 0 D.toList (by rw [Array.length_toList]; exact HT3.out) j x (by simpa using hx)
    rwa [Nat.zero_add] at this
  refine bodyPost_ret (v := .agg D) (results_at (fn := Tryz.f12) Tryz.results12 _ _ (w.heap.size + 1) D D37.out rfl hAt) rfl ?_
  refine ⟨.slice d1 c.st.length q1, .slice d2 c.ws.length q2, by rw [HD.out], ?_, ?_, ?_⟩
  · have h1 : By.SL .i64 3 (w1.setCell ⟨w.heap.size, 3, none⟩ (.slice d1 c.st.length q1)) (w.heap.size + 1 + 1) (.slice d1 c.st.length q1) c.st := owns_set HS1.out (by omega) _ _
    exact owns_base (owns_sets (by omega) _ _ _ (owns_set (h1.later HG2.out) (by omega) _ _)) (by omega)
  · have hsz : w.heap.size + 1 < (w1.setCell ⟨w.heap.size, 3, none⟩ (.slice d1 c.st.length q1)).heap.size := by
      have := HSZ.out
      simp
      omega
    exact owns_base (owns_sets hsz _ _ _ (owns_set HS2.out (by omega) _ _)) (by omega)
  · exact later_sets (by omega) _ _ _ ((gtrans (HG1.out.setCell (Nat.le_refl _) _) HG2.out).setCell (Nat.le_refl _) _)

end Go.Proofs.YtihdijkplmfhfaaGreatDoor.Conf

/- Plain facts on what may be when one thing is changed. Conditions: as each theorem states. -/
namespace Go.Proofs.YtihdijkplmfhfaaGreatDoor.Conf
set_option maxRecDepth 100000
set_option maxRecDepth 100000
open Go.Proofs.YtihdijkplmfhfaaGreatDoor.Zo Go.Proofs.YtihdijkplmfhfaaGreatDoor.Su Go.Proofs.YtihdijkplmfhfaaGreatDoor.Cf

set_option linter.unusedSimpArgs false in
theorem ce_ok (c : Cg) : ce c = 0 ↔ so c = true ∧ to c = true ∧ ti c = true ∧ ck c.z = 0 ∧ sk c.s = 0 ∧ c.ws.length ≤ 16 ∧ wa c.ws = true := by
  unfold ce
  by_cases h1 : so c = true
  · by_cases h2 : to c = true
    · by_cases h3 : ti c = true
      · by_cases h4 : ck c.z = 0
        · by_cases h5 : sk c.s = 0
          · by_cases h6 : c.ws.length ≤ 16
            · by_cases h7 : wa c.ws = true
              · simp only [h1, h2, h3, h4, h5, h6, h7, if_true, true_and]
              · simp only [h1, h2, h3, h4, h5, h6, h7, if_true, if_false, true_and]
                simp
            · simp only [h1, h2, h3, h4, h5, h6, if_true, if_false, true_and, false_and]
              simp
          · simp only [h1, h2, h3, h4, h5, if_true, if_false, true_and, false_and]
        · simp only [h1, h2, h3, h4, if_true, if_false, true_and, false_and]
      · simp only [h1, h2, h3, if_true, if_false, true_and, false_and]
        simp
    · simp only [h1, h2, if_true, if_false, true_and, false_and]
      simp
  · simp only [h1, if_false, false_and]
    simp

/-- With other windows. -/
def cw (c : Cg) (l : List Wn) : Cg := { c with ws := l }

/-- With other stops. -/
def ct (c : Cg) (l : List Int) : Cg := { c with st := l }

/-- With another lead. -/
def cl (c : Cg) (n : Int) : Cg := { c with e := n }

/-- With other floors. -/
def cf (c : Cg) (n : Int) : Cg := { c with f := n }

/-- With another place's zone and sunsets. -/
def cp (c d : Cg) : Cg := { c with z := d.z, s := d.s }

theorem ce_cw (c : Cg) (l : List Wn) (h : ce c = 0) : ce (cw c l) = if l.length ≤ 16 then (if wa l = true then 0 else 104) else 103 := by
  obtain ⟨h1, h2, h3, h4, h5, -, -⟩ := (ce_ok c).mp h
  have e1 : so (cw c l) = true := h1
  have e2 : to (cw c l) = true := h2
  have e3 : ti (cw c l) = true := h3
  have e4 : ck (cw c l).z = 0 := h4
  have e5 : sk (cw c l).s = 0 := h5
  unfold ce
  rw [if_pos e1, if_pos e2, if_pos e3, if_pos e4, if_pos e5]
  rfl

theorem ce_more (c : Cg) (x : Wn) (h : ce c = 0) (hn : c.ws.length + 1 ≤ 16) : ce (cw c (c.ws ++ [x])) = we x := by
  rw [ce_cw c _ h, if_pos (by simpa using hn)]
  have hw := ((ce_ok c).mp h).2.2.2.2.2.2
  unfold wa at hw ⊢
  rw [List.all_append, hw]
  unfold we
  simp

theorem ce_much (c : Cg) (x : Wn) (h : ce c = 0) (hn : ¬ c.ws.length + 1 ≤ 16) : ce (cw c (c.ws ++ [x])) = 103 := by
  rw [ce_cw c _ h, if_neg (by simpa using hn)]

theorem ce_less (c : Cg) (l : List Wn) (h : ce c = 0) (hn : l.length ≤ c.ws.length) (hm : ∀ x ∈ l, x ∈ c.ws) : ce (cw c l) = 0 := by
  obtain ⟨-, -, -, -, -, h6, h7⟩ := (ce_ok c).mp h
  rw [ce_cw c l h, if_pos (Nat.le_trans hn h6), if_pos]
  unfold wa at h7 ⊢
  rw [List.all_eq_true] at h7 ⊢
  exact fun x hx => h7 x (hm x hx)

theorem win_ok (c : Cg) (h : ce c = 0) (i : Nat) (x : Wn) (hx : c.ws[i]? = some x) : we x = 0 := by
  have h7 := ((ce_ok c).mp h).2.2.2.2.2.2
  unfold wa at h7
  rw [List.all_eq_true] at h7
  exact (we_ok x).mpr (h7 x (List.mem_of_getElem? hx))

theorem ce_stop (c : Cg) (l : List Int) (h : so c = true) (hl : l.length < 2) : ce (ct c l) = 101 := by
  have e1 : so (ct c l) = true := h
  have e2 : ¬ to (ct c l) = true := by
    rw [to_iff]
    show ¬ (2 ≤ l.length ∧ _)
    omega
  unfold ce
  rw [if_pos e1, if_neg e2]

theorem ce_floor (c : Cg) : ce (cf c 1) = 100 := by
  unfold ce
  rw [if_neg]
  intro h
  have := (so_floors h).1
  have e : (cf c 1).f = 1 := rfl
  omega

theorem ck_three (z : Zn) : ck z = 0 ∨ ck z = 60 ∨ ck z = 61 ∨ ck z = 62 := by
  unfold ck
  split
  · simp
  · split
    · simp
    · split <;> simp

theorem sk_three (s : Nat → Int) : sk s = 0 ∨ sk s = 70 ∨ sk s = 71 := by
  unfold sk
  split
  · split <;> simp
  · simp

theorem ce_first (c d : Cg) (h : ce c = 100 ∨ ce c = 101 ∨ ce c = 102) : ce (cp c d) = ce c := by
  have e1 : so (cp c d) = so c := rfl
  have e2 : to (cp c d) = to c := rfl
  have e3 : ti (cp c d) = ti c := rfl
  unfold ce at h ⊢
  rw [e1, e2, e3]
  by_cases h1 : so c = true
  · by_cases h2 : to c = true
    · by_cases h3 : ti c = true
      · exfalso
        rw [if_pos h1, if_pos h2, if_pos h3] at h
        have := ck_three c.z
        have := sk_three c.s
        split at h
        · split at h
          · split at h
            · split at h <;> omega
            · omega
          · omega
        · omega
      · rw [if_pos h1, if_pos h2, if_neg h3, if_pos h1, if_pos h2, if_neg h3]
    · rw [if_pos h1, if_neg h2, if_pos h1, if_neg h2]
  · rw [if_neg h1, if_neg h1]

theorem ce_place (c d : Cg) (h : ce c = 0) (g : ce d = 0) : ce (cp c d) = 0 := by
  obtain ⟨h1, h2, h3, -, -, h6, h7⟩ := (ce_ok c).mp h
  obtain ⟨-, -, -, h4, h5, -, -⟩ := (ce_ok d).mp g
  exact (ce_ok _).mpr ⟨h1, h2, h3, h4, h5, h6, h7⟩

/-- The least dwell. -/
def ls (c : Cg) : Int := min (min c.d c.r) c.q

theorem ls_in (c : Cg) (h : ce c = 0) : 1 ≤ ls c ∧ ls c ≤ 60 := by
  have h3 := ((ce_ok c).mp h).2.2.1
  simp only [ti, Bool.and_eq_true, bt_iff] at h3
  unfold ls
  omega

theorem ce_lead (c : Cg) (n : Int) (h : ce c = 0) : ce (cl c n) = if 1 ≤ n ∧ n ≤ ls c then 0 else 102 := by
  obtain ⟨h1, h2, h3, h4, h5, h6, h7⟩ := (ce_ok c).mp h
  have e1 : so (cl c n) = true := h1
  have e2 : to (cl c n) = true := h2
  have e3 : ti (cl c n) = true ↔ 1 ≤ n ∧ n ≤ ls c := by
    unfold ls
    simp only [ti, Bool.and_eq_true, bt_iff] at h3 ⊢
    simp only [cl]
    omega
  by_cases g : 1 ≤ n ∧ n ≤ ls c
  · rw [if_pos g]
    exact (ce_ok _).mpr ⟨e1, e2, e3.mpr g, h4, h5, h6, h7⟩
  · rw [if_neg g]
    unfold ce
    rw [if_pos e1, if_pos e2, if_neg (fun x => g (e3.mp x))]

theorem sq_self (s : Nat → Int) : sq s s = true := by simp [sq]

theorem sb_self (c : Cg) (l : List Wn) : sb c (cw c l) = true := by simp [sb, tq, cw]

theorem zq_self (z : Zn) : zq z z = true := by simp [zq]

theorem tt_cw (c : Cg) (l : List Wn) : tt c (cw c l) = decide (c.ws = l) := by
  show (zq c.z c.z && (sq c.s c.s && ((c.ab == c.ab) && decide (c.ws = l)))) = _
  rw [zq_self, sq_self, beq_self_eq_true, Bool.true_and, Bool.true_and, Bool.true_and]

theorem same_cw (c : Cg) (l : List Wn) : (sb c (cw c l) && tt c (cw c l)) = decide (c.ws = l) := by
  rw [sb_self, tt_cw, Bool.true_and]

theorem ft_cw (c : Cg) (l : List Wn) (h : ce c = 0) (g : ce (cw c l) = 0) : ft c (cw c l) = true := by
  unfold ft
  rw [h, g]
  simp [cw]

theorem ft_not (c d : Cg) (h : ce d ≠ 0) : ft c d = false := by
  unfold ft
  have : (ce d == 0) = false := by simpa using h
  rw [this]
  simp

/-- The example's sunsets. -/
def ps : Nat → Int := fun i => [1000, 1050, 1100, 1150, 1180, 1200, 1170, 1130, 1080, 1030, 1000, 990].getD i 0

/-- The example's window. -/
def pw : Wn := ⟨1, 2, 0, 65, 0, 1200, 600⟩

/-- The example. -/
def pc : Cg := ⟨4, 1, 0, [0, 1, 3], 2, 1, 2, 4, 1, 2, 3, 5, 3, ⟨0, 0, ⟨0, 0, 0, 0⟩, ⟨0, 0, 0, 0⟩⟩, ps, false, [pw]⟩

/-- No configuration. -/
def oc : Cg := ⟨0, 0, 0, [], 0, 0, 0, 0, 0, 0, 0, 0, 0, ⟨0, 0, ⟨0, 0, 0, 0⟩, ⟨0, 0, 0, 0⟩⟩, fun _ => 0, false, []⟩

/-- No window. -/
def ow : Wn := ⟨0, 0, 0, 0, 0, 0, 0⟩

theorem pc_ok : ce pc = 0 := by
  refine (ce_ok _).mpr ⟨by decide, by decide, by decide, by decide, ?_, by decide, by decide⟩
  refine (sk_ok _).mpr ⟨?_, ?_⟩
  · unfold okM; decide
  · unfold okS; decide

theorem pc_self : (sb pc pc && tt pc pc) = true := by
  show (sb pc (cw pc pc.ws) && tt pc (cw pc pc.ws)) = true
  rw [same_cw]
  simp

theorem pc_fits : ft pc pc = true := by
  unfold ft
  rw [pc_ok]
  rfl

theorem pc_oc : (sb pc oc && tt pc oc) = false := by rfl

theorem pw_ok : we pw = 0 := by decide

theorem ow_not : we ow = 104 := by decide

end Go.Proofs.YtihdijkplmfhfaaGreatDoor.Conf

/- Configurations that are stored whole, and the example. Conditions: as each theorem states. -/
namespace Go.Proofs.YtihdijkplmfhfaaGreatDoor.Conf
set_option maxRecDepth 100000
set_option maxRecDepth 100000
open Go.ChangeShapes Go.WideShapes Go.ChangeAt Go.RowKit
open Go.Proofs.YtihdijkplmfhfaaGreatDoor.Divs Go.Proofs.YtihdijkplmfhfaaGreatDoor.Grow Go.Proofs.YtihdijkplmfhfaaGreatDoor.Zone
open Go.Proofs.YtihdijkplmfhfaaGreatDoor.By (Sk SL bool_no bool_yes)
open Go.Proofs.YtihdijkplmfhfaaGreatDoor.Each
open Go.Proofs.YtihdijkplmfhfaaGreatDoor.Zo Go.Proofs.YtihdijkplmfhfaaGreatDoor.Su Go.Proofs.YtihdijkplmfhfaaGreatDoor.Cf

/-- Cells that are set, from one on. -/
def sets (cs : Array Value) (o : Nat) : List Value → Array Value
  | [] => cs
  | v :: r => sets (cs.setIfInBounds o v) (o + 1) r

theorem Row.sets {B : Nat} {t : TypeId} (vs : List Value) : ∀ (W : World) (cs : Array Value) (o : Nat), Row B t cs W → Row B t (Conf.sets cs o vs) (W.setCells B o vs) := by
  induction vs with
  | nil => intro W cs o h; exact h
  | cons y r ih => intro W cs o h; exact ih _ _ _ (h.set o y)

theorem sets_get (vs : List Value) : ∀ (cs : Array Value) (o i : Nat), o + vs.length ≤ cs.size → (sets cs o vs)[i]? = if o ≤ i ∧ i < o + vs.length then vs[i - o]? else cs[i]? := by
  induction vs with
  | nil =>
    intro cs o i h
    rw [if_neg (by simp)]
    rfl
  | cons y r ih =>
    intro cs o i h
    simp only [List.length_cons] at h
    show (sets (cs.setIfInBounds o y) (o + 1) r)[i]? = _
    rw [ih _ _ _ (by simp; omega)]
    by_cases e : i = o
    · subst e
      rw [if_neg (by omega), if_pos (by simp), Nat.sub_self]
      simp [show i < cs.size by omega]
    · rw [Array.getElem?_setIfInBounds_ne (Ne.symm e)]
      by_cases g : o + 1 ≤ i ∧ i < o + 1 + r.length
      · rw [if_pos g, if_pos (by simp; omega)]
        obtain ⟨k, rfl⟩ : ∃ k, i = o + 1 + k := ⟨i - (o + 1), by omega⟩
        have e1 : o + 1 + k - (o + 1) = k := by omega
        have e2 : o + 1 + k - o = k + 1 := by omega
        rw [e1, e2, List.getElem?_cons_succ]
      · rw [if_neg g, if_neg (by simp; omega)]

theorem sets_all (cs D : Array Value) (h : cs.size = D.size) : sets cs 0 D.toList = D := by
  apply Array.ext_getElem?
  intro i
  rw [sets_get _ _ _ _ (by simp; omega)]
  by_cases g : 0 ≤ i ∧ i < 0 + D.toList.length
  · rw [if_pos g]
    simp
  · rw [if_neg g]
    simp only [Array.length_toList] at g
    rw [Array.getElem?_eq_none (by omega), Array.getElem?_eq_none (by omega)]

theorem heap_sets_other {A g : Nat} (h : g ≠ A) (vs : List Value) : ∀ (W : World) (o : Nat), (W.setCells A o vs).heap[g]? = W.heap[g]? := by
  induction vs with
  | nil => intro W o; rfl
  | cons y r ih => intro W o; exact (ih _ _).trans (heap_set_other _ _ _ _ _ h)

/-- A configuration is stored whole. -/
theorem store_row {ops : Array Oper} {rest : List Oper} {o : Oper} {a : Act} {W : World} {Q : Exit → Act → World → Prop} (hgd : o.guard = none) (x y : Operand) (ho : o.op = .store 33 x y) (g : Nat) (hx : a.eval x = .pointer (some ⟨g, 0, none⟩)) (D : Array Value) (hD : D.size = 37) (hone : D.all (·.oneCell') = true) (hy : a.eval y = .agg D)
    (cs : Array Value) {t : TypeId} (hcs : cs.size = 37) (hR : Row g t cs W) (w0 : World) (hL : Later w0 W) (hB : w0.heap.size ≤ g) (hK : ∀ W', Row g t D W' → Later w0 W' → (∀ b, b ≠ g → W'.heap[b]? = W.heap[b]?) → wpList Tryz.prog ops Q rest (a.put o.dst undef) W') : wpList Tryz.prog ops Q (o :: rest) a W := by
  refine wpList_store_mid hgd 33 x y ho g 0 D hx hy ?_ (by rw [hD]; kernel_rfl) hone ?_
  · have := hR.there
    rw [hcs] at this
    rw [hD]
    exact this
  · refine hK _ ?_ (later_sets hB _ _ _ hL) (fun b hb => heap_sets_other hb _ _ _)
    have := Row.sets D.toList W cs 0 hR
    rwa [sets_all cs D (by omega)] at this

theorem row_new' (W : World) (cs : Array Value) (t : TypeId) (g : Nat) (hg : g = W.heap.size) : Row g t cs (W.alloc (.cells cs t)) := by
  subst hg
  exact Row.new W cs t

theorem cc_size (c : Cg) (u v : Value) : (cc c u v).size = 37 := rfl

theorem cc_one (c : Cg) (d d' : Option Addr) (n q n' q' : Nat) : (cc c (.slice d n q) (.slice d' n' q')).all (·.oneCell') = true := by
  unfold cc
  simp [Value.oneCell']

set_option maxHeartbeats 1000000 in
theorem plain_any (w : World) : Calls Tryz.prog 26 #[] w fun e w' => ∃ u v, e = .returned (.agg (cc pc u v)) ∧ Sk .i64 w' u pc.st ∧ Wk w' v pc.ws ∧ Later w w' := by
  obtain ⟨D, hD⟩ : ∃ D, D = cc pc (.slice (some ⟨w.heap.size + 1, 0, none⟩) 3 3) (.slice (some ⟨w.heap.size + 1 + 1, 0, none⟩) 1 1) := ⟨_, rfl⟩
  have HD := Lib.hid hD
  have D37 : Hid (D.size = 37) := Lib.hid (by rw [hD]; rfl)
  have D1 : Hid (D.all (·.oneCell') = true) := Lib.hid (by rw [hD]; exact cc_one _ _ _ _ _ _ _)
  clear hD
  go_enter Tryz.func26, Tryz.ntmps26
  go_wp2_with (refine store_row rfl (.tmp 0) (.tmp 6) rfl w.heap.size rfl D D37.out D1.out (by rw [HD.out]; rfl) _ rfl (((Row.new w _ _).later ((Later.refl _).alloc _ _)).later ((Later.refl _).alloc _ _)) w ((((Later.refl w).alloc _ _).alloc _ _).alloc _ _) (Nat.le_refl _) ?_; intro W' hR hL ho)
  refine bodyPost_ret (v := .agg D) (results_at (fn := Tryz.f26) Tryz.results26 _ _ w.heap.size D D37.out rfl hR.at) rfl ?_
  refine ⟨_, _, by rw [HD.out], ?_, ?_, hL⟩
  · have h1 : Row (w.heap.size + 1) 3 #[.int .i64 0, .int .i64 1, .int .i64 3] W' := by
      unfold Row
      rw [ho _ (by omega)]
      exact (row_new' _ _ _ _ (by simp)).later ((Later.refl _).alloc _ _)
    refine Sk.row (xs := pc.st) (cap := 3) h1 ?_ (by decide) (by decide)
    intro i x hx
    match i with
    | 0 => simp [pc] at hx; subst hx; rfl
    | 1 => simp [pc] at hx; subst hx; rfl
    | 2 => simp [pc] at hx; subst hx; rfl
    | i + 3 => simp [pc] at hx
  · have h2 : Row (w.heap.size + 1 + 1) 65 (wc pw).toArray W' := by
      unfold Row
      rw [ho _ (by omega)]
      exact row_new' _ _ _ _ (by simp)
    refine ⟨_, 1, rfl, by decide, by decide, by simp, fun i x hx => ⟨_, 0, rfl, ?_⟩⟩
    rw [Nat.zero_add]
    refine h2.cell i ?_
    have e : fl pc.ws = wc pw := rfl
    rw [e] at hx
    simpa using hx

end Go.Proofs.YtihdijkplmfhfaaGreatDoor.Conf

/- The example's answers. No condition but those that each theorem states. -/
namespace Go.Proofs.YtihdijkplmfhfaaGreatDoor.Conf
set_option maxRecDepth 100000
set_option maxRecDepth 100000
open Go.ChangeShapes Go.WideShapes Go.ChangeAt Go.RowKit
open Go.Proofs.YtihdijkplmfhfaaGreatDoor.Divs Go.Proofs.YtihdijkplmfhfaaGreatDoor.Grow Go.Proofs.YtihdijkplmfhfaaGreatDoor.Zone
open Go.Proofs.YtihdijkplmfhfaaGreatDoor.By (Sk SL bool_no bool_yes)
open Go.Proofs.YtihdijkplmfhfaaGreatDoor.Each
open Go.Proofs.YtihdijkplmfhfaaGreatDoor.Zo Go.Proofs.YtihdijkplmfhfaaGreatDoor.Su Go.Proofs.YtihdijkplmfhfaaGreatDoor.Cf

/-- A window is loaded, by an operation that is wanted. -/
theorem load_win_in {ops : Array Oper} {rest : List Oper} {o : Oper} {a : Act} {W : World} {Q : Exit → Act → World → Prop} (y : Wn) (hw : Region.wanted o (yielded ops a.tmps) = true) (x : Operand) (ho : o.op = .load 65 x) (B off : Nat) (hx : a.eval x = .pointer (some ⟨B, off, none⟩)) (h : W.rangeAt B off (wc y)) (hK : wpList Tryz.prog ops Q rest (a.put o.dst (.agg (wc y).toArray)) W) : wpList Tryz.prog ops Q (o :: rest) a W := by
  unfold wpList
  rw [if_pos hw]
  exact .inl (wp_load_mid (P := Tryz.prog) 65 x ho B off hx (wc y) _ h Tryz.underlying65 rfl (by kernel_rfl) hK)

theorem oc_st (w : World) : Sk .i64 w (.slice none 0 0) oc.st := By.sk_nil _ _

theorem oc_ws (w : World) : Wk w (.slice none 0 0) oc.ws := ⟨none, 0, rfl, by decide, by omega, by simp, by simp [oc, fl]⟩

end Go.Proofs.YtihdijkplmfhfaaGreatDoor.Conf

/- Configurations by their cells: what the functions answer of them. Conditions: as each theorem states. -/
namespace Go.Proofs.YtihdijkplmfhfaaGreatDoor.Conf
set_option maxRecDepth 100000
set_option maxRecDepth 100000
open Go.ChangeShapes Go.WideShapes Go.ChangeAt Go.RowKit
open Go.Proofs.YtihdijkplmfhfaaGreatDoor.Divs Go.Proofs.YtihdijkplmfhfaaGreatDoor.Grow Go.Proofs.YtihdijkplmfhfaaGreatDoor.Zone
open Go.Proofs.YtihdijkplmfhfaaGreatDoor.By (Sk SL bool_no bool_yes)
open Go.Proofs.YtihdijkplmfhfaaGreatDoor.Each
open Go.Proofs.YtihdijkplmfhfaaGreatDoor.Zo Go.Proofs.YtihdijkplmfhfaaGreatDoor.Su Go.Proofs.YtihdijkplmfhfaaGreatDoor.Cf

/-- D are the cells of c. -/
def Is (W : World) (D : Array Value) (c : Cg) : Prop := ∃ u v, D = cc c u v ∧ Sk .i64 W u c.st ∧ Wk W v c.ws

theorem Is.later {W W' : World} {D : Array Value} {c : Cg} (h : Is W D c) (g : Later W W') : Is W' D c := by
  obtain ⟨u, v, rfl, hu, hv⟩ := h
  exact ⟨u, v, rfl, hu.later g, hv.later g⟩

theorem Is.size {W : World} {D : Array Value} {c : Cg} (h : Is W D c) : D.size = 37 := by
  obtain ⟨u, v, rfl, hu, hv⟩ := h
  rfl

theorem Is.one {W : World} {D : Array Value} {c : Cg} (h : Is W D c) : D.all (·.oneCell') = true := by
  obtain ⟨u, v, rfl, hu, hv⟩ := h
  obtain ⟨d0, q0, rfl, _, _⟩ := sk_form hu
  obtain ⟨d1, q1, rfl, _, _⟩ := wk_form hv
  exact cc_one _ _ _ _ _ _ _

/-- D are the cells of c, and its slices are owned from B on. -/
def Own (W : World) (B : Nat) (D : Array Value) (c : Cg) : Prop := ∃ u v, D = cc c u v ∧ SL .i64 3 W B u c.st ∧ WL W B v c.ws

theorem Own.is {W : World} {B : Nat} {D : Array Value} {c : Cg} (h : Own W B D c) : Is W D c := by
  obtain ⟨u, v, rfl, hu, hv⟩ := h
  exact ⟨u, v, rfl, By.SL.sk hu, WL.wk hv⟩

theorem Own.later {W W' : World} {B : Nat} {D : Array Value} {c : Cg} (h : Own W B D c) (g : Later W W') : Own W' B D c := by
  obtain ⟨u, v, rfl, hu, hv⟩ := h
  exact ⟨u, v, rfl, hu.later g, hv.later g⟩

theorem few_of {W : World} {D : Array Value} {c : Cg} (h : Is W D c) : Calls Tryz.prog 9 #[.agg D] W fun e w' => e = .returned (.bool (fw c)) ∧ Later W w' := by
  obtain ⟨u, v, rfl, hu, hv⟩ := h
  exact few_any c u v W hu hv

theorem check_of {W : World} {D : Array Value} {c : Cg} (h : Is W D c) : Calls Tryz.prog 27 #[.agg D] W fun e w' => e = .returned (.int .i64 (ce c)) ∧ Later W w' := by
  obtain ⟨u, v, rfl, hu, hv⟩ := h
  exact check_any c u v W hu hv

theorem rcheck_of {W : World} {D : Array Value} {c : Cg} (h : Is W D c) : Calls Tryz.prog 14 #[.agg D] W fun e w' => e = .returned (.int .i64 (ce c)) ∧ Later W w' := by
  obtain ⟨u, v, rfl, hu, hv⟩ := h
  exact rcfg_any c u v W hu hv

theorem own_of {W : World} {D : Array Value} {c : Cg} (h : Is W D c) (hf : fw c = true) : Calls Tryz.prog 12 #[.agg D] W fun e w' => ∃ E, e = .returned (.agg E) ∧ Own w' W.heap.size E c ∧ Later W w' := by
  obtain ⟨u, v, rfl, hu, hv⟩ := h
  obtain ⟨h1, h2⟩ := (fw_iff c).mp hf
  refine (own_any c u v W hu hv h1 h2).mono ?_
  rintro e w' ⟨u', v', rfl, hs, hw, hg⟩
  exact ⟨_, rfl, ⟨u', v', rfl, hs, hw⟩, hg⟩

theorem cc_lead (c : Cg) (u v : Value) (n : Int) : (cc c u v).setIfInBounds 8 (.int .i64 n) = cc (cl c n) u v := by simp [cc, cl]

theorem cc_floors (c : Cg) (u v : Value) (n : Int) : (cc c u v).setIfInBounds 0 (.int .i64 n) = cc (cf c n) u v := by simp [cc, cf]

set_option maxHeartbeats 2000000 in
theorem cc_place (c d : Cg) (u v : Value) : sets (sets (cc c u v) 13 (zc d.z).toList) 23 (Sun.sc d.s).toList = cc (cp c d) u v := by
  simp [sets, cc, cp, zc, Sun.sc]

theorem Is.lead {W : World} {D : Array Value} {c : Cg} (h : Is W D c) (n : Int) : Is W (D.setIfInBounds 8 (.int .i64 n)) (cl c n) := by
  obtain ⟨u, v, rfl, hu, hv⟩ := h
  exact ⟨u, v, cc_lead c u v n, hu, hv⟩

theorem Is.floors {W : World} {D : Array Value} {c : Cg} (h : Is W D c) (n : Int) : Is W (D.setIfInBounds 0 (.int .i64 n)) (cf c n) := by
  obtain ⟨u, v, rfl, hu, hv⟩ := h
  exact ⟨u, v, cc_floors c u v n, hu, hv⟩

theorem Is.place {W : World} {D : Array Value} {c : Cg} (h : Is W D c) (d : Cg) : Is W (sets (sets D 13 (zc d.z).toList) 23 (Sun.sc d.s).toList) (cp c d) := by
  obtain ⟨u, v, rfl, hu, hv⟩ := h
  exact ⟨u, v, cc_place c d u v, hu, hv⟩

end Go.Proofs.YtihdijkplmfhfaaGreatDoor.Conf

/- The kinds of windows, as the program makes them: a value of an interface, by the window's kind. No condition but those that each theorem states. -/
namespace Go.Proofs.YtihdijkplmfhfaaGreatDoor.Window
set_option maxRecDepth 100000
set_option maxRecDepth 100000
open Go.ChangeShapes Go.WideShapes Go.ChangeAt Go.RowKit
open Go.Proofs.YtihdijkplmfhfaaGreatDoor.Divs Go.Proofs.YtihdijkplmfhfaaGreatDoor.Grow
open Go.Proofs.YtihdijkplmfhfaaGreatDoor.Greg (Laid)
open Go.Proofs.YtihdijkplmfhfaaGreatDoor.Zo Go.Proofs.YtihdijkplmfhfaaGreatDoor.Zone Go.Proofs.YtihdijkplmfhfaaGreatDoor.Win
open Go.Proofs.YtihdijkplmfhfaaGreatDoor.Cf (Cg Wn)
open Go.Proofs.YtihdijkplmfhfaaGreatDoor.Conf (wc cc Is)
open Go.Proofs.YtihdijkplmfhfaaGreatDoor.Fe (kd rst)
open Go.Proofs.YtihdijkplmfhfaaGreatDoor.Su (mV mE sk sa)

/-- Hours: a zone, a minute, a length. -/
def hk (z : Zn) (u l : Int) : Array Value := #[.int .i64 z.b, .int .i64 z.s, .int .i64 z.p.m, .int .i64 z.p.k, .int .i64 z.p.v, .int .i64 z.p.u, .int .i64 z.q.m, .int .i64 z.q.k, .int .i64 z.q.v, .int .i64 z.q.u, .int .i64 u, .int .i64 l]

/-- A window on weekdays, or on one day. -/
def wk (z : Zn) (u l a : Int) : Array Value := #[.int .i64 z.b, .int .i64 z.s, .int .i64 z.p.m, .int .i64 z.p.k, .int .i64 z.p.v, .int .i64 z.p.u, .int .i64 z.q.m, .int .i64 z.q.k, .int .i64 z.q.v, .int .i64 z.q.u, .int .i64 u, .int .i64 l, .int .i64 a]

/-- A window by a feast. -/
def fk (z : Zn) (u l a h : Int) (ab : Bool) : Array Value := #[.int .i64 z.b, .int .i64 z.s, .int .i64 z.p.m, .int .i64 z.p.k, .int .i64 z.p.v, .int .i64 z.p.u, .int .i64 z.q.m, .int .i64 z.q.k, .int .i64 z.q.v, .int .i64 z.q.u, .int .i64 u, .int .i64 l, .int .i64 a, .int .i64 h, .bool ab]

/-- A window about days of rest. -/
def rk (z : Zn) (s : Nat → Int) (ab : Bool) (u l : Int) : Array Value := #[.int .i64 z.b, .int .i64 z.s, .int .i64 z.p.m, .int .i64 z.p.k, .int .i64 z.p.v, .int .i64 z.p.u, .int .i64 z.q.m, .int .i64 z.q.k, .int .i64 z.q.v, .int .i64 z.q.u, .int .i64 (s 0), .int .i64 (s 1), .int .i64 (s 2), .int .i64 (s 3), .int .i64 (s 4), .int .i64 (s 5), .int .i64 (s 6), .int .i64 (s 7), .int .i64 (s 8), .int .i64 (s 9), .int .i64 (s 10), .int .i64 (s 11), .bool ab, .int .i64 u, .int .i64 l]

theorem kind_weekly (c : Cg) (u v : Value) (x : Wn) (w : World) (hk : x.k = 1) : Calls Tryz.prog 125 #[.agg (cc c u v), .agg (wc x).toArray] w fun e w' => e = .returned (.iface 165 (.agg (wk c.z x.u x.l x.a))) ∧ Later w w' := by
  have t1 : (x.k == 1) = true := by simp [hk]
  have t2 : (x.k == 2) = false := by simp [hk]
  have t3 : (x.k == 3) = false := by simp [hk]
  clear hk
  unfold cc wc
  first | unfold wk | unfold fk | unfold rk
  go_enter Tryz.func125, Tryz.ntmps125
  go_wp2_with fail
  go_ret
  exact ⟨rfl, (((Later.refl w).alloc _ _).alloc _ _).alloc _ _⟩

theorem kind_dated (c : Cg) (u v : Value) (x : Wn) (w : World) (hk : x.k = 2) : Calls Tryz.prog 125 #[.agg (cc c u v), .agg (wc x).toArray] w fun e w' => e = .returned (.iface 167 (.agg (wk c.z x.u x.l x.a))) ∧ Later w w' := by
  have t1 : (x.k == 1) = false := by simp [hk]
  have t2 : (x.k == 2) = true := by simp [hk]
  have t3 : (x.k == 3) = false := by simp [hk]
  clear hk
  unfold cc wc
  first | unfold wk | unfold fk | unfold rk
  go_enter Tryz.func125, Tryz.ntmps125
  go_wp2_with fail
  go_ret
  exact ⟨rfl, (((Later.refl w).alloc _ _).alloc _ _).alloc _ _⟩

theorem kind_festive (c : Cg) (u v : Value) (x : Wn) (w : World) (hk : x.k = 3) : Calls Tryz.prog 125 #[.agg (cc c u v), .agg (wc x).toArray] w fun e w' => e = .returned (.iface 169 (.agg (fk c.z x.u x.l x.a x.h c.ab))) ∧ Later w w' := by
  have t1 : (x.k == 1) = false := by simp [hk]
  have t2 : (x.k == 2) = false := by simp [hk]
  have t3 : (x.k == 3) = true := by simp [hk]
  clear hk
  unfold cc wc
  first | unfold wk | unfold fk | unfold rk
  go_enter Tryz.func125, Tryz.ntmps125
  go_wp2_with fail
  go_ret
  exact ⟨rfl, (((Later.refl w).alloc _ _).alloc _ _).alloc _ _⟩

theorem kind_restful (c : Cg) (u v : Value) (x : Wn) (w : World) (hk : x.k = 4) : Calls Tryz.prog 125 #[.agg (cc c u v), .agg (wc x).toArray] w fun e w' => e = .returned (.iface 171 (.agg (rk c.z c.s c.ab x.u x.l))) ∧ Later w w' := by
  have t1 : (x.k == 1) = false := by simp [hk]
  have t2 : (x.k == 2) = false := by simp [hk]
  have t3 : (x.k == 3) = false := by simp [hk]
  clear hk
  unfold cc wc
  first | unfold wk | unfold fk | unfold rk
  go_enter Tryz.func125, Tryz.ntmps125
  go_wp2_with fail
  go_ret
  exact ⟨rfl, (((Later.refl w).alloc _ _).alloc _ _).alloc _ _⟩

end Go.Proofs.YtihdijkplmfhfaaGreatDoor.Window
