/-
  One span that is weightier than all is there, whole, wherever it stands in the row; ahead of it nothing changes: the law's walk.  Conditions: as each theorem states.
-/
import Derived.Test.YtmjedpaiccaddaaXz
import Derived.Test.YtmjedpaiccaddaaEc
import Derived.BigQuiet
namespace Go.Proofs.Ytmjedpaiccaddaa.Span
set_option maxRecDepth 100000
open Go.ChangeShapes Go.WideShapes Go.ChangeAt Go.RowKit
open Go.Proofs.Ytmjedpaiccaddaa.Divs Go.Proofs.Ytmjedpaiccaddaa.Grow Go.Proofs.Ytmjedpaiccaddaa.Each
open Go.Proofs.Ytmjedpaiccaddaa.By (Sk SL)
open Go.Proofs.Ytmjedpaiccaddaa.Sp
open Go.Proofs.Ytmjedpaiccaddaa.Conf (In InS)

def TA (ad : Option Addr) (n cap : Nat) (b0 : Nat) (x : Sp) (T : Int) (l : List Sp) : Nat → Value → World → Prop
  | 0, v, _ => v = .slice ad n cap
  | 1, v, W => WL W b0 v l
  | 2, v, _ => v = .agg #[.int .i64 x.f, .int .i64 x.t, .int .i64 x.m, .int .i64 T]
  | 3, v, W => Ws W v [⟨x.f, x.t, x.m, T⟩]
  | _, _, _ => True

theorem TA.later (ad : Option Addr) (n cap : Nat) (b0 : Nat) (x : Sp) (T : Int) (l : List Sp) (i : Nat) (v : Value) (W W' : World) (h : TA ad n cap b0 x T l i v W) (g : Later W W') : TA ad n cap b0 x T l i v W' := by
  unfold TA at *
  split at h <;> try exact h
  · exact h.later g
  · exact h.later g

def TB (B b0 : Nat) (a9 : Option Addr) (nx c9 : Nat) (x : Sp) (X : List Sp) : Nat → Value → World → Prop
  | 0, v, _ => v = .slice a9 nx c9
  | 1, v, W => WL W b0 v X
  | 2, v, _ => v = .pointer (some ⟨B, 0, none⟩)
  | 3, v, _ => v = .int .i64 x.f
  | 4, v, _ => v = .pointer (some ⟨B, 1, none⟩)
  | 5, v, _ => v = .int .i64 x.t
  | 6, v, W => WL W b0 v [⟨x.f, x.t, x.m, 0⟩]
  | 7, v, W => WL W b0 v [⟨x.f, x.t, x.m, 0⟩]
  | _, _, _ => True

theorem TB.later (B b0 : Nat) (a9 : Option Addr) (nx c9 : Nat) (x : Sp) (X : List Sp) (i : Nat) (v : Value) (W W' : World) (h : TB B b0 a9 nx c9 x X i v W) (g : Later W W') : TB B b0 a9 nx c9 x X i v W' := by
  unfold TB at *
  split at h <;> try exact h
  · exact h.later g
  · exact h.later g
  · exact h.later g

def TC (gm om c13 : Nat) (B b0 : Nat) (a9 a11 a2 : Option Addr) (nx c9 c11 mr c2 : Nat) (x : Sp) (X R Y : List Sp) : Nat → Value → World → Prop
  | 0, v, _ => v = .bool true
  | 1, v, _ => v = .bool true
  | 2, v, _ => v = .int .i64 0
  | 3, v, _ => v = .bool true
  | 4, v, _ => v = .bool true
  | 5, v, _ => v = .bool true
  | 6, v, _ => v = .int .i64 0
  | 7, v, _ => v = .bool true
  | 8, v, _ => v = .bool true
  | 9, v, _ => v = .bool true
  | 10, v, _ => v = .slice a9 nx c9
  | 11, v, _ => v = .slice a11 nx c11
  | 12, v, _ => v = .bool true
  | 13, v, _ => v = .bool true
  | 14, v, _ => v = .bool true
  | 15, v, _ => v = .slice (some ⟨gm, om, none⟩) 1 c13
  | 16, v, _ => v = .int .i64 1
  | 17, v, _ => v = .bool true
  | 18, v, _ => v = .bool true
  | 19, v, _ => v = .bool true
  | 20, v, _ => v = .slice (some ⟨gm, om, none⟩) 1 c13
  | 21, v, _ => v = .pointer (some ⟨gm, om, none⟩)
  | 22, v, _ => v = .pointer (some ⟨gm, om + 2, none⟩)
  | 23, v, _ => v = .int .i64 x.m
  | 24, v, _ => v = .pointer (some ⟨B, 2, none⟩)
  | 25, v, _ => v = .int .i64 x.m
  | 26, v, _ => v = .bool true
  | 27, v, _ => v = .bool true
  | 28, v, _ => v = .bool true
  | 29, v, _ => v = .slice (some ⟨gm, om, none⟩) 1 c13
  | 30, v, _ => v = .pointer (some ⟨gm, om, none⟩)
  | 31, v, _ => v = .pointer (some ⟨gm, om, none⟩)
  | 32, v, _ => v = .int .i64 x.f
  | 33, v, _ => v = .pointer (some ⟨B, 0, none⟩)
  | 34, v, _ => v = .int .i64 x.f
  | 35, v, _ => v = .bool true
  | 36, v, _ => v = .bool true
  | 37, v, _ => v = .bool true
  | 38, v, _ => v = .slice (some ⟨gm, om, none⟩) 1 c13
  | 39, v, _ => v = .pointer (some ⟨gm, om, none⟩)
  | 40, v, _ => v = .pointer (some ⟨gm, om + 1, none⟩)
  | 41, v, _ => v = .int .i64 x.t
  | 42, v, _ => v = .pointer (some ⟨B, 1, none⟩)
  | 43, v, _ => v = .int .i64 x.t
  | 44, v, _ => v = .bool true
  | 45, v, _ => v = .bool true
  | 46, v, _ => v = .bool true
  | 47, v, _ => v = .slice a9 nx c9
  | 48, v, W => WL W b0 v X
  | 49, v, _ => v = .pointer (some ⟨B, 0, none⟩)
  | 50, v, _ => v = .int .i64 x.f
  | 51, v, W => WL W b0 v Y
  | 52, v, W => WL W b0 v Y
  | 53, v, _ => v = .slice a2 mr c2
  | 54, v, W => WL W b0 v R
  | 55, v, _ => v = .pointer (some ⟨B, 0, none⟩)
  | 56, v, _ => v = .int .i64 x.f
  | 57, v, W => WL W b0 v Y
  | 58, v, W => WL W b0 v Y
  | 59, v, _ => v = .bool true
  | 60, v, _ => v = .bool true
  | 61, v, _ => v = .bool true
  | _, _, _ => True

theorem TC.later (gm om c13 : Nat) (B b0 : Nat) (a9 a11 a2 : Option Addr) (nx c9 c11 mr c2 : Nat) (x : Sp) (X R Y : List Sp) (i : Nat) (v : Value) (W W' : World) (h : TC gm om c13 B b0 a9 a11 a2 nx c9 c11 mr c2 x X R Y i v W) (g : Later W W') : TC gm om c13 B b0 a9 a11 a2 nx c9 c11 mr c2 x X R Y i v W' := by
  unfold TC at *
  split at h <;> try exact h
  · exact h.later g
  · exact h.later g
  · exact h.later g
  · exact h.later g
  · exact h.later g
  · exact h.later g

/-- The highest weight, and no less than 0. -/
def tp (xs : List Sp) : Int := xs.foldl (fun a y => max a y.p) 0

theorem tp_more (xs : List Sp) (y : Sp) : tp (xs ++ [y]) = max (tp xs) y.p := by unfold tp; rw [List.foldl_append]; rfl

theorem fold_bd (xs : List Sp) : ∀ a : Int, (∀ y ∈ xs, In y.p) → In a → In (xs.foldl (fun a y => max a y.p) a) ∧ a ≤ xs.foldl (fun a y => max a y.p) a ∧ ∀ y ∈ xs, y.p ≤ xs.foldl (fun a y => max a y.p) a := by
  induction xs with
  | nil => intro a _ ha; exact ⟨ha, Int.le_refl _, by simp⟩
  | cons z zs ih =>
    intro a h ha
    have hz := h z (List.mem_cons_self ..)
    have hm : In (max a z.p) := by unfold In at *; omega
    obtain ⟨i1, i2, i3⟩ := ih (max a z.p) (fun y hy => h y (List.mem_cons_of_mem _ hy)) hm
    refine ⟨i1, by rw [List.foldl_cons]; omega, fun y hy => ?_⟩
    rw [List.foldl_cons]
    rcases List.mem_cons.1 hy with rfl | hy
    · omega
    · exact i3 y hy

theorem grown_set (W : World) (b i : Nat) (v : Value) : W.grownBy (W.setCell ⟨b, i, none⟩ v) (some b) :=
  ⟨rfl, rfl, rfl, (KeepsWalks.setCell W _ v).size, fun k _ hk => Below.heap_setCell _ _ _ k (fun e => hk (by rw [e]))⟩

/-- A row lies apart from older blocks. -/
theorem wl_set {W : World} {b B i : Nat} {v u : Value} {xs : List Sp} (h : WL W b v xs) (hb : B < b) : WL (W.setCell ⟨B, i, none⟩ u) b v xs := by
  refine World.ownsRow.kept h (grown_set W B i u) ?_
  rcases h.2 with ⟨rfl, _⟩ | ⟨g, cap, cur, rfl, hg, _⟩
  · exact .inl rfl
  · refine .inr fun e => ?_
    obtain rfl : g = B := by simpa [Value.ownBlock] using e
    omega

theorem wl_one (w : World) (b : Nat) (hb : b ≤ w.heap.size) (x : Sp) : WL (w.alloc (.cells #[.int .i64 x.f, .int .i64 x.t, .int .i64 x.m, .int .i64 x.p] 31)) b (.slice (some ⟨w.heap.size, 0, none⟩) 1 1) [x] :=
  ⟨rfl, .inr ⟨w.heap.size, 1, _, rfl, hb, heap_alloc_new _ _, by simp, by simp [maxLen], rfl, rfl⟩⟩

/-- What a growing of a row just laid leaves. -/
theorem own_row_later (w w' : World) (cs : Array Value) (h : (w.alloc (.cells cs 31)).grownBy w' (Value.slice (some ⟨w.heap.size, 0, none⟩) 1 1).ownBlock) : Later w w' :=
  Later.of_below (((Later.refl w).put (.cells cs 31)).below.grown h (by simp) (fun j e => by
    have : w.heap.size = j := by simpa [Value.ownBlock] using e
    omega))

set_option maxHeartbeats 8000000 in
theorem turned_core (w : World) (v : Value) (l : List Sp) (x : Sp) (h : Ws w v l) (hb : ∀ y ∈ l, InS y) (_hx : InS x) : Calls Try.prog 8 #[v, .agg (sc x).toArray] w fun e w' => e = .returned (.bool true) ∧ Later w w' := by
  have A := Lib.hid awake_any
  have O := Lib.hid (fun W u (xs : List Sp) (k : Ws W u xs) (q : xs.length ≤ 50000) => own_any u xs W k (by omega))
  have C := Lib.hid (fun W u (xs : List Sp) a b (k : Ws W u xs) (q : xs.length ≤ 50000) => cut_any u xs a b W k q)
  have MX := Lib.hid (fold_bd l 0 (fun y hy => (hb y hy).2.2.2) (by unfold In; omega))
  obtain ⟨ad, cap, e0, _⟩ := h.form
  obtain ⟨n, hn⟩ : ∃ n, l.length = n := ⟨_, rfl⟩
  rw [hn] at e0
  subst e0
  have HG0 := Lib.hid ((Later.refl w).put (.cells #[.int .i64 x.f, .int .i64 x.t, .int .i64 x.m, .int .i64 x.p] 31))
  have HB0 := Lib.hid (RA.new w #[.int .i64 x.f, .int .i64 x.t, .int .i64 x.m, .int .i64 x.p] 31)
  have HS := Lib.hid h
  have HN := Lib.hid hn
  unfold sc
  by_cases h1 : 60 < n
  · have t1 : (n : Int) > 60 := by omega
    clear h hn h1 HS HN hb
    go_enter Try.func8, Try.ntmps8
    go_wp2_with fail
    refine (A.out _).mono ?_
    rintro e w9 ⟨rfl, hg9⟩
    go_wp2_with fail
    go_ret
    exact ⟨rfl, gtrans HG0.out hg9⟩
  · have t1 : ¬ (n : Int) > 60 := by omega
    have HN6 : Hid (n ≤ 60) := Lib.hid (by omega)
    have HAT : Hid (∀ i y, l[i]? = some y → ∃ g off, ad = some ⟨g, off, none⟩ ∧ At w g (off + i * 4) y) := Lib.hid (by
      obtain ⟨ad', cap', e', _, hc'⟩ := h.form
      rw [hn] at e'
      simp only [Value.slice.injEq] at e'
      obtain ⟨rfl, _, rfl⟩ := e'
      exact hc')
    clear h hn h1 hb
    go_enter Try.func8, Try.ntmps8
    go_wp2_with fail
    go_loopw [5, 6] (fun p i wr => ∃ (k : Nat), k ≤ n ∧ p = .int .i64 (tp (l.take k)) ∧ i = .int .i64 (k : Int) ∧ Later (w.alloc (.cells #[.int .i64 x.f, .int .i64 x.t, .int .i64 x.m, .int .i64 x.p] 31)) wr) (fun _ i _ => n - (intOf i).toNat)
    case atStart => exact ⟨0, by omega, rfl, rfl, Later.refl _⟩
    case round =>
      obtain ⟨k, hk, rfl, rfl, hg⟩ := hrel
      have HG := Lib.hid hg
      clear hg
      by_cases hlt : k < n
      · obtain ⟨y, hy⟩ : ∃ y, l[k]? = some y := ⟨_, List.getElem?_eq_getElem (by rw [HN.out]; exact hlt)⟩
        obtain ⟨g, off, rfl, hat⟩ := HAT.out k y hy
        obtain ⟨c0, c1, c2, c3⟩ := hat.later (gtrans HG0.out HG.out)
        have ad2 : ∀ j, (⟨g, off, none⟩ : Addr).add j = ⟨g, off + j, none⟩ := Addr.add_mid g off
        have hkz : (k : Int) < (n : Int) := by omega
        have HT : Hid (max (tp (l.take k)) y.p = tp (l.take (k + 1))) := Lib.hid (by rw [take_at hy, tp_more])
        have mx : ∀ W, (Builtin.max_ #[3, 3] 3 #[.int .i64 (tp (l.take k)), .int .i64 y.p]).run Try.prog W = .ok (.int .i64 (tp (l.take (k + 1)))) W := fun W => by rw [max_two, HT.out]
        clear hy hat c0 c1 c2
        go_wp2
        go_roundw
        case rel => have hn6 := HN6.out; exact ⟨k + 1, by omega, rfl, by go_num, HG.out⟩
        case measure => have hn6 := HN6.out; simp [intOf]; omega
      · have hkz : ¬ (k : Int) < (n : Int) := by omega
        obtain ⟨P, hP⟩ : ∃ P, tp (l.take k) = P := ⟨_, rfl⟩
        have hPl : P = l.foldl (fun a y => max a y.p) 0 := by rw [← hP, List.take_of_length_le (by rw [HN.out]; omega)]; rfl
        have HPB : Hid (In P ∧ ∀ y ∈ l, y.p ≤ P) := Lib.hid (by rw [hPl]; exact ⟨MX.out.1, MX.out.2.2⟩)
        rw [hP]
        have HG1 := Lib.hid (gtrans HG0.out HG.out)
        have HB1 := Lib.hid (HB0.out.later HG.out)
        clear hP hPl
        go_wp2_with fail
        refine (O.out _ _ l (HS.out.later HG1.out) (by have := HN.out; have := HN6.out; omega)).mono ?_
        rintro e w1 ⟨v1, rfl, hv1, hg1⟩
        obtain ⟨a1, c1, rfl⟩ := hv1.lit HN.out
        have HW1 := Lib.hid hv1.ws
        have HG1' := Lib.hid (gtrans HG1.out hg1)
        have HB1' := Lib.hid (HB1.out.later hg1)
        clear hv1 hg1
        go_wp2_with fail
        cases hmb : mb l with
        | false =>
          refine (resolve_no _ l _ HW1.out hmb).mono ?_
          rintro e w2 ⟨rfl, hg2⟩
          have HG2 := Lib.hid (gtrans HG1'.out hg2)
          clear hg2 hmb
          go_wp2_with fail
          refine (A.out _).mono ?_
          rintro e w9 ⟨rfl, hg9⟩
          go_wp2_with fail
          go_ret
          exact ⟨rfl, gtrans HG2.out hg9⟩
        | true =>
          refine (res_yes _ l _ HW1.out hmb).mono ?_
          rintro e w2 ⟨⟨v2, R, rfl, hR, hv2⟩, hg2⟩
          obtain ⟨mr, hm⟩ : ∃ m, R.length = m := ⟨_, rfl⟩
          have HM := Lib.hid hm
          have HR5 : Hid (R.length ≤ 50000) := Lib.hid (by have a1 := full_len hR; have a2 := HN.out; have a3 := HN6.out; omega)
          obtain ⟨a2, c2, rfl⟩ := hv2.lit hm
          have HV2 := Lib.hid hv2
          have HR := Lib.hid hR
          have HMB := Lib.hid hmb
          have HG2 := Lib.hid (gtrans HG1'.out hg2)
          have HB2 := Lib.hid (HB1'.out.later hg2)
          clear hv2 hg2 hmb hm hR
          by_cases q1 : P = 9223372036854775807
          · have s1 : (P == 9223372036854775807) = true := by simpa using q1
            clear q1
            go_wp2_with fail
            refine (A.out _).mono ?_
            rintro e w9 ⟨rfl, hg9⟩
            go_wp2_with fail
            go_ret
            exact ⟨rfl, gtrans HG2.out hg9⟩
          · have s1 : (P == 9223372036854775807) = false := by simpa using q1
            have k0 := HB2.out.cell 0 (.int .i64 x.f) rfl
            have k1 := HB2.out.cell 1 (.int .i64 x.t) rfl
            by_cases q2 : x.f ≥ x.t
            · clear q1
              go_wp2_with fail
              refine (A.out _).mono ?_
              rintro e w9 ⟨rfl, hg9⟩
              go_wp2_with fail
              go_ret
              exact ⟨rfl, gtrans HG2.out hg9⟩
            · have r5 : IntKind.i64.wrap (P + 1) = P + 1 := by
                have := HPB.out.1
                unfold In at this
                rw [IntKind.wrap_i64]
                omega
              obtain ⟨T, hT⟩ : ∃ T, P + 1 = T := ⟨_, rfl⟩
              rw [hT] at r5
              have HPT : Hid (∀ y ∈ l, y.p < T) := Lib.hid (fun y hy => by have := HPB.out.2 y hy; omega)
              have HXT : Hid (x.f < x.t) := Lib.hid (by omega)
              have k3 := HB2.out.cell 3 (.int .i64 x.p) rfl
              have f3 := HB2.out.froz 3
              clear q1
              go_wp2_with fail
              obtain ⟨w3, hw3⟩ : ∃ w3, w2.setCell ⟨w.heap.size, 3, none⟩ (.int .i64 T) = w3 := ⟨_, rfl⟩
              rw [hw3]
              have HG3 : Hid (Later w w3) := Lib.hid (hw3 ▸ HG2.out.setCell (Nat.le_refl _) _)
              have HB3 : Hid (RA w3 w.heap.size #[.int .i64 x.f, .int .i64 x.t, .int .i64 x.m, .int .i64 T] 31) := Lib.hid (hw3 ▸ (HB2.out.set 3 (.int .i64 T)))
              have HV3 : Hid (WL w3 w1.heap.size (.slice a2 mr c2) R) := Lib.hid (hw3 ▸ wl_set HV2.out HB1'.out.lt)
              have HS3 : Hid (Ws w3 (.slice ad n cap) l) := Lib.hid (HS.out.later HG3.out)
              have HMB1 : Hid (mb (l ++ [(⟨x.f, x.t, x.m, T⟩ : Sp)]) = true) := Lib.hid ((mb_iff _).2 ⟨by have := HN.out; have := HN6.out; simp only [List.length_append, List.length_cons, List.length_nil]; omega, may_append ((mb_iff l).1 HMB.out).2 (fun s hs => by rw [List.mem_singleton.1 hs]; exact HXT.out)⟩)
              have HMB2 : Hid (mb ([(⟨x.f, x.t, x.m, T⟩ : Sp)] ++ l) = true) := Lib.hid ((mb_iff _).2 ⟨by have := HN.out; have := HN6.out; simp only [List.length_append, List.length_cons, List.length_nil]; omega, may_append (fun s hs => by rw [List.mem_singleton.1 hs]; exact HXT.out) ((mb_iff l).1 HMB.out).2⟩)
              clear hw3 k0 k1 k3 f3 hkz s1 q2 r5
              refine region_mid 4 (TA ad n cap w3.heap.size x T l) (by kernel_rfl) (by kernel_rfl) (by kernel_rfl) (by kernel_rfl) (by decide) (by kernel_rfl) (TA.later ad n cap w3.heap.size x T l) ?_ ?_
              · intro i hi
                match i with
                | 0 =>
                  intro o ho
                  simp only [List.getElem?_toArray, List.getElem?_cons_zero, Option.some.injEq] at ho
                  subst ho
                  intro a W hl hold hdep
                  refine ite_yes rfl ?_
                  have h0 : a.tmps[0]? = some (.slice ad n cap) := hold 0 (free_of (by kernel_rfl))
                  clear hold hdep
                  unfold Oper.wp
                  go_simp
                  exact ⟨_, rfl, rfl, Later.refl _⟩
                | 1 =>
                  intro o ho
                  simp only [List.getElem?_toArray, List.getElem?_cons_zero, List.getElem?_cons_succ, Option.some.injEq] at ho
                  subst ho
                  intro a W hl hold hdep
                  refine ite_yes rfl ?_
                  obtain ⟨_, h55, rfl⟩ := hdep 0 (by decide) _ _ rfl rfl
                  clear hold hdep
                  unfold Oper.wp
                  go_simp
                  refine (O.out _ _ l (HS3.out.later hl) (by have := HN.out; have := HN6.out; omega)).mono ?_
                  rintro e w1 ⟨p, rfl, hp, hg1⟩
                  exact ⟨_, rfl, hp.base hl.size, hg1⟩
                | 2 =>
                  intro o ho
                  simp only [List.getElem?_toArray, List.getElem?_cons_zero, List.getElem?_cons_succ, Option.some.injEq] at ho
                  subst ho
                  intro a W hl hold hdep
                  refine ite_yes rfl ?_
                  have h3 : a.tmps[3]? = some (.pointer (some ⟨w.heap.size, 0, none⟩)) := hold 3 (free_of (by kernel_rfl))
                  have e0 := (HB3.out.later hl).cell 0 _ rfl
                  have e1 := (HB3.out.later hl).cell 1 _ rfl
                  have e2 := (HB3.out.later hl).cell 2 _ rfl
                  have e3 := (HB3.out.later hl).cell 3 _ rfl
                  clear hold hdep
                  unfold Oper.wp
                  go_simp
                  exact ⟨_, rfl, rfl, Later.refl _⟩
                | 3 =>
                  intro o ho
                  simp only [List.getElem?_toArray, List.getElem?_cons_zero, List.getElem?_cons_succ, Option.some.injEq] at ho
                  subst ho
                  intro a W hl hold hdep
                  refine ite_yes rfl ?_
                  obtain ⟨_, h57, rfl⟩ := hdep 2 (by decide) _ _ rfl rfl
                  clear hold hdep
                  unfold Oper.wp
                  go_simp
                  exact ⟨_, rfl, ws_one' ⟨x.f, x.t, x.m, T⟩ rfl, (Later.refl _).put _⟩
                | k + 4 => exact absurd hi (by simp)
              · intro a w4 hl hd hz hold hall
                have k0 : a.tmps[0]? = some (.slice ad n cap) := hold 0 (fun j q _ => free_of (by kernel_rfl) j q)
                have k3 : a.tmps[3]? = some (.pointer (some ⟨w.heap.size, 0, none⟩)) := hold 3 (fun j q _ => free_of (by kernel_rfl) j q)
                have k7 : a.tmps[7]? = some (.slice a2 mr c2) := hold 7 (fun j q _ => free_of (by kernel_rfl) j q)
                obtain ⟨_, k56, hv56⟩ := hall 1 _ _ (by decide) rfl rfl
                obtain ⟨_, k58, hv58⟩ := hall 3 _ _ (by decide) rfl rfl
                have ha := act_eta a 139 [] hz hd
                rw [show (List.range 139).map (fun s => a.tmps.getD s undef) = [a.tmps.getD 0 undef, a.tmps.getD 1 undef, a.tmps.getD 2 undef, a.tmps.getD 3 undef, a.tmps.getD 4 undef, a.tmps.getD 5 undef, a.tmps.getD 6 undef, a.tmps.getD 7 undef, a.tmps.getD 8 undef, a.tmps.getD 9 undef, a.tmps.getD 10 undef, a.tmps.getD 11 undef, a.tmps.getD 12 undef, a.tmps.getD 13 undef, a.tmps.getD 14 undef, a.tmps.getD 15 undef, a.tmps.getD 16 undef, a.tmps.getD 17 undef, a.tmps.getD 18 undef, a.tmps.getD 19 undef, a.tmps.getD 20 undef, a.tmps.getD 21 undef, a.tmps.getD 22 undef, a.tmps.getD 23 undef, a.tmps.getD 24 undef, a.tmps.getD 25 undef, a.tmps.getD 26 undef, a.tmps.getD 27 undef, a.tmps.getD 28 undef, a.tmps.getD 29 undef, a.tmps.getD 30 undef, a.tmps.getD 31 undef, a.tmps.getD 32 undef, a.tmps.getD 33 undef, a.tmps.getD 34 undef, a.tmps.getD 35 undef, a.tmps.getD 36 undef, a.tmps.getD 37 undef, a.tmps.getD 38 undef, a.tmps.getD 39 undef, a.tmps.getD 40 undef, a.tmps.getD 41 undef, a.tmps.getD 42 undef, a.tmps.getD 43 undef, a.tmps.getD 44 undef, a.tmps.getD 45 undef, a.tmps.getD 46 undef, a.tmps.getD 47 undef, a.tmps.getD 48 undef, a.tmps.getD 49 undef, a.tmps.getD 50 undef, a.tmps.getD 51 undef, a.tmps.getD 52 undef, a.tmps.getD 53 undef, a.tmps.getD 54 undef, a.tmps.getD 55 undef, a.tmps.getD 56 undef, a.tmps.getD 57 undef, a.tmps.getD 58 undef, a.tmps.getD 59 undef, a.tmps.getD 60 undef, a.tmps.getD 61 undef, a.tmps.getD 62 undef, a.tmps.getD 63 undef, a.tmps.getD 64 undef, a.tmps.getD 65 undef, a.tmps.getD 66 undef, a.tmps.getD 67 undef, a.tmps.getD 68 undef, a.tmps.getD 69 undef, a.tmps.getD 70 undef, a.tmps.getD 71 undef, a.tmps.getD 72 undef, a.tmps.getD 73 undef, a.tmps.getD 74 undef, a.tmps.getD 75 undef, a.tmps.getD 76 undef, a.tmps.getD 77 undef, a.tmps.getD 78 undef, a.tmps.getD 79 undef, a.tmps.getD 80 undef, a.tmps.getD 81 undef, a.tmps.getD 82 undef, a.tmps.getD 83 undef, a.tmps.getD 84 undef, a.tmps.getD 85 undef, a.tmps.getD 86 undef, a.tmps.getD 87 undef, a.tmps.getD 88 undef, a.tmps.getD 89 undef, a.tmps.getD 90 undef, a.tmps.getD 91 undef, a.tmps.getD 92 undef, a.tmps.getD 93 undef, a.tmps.getD 94 undef, a.tmps.getD 95 undef, a.tmps.getD 96 undef, a.tmps.getD 97 undef, a.tmps.getD 98 undef, a.tmps.getD 99 undef, a.tmps.getD 100 undef, a.tmps.getD 101 undef, a.tmps.getD 102 undef, a.tmps.getD 103 undef, a.tmps.getD 104 undef, a.tmps.getD 105 undef, a.tmps.getD 106 undef, a.tmps.getD 107 undef, a.tmps.getD 108 undef, a.tmps.getD 109 undef, a.tmps.getD 110 undef, a.tmps.getD 111 undef, a.tmps.getD 112 undef, a.tmps.getD 113 undef, a.tmps.getD 114 undef, a.tmps.getD 115 undef, a.tmps.getD 116 undef, a.tmps.getD 117 undef, a.tmps.getD 118 undef, a.tmps.getD 119 undef, a.tmps.getD 120 undef, a.tmps.getD 121 undef, a.tmps.getD 122 undef, a.tmps.getD 123 undef, a.tmps.getD 124 undef, a.tmps.getD 125 undef, a.tmps.getD 126 undef, a.tmps.getD 127 undef, a.tmps.getD 128 undef, a.tmps.getD 129 undef, a.tmps.getD 130 undef, a.tmps.getD 131 undef, a.tmps.getD 132 undef, a.tmps.getD 133 undef, a.tmps.getD 134 undef, a.tmps.getD 135 undef, a.tmps.getD 136 undef, a.tmps.getD 137 undef, a.tmps.getD 138 undef] from rfl, getD_of k0, getD_of k3, getD_of k7, getD_of k56, getD_of k58] at ha
                rw [ha]
                clear hall hold hz hd ha k0 k3 k7 k56 k58
                generalize a.tmps.getD 1 undef = x1
                generalize a.tmps.getD 2 undef = x2
                generalize a.tmps.getD 4 undef = x4
                generalize a.tmps.getD 5 undef = x5
                generalize a.tmps.getD 6 undef = x6
                generalize a.tmps.getD 8 undef = x8
                generalize a.tmps.getD 9 undef = x9
                generalize a.tmps.getD 10 undef = x10
                generalize a.tmps.getD 11 undef = x11
                generalize a.tmps.getD 12 undef = x12
                generalize a.tmps.getD 13 undef = x13
                generalize a.tmps.getD 14 undef = x14
                generalize a.tmps.getD 15 undef = x15
                generalize a.tmps.getD 16 undef = x16
                generalize a.tmps.getD 17 undef = x17
                generalize a.tmps.getD 18 undef = x18
                generalize a.tmps.getD 19 undef = x19
                generalize a.tmps.getD 20 undef = x20
                generalize a.tmps.getD 21 undef = x21
                generalize a.tmps.getD 22 undef = x22
                generalize a.tmps.getD 23 undef = x23
                generalize a.tmps.getD 24 undef = x24
                generalize a.tmps.getD 25 undef = x25
                generalize a.tmps.getD 26 undef = x26
                generalize a.tmps.getD 27 undef = x27
                generalize a.tmps.getD 28 undef = x28
                generalize a.tmps.getD 29 undef = x29
                generalize a.tmps.getD 30 undef = x30
                generalize a.tmps.getD 31 undef = x31
                generalize a.tmps.getD 32 undef = x32
                generalize a.tmps.getD 33 undef = x33
                generalize a.tmps.getD 34 undef = x34
                generalize a.tmps.getD 35 undef = x35
                generalize a.tmps.getD 36 undef = x36
                generalize a.tmps.getD 37 undef = x37
                generalize a.tmps.getD 38 undef = x38
                generalize a.tmps.getD 39 undef = x39
                generalize a.tmps.getD 40 undef = x40
                generalize a.tmps.getD 41 undef = x41
                generalize a.tmps.getD 42 undef = x42
                generalize a.tmps.getD 43 undef = x43
                generalize a.tmps.getD 44 undef = x44
                generalize a.tmps.getD 45 undef = x45
                generalize a.tmps.getD 46 undef = x46
                generalize a.tmps.getD 47 undef = x47
                generalize a.tmps.getD 48 undef = x48
                generalize a.tmps.getD 49 undef = x49
                generalize a.tmps.getD 50 undef = x50
                generalize a.tmps.getD 51 undef = x51
                generalize a.tmps.getD 52 undef = x52
                generalize a.tmps.getD 53 undef = x53
                generalize a.tmps.getD 54 undef = x54
                generalize a.tmps.getD 55 undef = x55
                generalize a.tmps.getD 57 undef = x57
                generalize a.tmps.getD 59 undef = x59
                generalize a.tmps.getD 60 undef = x60
                generalize a.tmps.getD 61 undef = x61
                generalize a.tmps.getD 62 undef = x62
                generalize a.tmps.getD 63 undef = x63
                generalize a.tmps.getD 64 undef = x64
                generalize a.tmps.getD 65 undef = x65
                generalize a.tmps.getD 66 undef = x66
                generalize a.tmps.getD 67 undef = x67
                generalize a.tmps.getD 68 undef = x68
                generalize a.tmps.getD 69 undef = x69
                generalize a.tmps.getD 70 undef = x70
                generalize a.tmps.getD 71 undef = x71
                generalize a.tmps.getD 72 undef = x72
                generalize a.tmps.getD 73 undef = x73
                generalize a.tmps.getD 74 undef = x74
                generalize a.tmps.getD 75 undef = x75
                generalize a.tmps.getD 76 undef = x76
                generalize a.tmps.getD 77 undef = x77
                generalize a.tmps.getD 78 undef = x78
                generalize a.tmps.getD 79 undef = x79
                generalize a.tmps.getD 80 undef = x80
                generalize a.tmps.getD 81 undef = x81
                generalize a.tmps.getD 82 undef = x82
                generalize a.tmps.getD 83 undef = x83
                generalize a.tmps.getD 84 undef = x84
                generalize a.tmps.getD 85 undef = x85
                generalize a.tmps.getD 86 undef = x86
                generalize a.tmps.getD 87 undef = x87
                generalize a.tmps.getD 88 undef = x88
                generalize a.tmps.getD 89 undef = x89
                generalize a.tmps.getD 90 undef = x90
                generalize a.tmps.getD 91 undef = x91
                generalize a.tmps.getD 92 undef = x92
                generalize a.tmps.getD 93 undef = x93
                generalize a.tmps.getD 94 undef = x94
                generalize a.tmps.getD 95 undef = x95
                generalize a.tmps.getD 96 undef = x96
                generalize a.tmps.getD 97 undef = x97
                generalize a.tmps.getD 98 undef = x98
                generalize a.tmps.getD 99 undef = x99
                generalize a.tmps.getD 100 undef = x100
                generalize a.tmps.getD 101 undef = x101
                generalize a.tmps.getD 102 undef = x102
                generalize a.tmps.getD 103 undef = x103
                generalize a.tmps.getD 104 undef = x104
                generalize a.tmps.getD 105 undef = x105
                generalize a.tmps.getD 106 undef = x106
                generalize a.tmps.getD 107 undef = x107
                generalize a.tmps.getD 108 undef = x108
                generalize a.tmps.getD 109 undef = x109
                generalize a.tmps.getD 110 undef = x110
                generalize a.tmps.getD 111 undef = x111
                generalize a.tmps.getD 112 undef = x112
                generalize a.tmps.getD 113 undef = x113
                generalize a.tmps.getD 114 undef = x114
                generalize a.tmps.getD 115 undef = x115
                generalize a.tmps.getD 116 undef = x116
                generalize a.tmps.getD 117 undef = x117
                generalize a.tmps.getD 118 undef = x118
                generalize a.tmps.getD 119 undef = x119
                generalize a.tmps.getD 120 undef = x120
                generalize a.tmps.getD 121 undef = x121
                generalize a.tmps.getD 122 undef = x122
                generalize a.tmps.getD 123 undef = x123
                generalize a.tmps.getD 124 undef = x124
                generalize a.tmps.getD 125 undef = x125
                generalize a.tmps.getD 126 undef = x126
                generalize a.tmps.getD 127 undef = x127
                generalize a.tmps.getD 128 undef = x128
                generalize a.tmps.getD 129 undef = x129
                generalize a.tmps.getD 130 undef = x130
                generalize a.tmps.getD 131 undef = x131
                generalize a.tmps.getD 132 undef = x132
                generalize a.tmps.getD 133 undef = x133
                generalize a.tmps.getD 134 undef = x134
                generalize a.tmps.getD 135 undef = x135
                generalize a.tmps.getD 136 undef = x136
                generalize a.tmps.getD 137 undef = x137
                generalize a.tmps.getD 138 undef = x138
                refine mid_chain 4 3 4 (by kernel_rfl) (by kernel_rfl) (by kernel_rfl) ?_
                simp only [List.drop_succ_cons, List.drop_zero, List.take_succ_cons, List.take_zero]
                obtain ⟨a5, c5, e5⟩ := hv56.lit HN.out
                subst e5
                obtain ⟨a8, c8, e8, _⟩ := hv58.form
                subst e8
                have HV56 := Lib.hid hv56
                have HV58 := Lib.hid hv58
                have HL4 := Lib.hid hl
                clear hv56 hv58 hl
                go_wp2_with (refine append_spans rfl (.tmp 56) (.tmp 58) rfl w3 HL4.out _ l rfl HV56.out _ [(⟨x.f, x.t, x.m, T⟩ : Sp)] rfl HV58.out (by have := HN.out; have := HN6.out; simp only [List.length_cons, List.length_nil]; omega) ?_; intro v5 w5 hw hl5 _; have HW5 := Lib.hid hw.ws; have HL5 := Lib.hid hl5; clear hw hl5)
                refine (res_yes _ _ _ HW5.out HMB1.out).mono ?_
                rintro e w6 ⟨⟨v6, X, rfl, hX, hv6⟩, hg6⟩
                obtain ⟨nx, hnx⟩ : ∃ m, X.length = m := ⟨_, rfl⟩
                have HNX := Lib.hid hnx
                have HX5 : Hid (X.length ≤ 50000) := Lib.hid (by have a1 := full_len hX; have a2 := HN.out; have a3 := HN6.out; simp only [List.length_append, List.length_cons, List.length_nil] at a1; omega)
                obtain ⟨a9, c9, rfl⟩ := hv6.lit hnx
                have HX6 := Lib.hid hv6.ws
                have HXF := Lib.hid hX
                have HL6 := Lib.hid (gtrans HL5.out hg6)
                have HB6 := Lib.hid (HB3.out.later HL6.out)
                have k0 := HB6.out.cell 0 (.int .i64 x.f) rfl
                have k1 := HB6.out.cell 1 (.int .i64 x.t) rfl
                have k2 := HB6.out.cell 2 (.int .i64 x.m) rfl
                have k3 := HB6.out.cell 3 (.int .i64 T) rfl
                clear hv6 hg6 hX hnx
                go_wp2_with fail
                show wpAny Try.prog .any _ _ (3 + 1) _ _ _
                refine any_two (i := 7) (j := 8) (by decide +kernel) rfl rfl ?_ ?_
                all_goals go_wp2_with fail
                all_goals show wpAny Try.prog .any _ _ (2 + 1) _ _ _
                all_goals first
                  | refine any_two (i := 8) (j := 9) (by decide +kernel) rfl rfl ?_ ?_
                  | refine any_single (i := 8) (by decide +kernel) rfl ?_
                  | refine any_single (i := 7) (by decide +kernel) rfl ?_
                all_goals go_wp2_with fail
                all_goals show wpAny Try.prog .any _ _ (1 + 1) _ _ _
                all_goals first
                  | refine any_two (i := 9) (j := 10) (by decide +kernel) rfl rfl ?_ ?_
                  | refine any_single (i := 9) (by decide +kernel) rfl ?_
                  | refine any_single (i := 8) (by decide +kernel) rfl ?_
                all_goals go_wp2_with fail
                all_goals show wpAny Try.prog .any _ _ (0 + 1) _ _ _
                all_goals first
                  | refine any_single (i := 10) (by decide +kernel) rfl ?_
                  | refine any_single (i := 9) (by decide +kernel) rfl ?_
                all_goals go_wp2_with fail
                all_goals show wpAny Try.prog .any _ _ 0 _ _ _
                all_goals refine any_end (by decide +kernel) ?_
                all_goals
                  go_wp2_with (refine append_spans rfl (.tmp 65) (.tmp 66) rfl w3 (HL6.out.put _) _ [(⟨x.f, x.t, x.m, T⟩ : Sp)] rfl (wl_one w6 w3.heap.size HL6.out.size (⟨x.f, x.t, x.m, T⟩ : Sp)) _ l rfl (HS3.out.later (HL6.out.put _)) (by have := HN.out; have := HN6.out; simp only [List.length_cons, List.length_nil]; omega) ?_; intro v5 w7' hw hl5 hgb; have HW7 := Lib.hid hw.ws; have HL7' := Lib.hid hl5; have hq67 := own_row_later w6 w7' #[.int .i64 x.f, .int .i64 x.t, .int .i64 x.m, .int .i64 T] hgb; clear hw hl5 hgb)
                  have HL0 := Lib.hid HL6.out
                  refine (res_yes _ _ _ HW7.out HMB2.out).mono ?_
                  rintro e w7 ⟨⟨v7, Y0, rfl, hY, hv7⟩, hg7⟩
                  obtain rfl := top_same (l := l) (s := (⟨x.f, x.t, x.m, T⟩ : Sp)) HPT.out HXF.out hY
                  obtain ⟨a11, c11, rfl⟩ := hv7.lit HNX.out
                  have HL7 := Lib.hid (gtrans HL7'.out hg7)
                  have HX7 : Hid (Ws w7 (.slice a9 nx c9) X) := Lib.hid (HX6.out.later (gtrans hq67 hg7))
                  have HY7 := Lib.hid hv7.ws
                  have HB7 := Lib.hid (HB3.out.later HL7.out)
                  have HR7 : Hid (Ws w7 (.slice a2 mr c2) R) := Lib.hid (HV3.out.ws.later HL7.out)
                  have HMID : Hid (cu X x.f x.t = [⟨x.f, x.t, x.m, 0⟩]) := Lib.hid (top_mid (s := (⟨x.f, x.t, x.m, T⟩ : Sp)) HXT.out HPT.out HXF.out)
                  clear hv7 hg7 hY k0 k1 k2 k3
                  go_wp2_with fail
                  refine region_each (TB w.heap.size w7.heap.size a9 nx c9 x X) (by kernel_rfl) (by kernel_rfl) (TB.later w.heap.size w7.heap.size a9 nx c9 x X) ?_ ?_
                  · intro i hi
                    match i with
                    | 0 =>
                      intro o ho
                      simp only [List.getElem?_toArray, List.getElem?_cons_zero, Option.some.injEq] at ho
                      subst ho
                      intro a W hl hold hdep
                      refine ite_yes rfl ?_
                      have h9 : a.tmps[9]? = some (.slice a9 nx c9) := hold 9 (free_of (by kernel_rfl))
                      clear hold hdep
                      unfold Oper.wp
                      go_simp
                      exact ⟨_, rfl, rfl, Later.refl _⟩
                    | 1 =>
                      intro o ho
                      simp only [List.getElem?_toArray, List.getElem?_cons_zero, List.getElem?_cons_succ, Option.some.injEq] at ho
                      subst ho
                      intro a W hl hold hdep
                      refine ite_yes rfl ?_
                      obtain ⟨_, h71, rfl⟩ := hdep 0 (by decide) _ _ rfl rfl
                      clear hold hdep
                      unfold Oper.wp
                      go_simp
                      refine (O.out _ _ X (HX7.out.later hl) HX5.out).mono ?_
                      rintro e w1 ⟨p, rfl, hp, hg1⟩
                      exact ⟨_, rfl, hp.base hl.size, hg1⟩
                    | 2 =>
                      intro o ho
                      simp only [List.getElem?_toArray, List.getElem?_cons_zero, List.getElem?_cons_succ, Option.some.injEq] at ho
                      subst ho
                      intro a W hl hold hdep
                      refine ite_yes rfl ?_
                      have h3 : a.tmps[3]? = some (.pointer (some ⟨w.heap.size, 0, none⟩)) := hold 3 (free_of (by kernel_rfl))
                      clear hold hdep
                      unfold Oper.wp
                      go_simp
                      exact ⟨_, rfl, rfl, Later.refl _⟩
                    | 3 =>
                      intro o ho
                      simp only [List.getElem?_toArray, List.getElem?_cons_zero, List.getElem?_cons_succ, Option.some.injEq] at ho
                      subst ho
                      intro a W hl hold hdep
                      refine ite_yes rfl ?_
                      obtain ⟨_, h73, rfl⟩ := hdep 2 (by decide) _ _ rfl rfl
                      have e0 := (HB7.out.later hl).cell 0 _ rfl
                      clear hold hdep
                      unfold Oper.wp
                      go_simp
                      exact ⟨_, rfl, rfl, Later.refl _⟩
                    | 4 =>
                      intro o ho
                      simp only [List.getElem?_toArray, List.getElem?_cons_zero, List.getElem?_cons_succ, Option.some.injEq] at ho
                      subst ho
                      intro a W hl hold hdep
                      refine ite_yes rfl ?_
                      have h3 : a.tmps[3]? = some (.pointer (some ⟨w.heap.size, 0, none⟩)) := hold 3 (free_of (by kernel_rfl))
                      clear hold hdep
                      unfold Oper.wp
                      go_simp
                      exact ⟨_, rfl, rfl, Later.refl _⟩
                    | 5 =>
                      intro o ho
                      simp only [List.getElem?_toArray, List.getElem?_cons_zero, List.getElem?_cons_succ, Option.some.injEq] at ho
                      subst ho
                      intro a W hl hold hdep
                      refine ite_yes rfl ?_
                      obtain ⟨_, h75, rfl⟩ := hdep 4 (by decide) _ _ rfl rfl
                      have e1 := (HB7.out.later hl).cell 1 _ rfl
                      clear hold hdep
                      unfold Oper.wp
                      go_simp
                      exact ⟨_, rfl, rfl, Later.refl _⟩
                    | 6 =>
                      intro o ho
                      simp only [List.getElem?_toArray, List.getElem?_cons_zero, List.getElem?_cons_succ, Option.some.injEq] at ho
                      subst ho
                      intro a W hl hold hdep
                      refine ite_yes rfl ?_
                      obtain ⟨_, h72, hv72⟩ := hdep 1 (by decide) _ _ rfl rfl
                      obtain ⟨_, h74, rfl⟩ := hdep 3 (by decide) _ _ rfl rfl
                      obtain ⟨_, h76, rfl⟩ := hdep 5 (by decide) _ _ rfl rfl
                      clear hold hdep
                      unfold Oper.wp
                      go_simp
                      refine (C.out _ _ X x.f x.t hv72.ws (by have := HX5.out; omega)).mono ?_
                      rintro e w1 ⟨p, rfl, hp, hg1⟩
                      rw [HMID.out] at hp
                      exact ⟨_, rfl, hp.base hl.size, hg1⟩
                    | 7 =>
                      intro o ho
                      simp only [List.getElem?_toArray, List.getElem?_cons_zero, List.getElem?_cons_succ, Option.some.injEq] at ho
                      subst ho
                      intro a W hl hold hdep
                      refine ite_yes rfl ?_
                      obtain ⟨_, h77, hv77⟩ := hdep 6 (by decide) _ _ rfl rfl
                      clear hold hdep
                      unfold Oper.wp
                      go_simp
                      exact ⟨_, rfl, hv77, Later.refl _⟩
                    | k + 8 => exact absurd hi (by simp)
                  · intro a w8 hl hd hz hold hall
                    have k0 : a.tmps[0]? = some (.slice ad n cap) := hold 0 (free_of (by kernel_rfl))
                    have k3 : a.tmps[3]? = some (.pointer (some ⟨w.heap.size, 0, none⟩)) := hold 3 (free_of (by kernel_rfl))
                    have k7 : a.tmps[7]? = some (.slice a2 mr c2) := hold 7 (free_of (by kernel_rfl))
                    have k9 : a.tmps[9]? = some (.slice a9 nx c9) := hold 9 (free_of (by kernel_rfl))
                    have k10 : a.tmps[10]? = some (.int .i64 0) := hold 10 (free_of (by kernel_rfl))
                    have k11 : a.tmps[11]? = some (.slice a11 nx c11) := hold 11 (free_of (by kernel_rfl))
                    have k12 : a.tmps[12]? = some (.int .i64 0) := hold 12 (free_of (by kernel_rfl))
                    obtain ⟨_, k13, hv13⟩ := hall 7 _ _ rfl rfl
                    have ha := act_eta a 139 [] hz hd
                    rw [show (List.range 139).map (fun s => a.tmps.getD s undef) = [a.tmps.getD 0 undef, a.tmps.getD 1 undef, a.tmps.getD 2 undef, a.tmps.getD 3 undef, a.tmps.getD 4 undef, a.tmps.getD 5 undef, a.tmps.getD 6 undef, a.tmps.getD 7 undef, a.tmps.getD 8 undef, a.tmps.getD 9 undef, a.tmps.getD 10 undef, a.tmps.getD 11 undef, a.tmps.getD 12 undef, a.tmps.getD 13 undef, a.tmps.getD 14 undef, a.tmps.getD 15 undef, a.tmps.getD 16 undef, a.tmps.getD 17 undef, a.tmps.getD 18 undef, a.tmps.getD 19 undef, a.tmps.getD 20 undef, a.tmps.getD 21 undef, a.tmps.getD 22 undef, a.tmps.getD 23 undef, a.tmps.getD 24 undef, a.tmps.getD 25 undef, a.tmps.getD 26 undef, a.tmps.getD 27 undef, a.tmps.getD 28 undef, a.tmps.getD 29 undef, a.tmps.getD 30 undef, a.tmps.getD 31 undef, a.tmps.getD 32 undef, a.tmps.getD 33 undef, a.tmps.getD 34 undef, a.tmps.getD 35 undef, a.tmps.getD 36 undef, a.tmps.getD 37 undef, a.tmps.getD 38 undef, a.tmps.getD 39 undef, a.tmps.getD 40 undef, a.tmps.getD 41 undef, a.tmps.getD 42 undef, a.tmps.getD 43 undef, a.tmps.getD 44 undef, a.tmps.getD 45 undef, a.tmps.getD 46 undef, a.tmps.getD 47 undef, a.tmps.getD 48 undef, a.tmps.getD 49 undef, a.tmps.getD 50 undef, a.tmps.getD 51 undef, a.tmps.getD 52 undef, a.tmps.getD 53 undef, a.tmps.getD 54 undef, a.tmps.getD 55 undef, a.tmps.getD 56 undef, a.tmps.getD 57 undef, a.tmps.getD 58 undef, a.tmps.getD 59 undef, a.tmps.getD 60 undef, a.tmps.getD 61 undef, a.tmps.getD 62 undef, a.tmps.getD 63 undef, a.tmps.getD 64 undef, a.tmps.getD 65 undef, a.tmps.getD 66 undef, a.tmps.getD 67 undef, a.tmps.getD 68 undef, a.tmps.getD 69 undef, a.tmps.getD 70 undef, a.tmps.getD 71 undef, a.tmps.getD 72 undef, a.tmps.getD 73 undef, a.tmps.getD 74 undef, a.tmps.getD 75 undef, a.tmps.getD 76 undef, a.tmps.getD 77 undef, a.tmps.getD 78 undef, a.tmps.getD 79 undef, a.tmps.getD 80 undef, a.tmps.getD 81 undef, a.tmps.getD 82 undef, a.tmps.getD 83 undef, a.tmps.getD 84 undef, a.tmps.getD 85 undef, a.tmps.getD 86 undef, a.tmps.getD 87 undef, a.tmps.getD 88 undef, a.tmps.getD 89 undef, a.tmps.getD 90 undef, a.tmps.getD 91 undef, a.tmps.getD 92 undef, a.tmps.getD 93 undef, a.tmps.getD 94 undef, a.tmps.getD 95 undef, a.tmps.getD 96 undef, a.tmps.getD 97 undef, a.tmps.getD 98 undef, a.tmps.getD 99 undef, a.tmps.getD 100 undef, a.tmps.getD 101 undef, a.tmps.getD 102 undef, a.tmps.getD 103 undef, a.tmps.getD 104 undef, a.tmps.getD 105 undef, a.tmps.getD 106 undef, a.tmps.getD 107 undef, a.tmps.getD 108 undef, a.tmps.getD 109 undef, a.tmps.getD 110 undef, a.tmps.getD 111 undef, a.tmps.getD 112 undef, a.tmps.getD 113 undef, a.tmps.getD 114 undef, a.tmps.getD 115 undef, a.tmps.getD 116 undef, a.tmps.getD 117 undef, a.tmps.getD 118 undef, a.tmps.getD 119 undef, a.tmps.getD 120 undef, a.tmps.getD 121 undef, a.tmps.getD 122 undef, a.tmps.getD 123 undef, a.tmps.getD 124 undef, a.tmps.getD 125 undef, a.tmps.getD 126 undef, a.tmps.getD 127 undef, a.tmps.getD 128 undef, a.tmps.getD 129 undef, a.tmps.getD 130 undef, a.tmps.getD 131 undef, a.tmps.getD 132 undef, a.tmps.getD 133 undef, a.tmps.getD 134 undef, a.tmps.getD 135 undef, a.tmps.getD 136 undef, a.tmps.getD 137 undef, a.tmps.getD 138 undef] from rfl, getD_of k0, getD_of k3, getD_of k7, getD_of k9, getD_of k10, getD_of k11, getD_of k12, getD_of k13] at ha
                    rw [ha]
                    clear hall hold hz hd ha k0 k3 k7 k9 k10 k11 k12 k13
                    generalize a.tmps.getD 1 undef = x1
                    generalize a.tmps.getD 2 undef = x2
                    generalize a.tmps.getD 4 undef = x4
                    generalize a.tmps.getD 5 undef = x5
                    generalize a.tmps.getD 6 undef = x6
                    generalize a.tmps.getD 8 undef = x8
                    generalize a.tmps.getD 14 undef = x14
                    generalize a.tmps.getD 15 undef = x15
                    generalize a.tmps.getD 16 undef = x16
                    generalize a.tmps.getD 17 undef = x17
                    generalize a.tmps.getD 18 undef = x18
                    generalize a.tmps.getD 19 undef = x19
                    generalize a.tmps.getD 20 undef = x20
                    generalize a.tmps.getD 21 undef = x21
                    generalize a.tmps.getD 22 undef = x22
                    generalize a.tmps.getD 23 undef = x23
                    generalize a.tmps.getD 24 undef = x24
                    generalize a.tmps.getD 25 undef = x25
                    generalize a.tmps.getD 26 undef = x26
                    generalize a.tmps.getD 27 undef = x27
                    generalize a.tmps.getD 28 undef = x28
                    generalize a.tmps.getD 29 undef = x29
                    generalize a.tmps.getD 30 undef = x30
                    generalize a.tmps.getD 31 undef = x31
                    generalize a.tmps.getD 32 undef = x32
                    generalize a.tmps.getD 33 undef = x33
                    generalize a.tmps.getD 34 undef = x34
                    generalize a.tmps.getD 35 undef = x35
                    generalize a.tmps.getD 36 undef = x36
                    generalize a.tmps.getD 37 undef = x37
                    generalize a.tmps.getD 38 undef = x38
                    generalize a.tmps.getD 39 undef = x39
                    generalize a.tmps.getD 40 undef = x40
                    generalize a.tmps.getD 41 undef = x41
                    generalize a.tmps.getD 42 undef = x42
                    generalize a.tmps.getD 43 undef = x43
                    generalize a.tmps.getD 44 undef = x44
                    generalize a.tmps.getD 45 undef = x45
                    generalize a.tmps.getD 46 undef = x46
                    generalize a.tmps.getD 47 undef = x47
                    generalize a.tmps.getD 48 undef = x48
                    generalize a.tmps.getD 49 undef = x49
                    generalize a.tmps.getD 50 undef = x50
                    generalize a.tmps.getD 51 undef = x51
                    generalize a.tmps.getD 52 undef = x52
                    generalize a.tmps.getD 53 undef = x53
                    generalize a.tmps.getD 54 undef = x54
                    generalize a.tmps.getD 55 undef = x55
                    generalize a.tmps.getD 56 undef = x56
                    generalize a.tmps.getD 57 undef = x57
                    generalize a.tmps.getD 58 undef = x58
                    generalize a.tmps.getD 59 undef = x59
                    generalize a.tmps.getD 60 undef = x60
                    generalize a.tmps.getD 61 undef = x61
                    generalize a.tmps.getD 62 undef = x62
                    generalize a.tmps.getD 63 undef = x63
                    generalize a.tmps.getD 64 undef = x64
                    generalize a.tmps.getD 65 undef = x65
                    generalize a.tmps.getD 66 undef = x66
                    generalize a.tmps.getD 67 undef = x67
                    generalize a.tmps.getD 68 undef = x68
                    generalize a.tmps.getD 69 undef = x69
                    generalize a.tmps.getD 70 undef = x70
                    generalize a.tmps.getD 71 undef = x71
                    generalize a.tmps.getD 72 undef = x72
                    generalize a.tmps.getD 73 undef = x73
                    generalize a.tmps.getD 74 undef = x74
                    generalize a.tmps.getD 75 undef = x75
                    generalize a.tmps.getD 76 undef = x76
                    generalize a.tmps.getD 77 undef = x77
                    generalize a.tmps.getD 78 undef = x78
                    generalize a.tmps.getD 79 undef = x79
                    generalize a.tmps.getD 80 undef = x80
                    generalize a.tmps.getD 81 undef = x81
                    generalize a.tmps.getD 82 undef = x82
                    generalize a.tmps.getD 83 undef = x83
                    generalize a.tmps.getD 84 undef = x84
                    generalize a.tmps.getD 85 undef = x85
                    generalize a.tmps.getD 86 undef = x86
                    generalize a.tmps.getD 87 undef = x87
                    generalize a.tmps.getD 88 undef = x88
                    generalize a.tmps.getD 89 undef = x89
                    generalize a.tmps.getD 90 undef = x90
                    generalize a.tmps.getD 91 undef = x91
                    generalize a.tmps.getD 92 undef = x92
                    generalize a.tmps.getD 93 undef = x93
                    generalize a.tmps.getD 94 undef = x94
                    generalize a.tmps.getD 95 undef = x95
                    generalize a.tmps.getD 96 undef = x96
                    generalize a.tmps.getD 97 undef = x97
                    generalize a.tmps.getD 98 undef = x98
                    generalize a.tmps.getD 99 undef = x99
                    generalize a.tmps.getD 100 undef = x100
                    generalize a.tmps.getD 101 undef = x101
                    generalize a.tmps.getD 102 undef = x102
                    generalize a.tmps.getD 103 undef = x103
                    generalize a.tmps.getD 104 undef = x104
                    generalize a.tmps.getD 105 undef = x105
                    generalize a.tmps.getD 106 undef = x106
                    generalize a.tmps.getD 107 undef = x107
                    generalize a.tmps.getD 108 undef = x108
                    generalize a.tmps.getD 109 undef = x109
                    generalize a.tmps.getD 110 undef = x110
                    generalize a.tmps.getD 111 undef = x111
                    generalize a.tmps.getD 112 undef = x112
                    generalize a.tmps.getD 113 undef = x113
                    generalize a.tmps.getD 114 undef = x114
                    generalize a.tmps.getD 115 undef = x115
                    generalize a.tmps.getD 116 undef = x116
                    generalize a.tmps.getD 117 undef = x117
                    generalize a.tmps.getD 118 undef = x118
                    generalize a.tmps.getD 119 undef = x119
                    generalize a.tmps.getD 120 undef = x120
                    generalize a.tmps.getD 121 undef = x121
                    generalize a.tmps.getD 122 undef = x122
                    generalize a.tmps.getD 123 undef = x123
                    generalize a.tmps.getD 124 undef = x124
                    generalize a.tmps.getD 125 undef = x125
                    generalize a.tmps.getD 126 undef = x126
                    generalize a.tmps.getD 127 undef = x127
                    generalize a.tmps.getD 128 undef = x128
                    generalize a.tmps.getD 129 undef = x129
                    generalize a.tmps.getD 130 undef = x130
                    generalize a.tmps.getD 131 undef = x131
                    generalize a.tmps.getD 132 undef = x132
                    generalize a.tmps.getD 133 undef = x133
                    generalize a.tmps.getD 134 undef = x134
                    generalize a.tmps.getD 135 undef = x135
                    generalize a.tmps.getD 136 undef = x136
                    generalize a.tmps.getD 137 undef = x137
                    generalize a.tmps.getD 138 undef = x138
                    obtain ⟨a13, c13, e13, _, hf⟩ := hv13.ws.form
                    obtain ⟨gm, om, rfl, hat⟩ := hf 0 _ rfl
                    simp only [List.length_cons, List.length_nil, Nat.zero_add] at e13
                    subst e13
                    obtain ⟨m0, m1, m2, _⟩ := hat
                    simp only [Nat.zero_mul, Nat.add_zero] at m0 m1 m2
                    have HM0 := Lib.hid m0
                    have HM1 := Lib.hid m1
                    have HM2' := Lib.hid m2
                    have HX8 := Lib.hid (HX7.out.later hl)
                    have HB8 := Lib.hid (HB7.out.later hl)
                    have HR8 := Lib.hid (HR7.out.later hl)
                    have HL8 := Lib.hid (gtrans HL7.out hl)
                    obtain ⟨Y, hYd⟩ : ∃ Y, cu R (-9223372036854775808) x.f = Y := ⟨_, rfl⟩
                    have HYR := Lib.hid hYd
                    have HYX : Hid (cu X (-9223372036854775808) x.f = Y) := Lib.hid (by rw [← hYd]; exact top_low (s := (⟨x.f, x.t, x.m, T⟩ : Sp)) _ HPT.out HXF.out HR.out)
                    have HY0 : Hid (∀ y ∈ Y, y.p = 0) := Lib.hid (by rw [← hYd]; exact cu_zero HR.out.row.pri _ _)
                    have HY5 : Hid (Y.length ≤ 50000) := Lib.hid (by rw [← hYd]; have := cu_len R (-9223372036854775808) x.f; have := HR5.out; omega)
                    have Z1 := Lib.hid (fun W (g : Later w8 W) => same_any _ _ X X W (HX8.out.later g) (HY7.out.later (gtrans hl g)))
                    rw [decide_eq_true rfl] at Z1
                    clear hv13 hl hf m0 m1 m2 hYd
                    go_wp2_with fail
                    refine region_each (TC gm om c13 w.heap.size w8.heap.size a9 a11 a2 nx c9 c11 mr c2 x X R Y) (by kernel_rfl) (by kernel_rfl) (TC.later gm om c13 w.heap.size w8.heap.size a9 a11 a2 nx c9 c11 mr c2 x X R Y) ?_ ?_
                    · intro i hi
                      match i with
                      | 0 =>
                        intro o ho
                        simp only [List.getElem?_toArray, List.getElem?_cons_zero, Option.some.injEq] at ho
                        subst ho
                        intro a W hl hold hdep
                        refine ite_yes rfl ?_
                        clear hold hdep
                        unfold Oper.wp
                        go_simp
                        refine (A.out _).mono ?_
                        rintro e w1 ⟨rfl, hg1⟩
                        exact ⟨_, rfl, rfl, hg1⟩
                      | 1 =>
                        intro o ho
                        simp only [List.getElem?_toArray, List.getElem?_cons_zero, List.getElem?_cons_succ, Option.some.injEq] at ho
                        subst ho
                        intro a W hl hold hdep
                        refine ite_yes rfl ?_
                        obtain ⟨_, h78, rfl⟩ := hdep 0 (by decide) _ _ rfl rfl
                        clear hold hdep
                        unfold Oper.wp
                        go_simp
                        exact ⟨_, rfl, rfl, Later.refl _⟩
                      | 2 =>
                        intro o ho
                        simp only [List.getElem?_toArray, List.getElem?_cons_zero, List.getElem?_cons_succ, Option.some.injEq] at ho
                        subst ho
                        intro a W hl hold hdep
                        obtain ⟨_, h79, rfl⟩ := hdep 1 (by decide) _ _ rfl rfl
                        refine ite_yes ((want_of rfl rfl rfl h79).trans rfl) ?_
                        have h10 : a.tmps[10]? = some (.int .i64 0) := hold 10 (free_of (by kernel_rfl))
                        clear hold hdep
                        unfold Oper.wp
                        go_simp
                        exact ⟨_, rfl, rfl, Later.refl _⟩
                      | 3 =>
                        intro o ho
                        simp only [List.getElem?_toArray, List.getElem?_cons_zero, List.getElem?_cons_succ, Option.some.injEq] at ho
                        subst ho
                        intro a W hl hold hdep
                        obtain ⟨_, h79, rfl⟩ := hdep 1 (by decide) _ _ rfl rfl
                        refine ite_yes ((want_of rfl rfl rfl h79).trans rfl) ?_
                        obtain ⟨_, h80, rfl⟩ := hdep 2 (by decide) _ _ rfl rfl
                        clear hold hdep
                        unfold Oper.wp
                        go_simp
                        exact ⟨_, rfl, rfl, Later.refl _⟩
                      | 4 =>
                        intro o ho
                        simp only [List.getElem?_toArray, List.getElem?_cons_zero, List.getElem?_cons_succ, Option.some.injEq] at ho
                        subst ho
                        intro a W hl hold hdep
                        refine ite_yes rfl ?_
                        obtain ⟨_, h79, rfl⟩ := hdep 1 (by decide) _ _ rfl rfl
                        obtain ⟨_, h81, rfl⟩ := hdep 3 (by decide) _ _ rfl rfl
                        clear hold hdep
                        unfold Oper.wp
                        go_simp
                        exact ⟨_, rfl, rfl, Later.refl _⟩
                      | 5 =>
                        intro o ho
                        simp only [List.getElem?_toArray, List.getElem?_cons_zero, List.getElem?_cons_succ, Option.some.injEq] at ho
                        subst ho
                        intro a W hl hold hdep
                        refine ite_yes rfl ?_
                        obtain ⟨_, h82, rfl⟩ := hdep 4 (by decide) _ _ rfl rfl
                        clear hold hdep
                        unfold Oper.wp
                        go_simp
                        exact ⟨_, rfl, rfl, Later.refl _⟩
                      | 6 =>
                        intro o ho
                        simp only [List.getElem?_toArray, List.getElem?_cons_zero, List.getElem?_cons_succ, Option.some.injEq] at ho
                        subst ho
                        intro a W hl hold hdep
                        obtain ⟨_, h83, rfl⟩ := hdep 5 (by decide) _ _ rfl rfl
                        refine ite_yes ((want_of rfl rfl rfl h83).trans rfl) ?_
                        have h12 : a.tmps[12]? = some (.int .i64 0) := hold 12 (free_of (by kernel_rfl))
                        clear hold hdep
                        unfold Oper.wp
                        go_simp
                        exact ⟨_, rfl, rfl, Later.refl _⟩
                      | 7 =>
                        intro o ho
                        simp only [List.getElem?_toArray, List.getElem?_cons_zero, List.getElem?_cons_succ, Option.some.injEq] at ho
                        subst ho
                        intro a W hl hold hdep
                        obtain ⟨_, h83, rfl⟩ := hdep 5 (by decide) _ _ rfl rfl
                        refine ite_yes ((want_of rfl rfl rfl h83).trans rfl) ?_
                        obtain ⟨_, h84, rfl⟩ := hdep 6 (by decide) _ _ rfl rfl
                        clear hold hdep
                        unfold Oper.wp
                        go_simp
                        exact ⟨_, rfl, rfl, Later.refl _⟩
                      | 8 =>
                        intro o ho
                        simp only [List.getElem?_toArray, List.getElem?_cons_zero, List.getElem?_cons_succ, Option.some.injEq] at ho
                        subst ho
                        intro a W hl hold hdep
                        refine ite_yes rfl ?_
                        obtain ⟨_, h83, rfl⟩ := hdep 5 (by decide) _ _ rfl rfl
                        obtain ⟨_, h85, rfl⟩ := hdep 7 (by decide) _ _ rfl rfl
                        clear hold hdep
                        unfold Oper.wp
                        go_simp
                        exact ⟨_, rfl, rfl, Later.refl _⟩
                      | 9 =>
                        intro o ho
                        simp only [List.getElem?_toArray, List.getElem?_cons_zero, List.getElem?_cons_succ, Option.some.injEq] at ho
                        subst ho
                        intro a W hl hold hdep
                        refine ite_yes rfl ?_
                        obtain ⟨_, h86, rfl⟩ := hdep 8 (by decide) _ _ rfl rfl
                        clear hold hdep
                        unfold Oper.wp
                        go_simp
                        exact ⟨_, rfl, rfl, Later.refl _⟩
                      | 10 =>
                        intro o ho
                        simp only [List.getElem?_toArray, List.getElem?_cons_zero, List.getElem?_cons_succ, Option.some.injEq] at ho
                        subst ho
                        intro a W hl hold hdep
                        obtain ⟨_, h87, rfl⟩ := hdep 9 (by decide) _ _ rfl rfl
                        refine ite_yes ((want_of rfl rfl rfl h87).trans rfl) ?_
                        have h9 : a.tmps[9]? = some (.slice a9 nx c9) := hold 9 (free_of (by kernel_rfl))
                        clear hold hdep
                        unfold Oper.wp
                        go_simp
                        exact ⟨_, rfl, rfl, Later.refl _⟩
                      | 11 =>
                        intro o ho
                        simp only [List.getElem?_toArray, List.getElem?_cons_zero, List.getElem?_cons_succ, Option.some.injEq] at ho
                        subst ho
                        intro a W hl hold hdep
                        obtain ⟨_, h87, rfl⟩ := hdep 9 (by decide) _ _ rfl rfl
                        refine ite_yes ((want_of rfl rfl rfl h87).trans rfl) ?_
                        have h11 : a.tmps[11]? = some (.slice a11 nx c11) := hold 11 (free_of (by kernel_rfl))
                        clear hold hdep
                        unfold Oper.wp
                        go_simp
                        exact ⟨_, rfl, rfl, Later.refl _⟩
                      | 12 =>
                        intro o ho
                        simp only [List.getElem?_toArray, List.getElem?_cons_zero, List.getElem?_cons_succ, Option.some.injEq] at ho
                        subst ho
                        intro a W hl hold hdep
                        obtain ⟨_, h87, rfl⟩ := hdep 9 (by decide) _ _ rfl rfl
                        refine ite_yes ((want_of rfl rfl rfl h87).trans rfl) ?_
                        obtain ⟨_, h88, rfl⟩ := hdep 10 (by decide) _ _ rfl rfl
                        obtain ⟨_, h89, rfl⟩ := hdep 11 (by decide) _ _ rfl rfl
                        clear hold hdep
                        unfold Oper.wp
                        go_simp
                        refine (Z1.out _ hl).mono ?_
                        rintro e w1 ⟨rfl, hg1⟩
                        exact ⟨_, rfl, rfl, hg1⟩
                      | 13 =>
                        intro o ho
                        simp only [List.getElem?_toArray, List.getElem?_cons_zero, List.getElem?_cons_succ, Option.some.injEq] at ho
                        subst ho
                        intro a W hl hold hdep
                        refine ite_yes rfl ?_
                        obtain ⟨_, h87, rfl⟩ := hdep 9 (by decide) _ _ rfl rfl
                        obtain ⟨_, h90, rfl⟩ := hdep 12 (by decide) _ _ rfl rfl
                        clear hold hdep
                        unfold Oper.wp
                        go_simp
                        exact ⟨_, rfl, rfl, Later.refl _⟩
                      | 14 =>
                        intro o ho
                        simp only [List.getElem?_toArray, List.getElem?_cons_zero, List.getElem?_cons_succ, Option.some.injEq] at ho
                        subst ho
                        intro a W hl hold hdep
                        refine ite_yes rfl ?_
                        obtain ⟨_, h91, rfl⟩ := hdep 13 (by decide) _ _ rfl rfl
                        clear hold hdep
                        unfold Oper.wp
                        go_simp
                        exact ⟨_, rfl, rfl, Later.refl _⟩
                      | 15 =>
                        intro o ho
                        simp only [List.getElem?_toArray, List.getElem?_cons_zero, List.getElem?_cons_succ, Option.some.injEq] at ho
                        subst ho
                        intro a W hl hold hdep
                        obtain ⟨_, h92, rfl⟩ := hdep 14 (by decide) _ _ rfl rfl
                        refine ite_yes ((want_of rfl rfl rfl h92).trans rfl) ?_
                        have h13 : a.tmps[13]? = some (.slice (some ⟨gm, om, none⟩) 1 c13) := hold 13 (free_of (by kernel_rfl))
                        clear hold hdep
                        unfold Oper.wp
                        go_simp
                        exact ⟨_, rfl, rfl, Later.refl _⟩
                      | 16 =>
                        intro o ho
                        simp only [List.getElem?_toArray, List.getElem?_cons_zero, List.getElem?_cons_succ, Option.some.injEq] at ho
                        subst ho
                        intro a W hl hold hdep
                        obtain ⟨_, h92, rfl⟩ := hdep 14 (by decide) _ _ rfl rfl
                        refine ite_yes ((want_of rfl rfl rfl h92).trans rfl) ?_
                        obtain ⟨_, h93, rfl⟩ := hdep 15 (by decide) _ _ rfl rfl
                        clear hold hdep
                        unfold Oper.wp
                        go_simp
                        exact ⟨_, rfl, rfl, Later.refl _⟩
                      | 17 =>
                        intro o ho
                        simp only [List.getElem?_toArray, List.getElem?_cons_zero, List.getElem?_cons_succ, Option.some.injEq] at ho
                        subst ho
                        intro a W hl hold hdep
                        obtain ⟨_, h92, rfl⟩ := hdep 14 (by decide) _ _ rfl rfl
                        refine ite_yes ((want_of rfl rfl rfl h92).trans rfl) ?_
                        obtain ⟨_, h94, rfl⟩ := hdep 16 (by decide) _ _ rfl rfl
                        clear hold hdep
                        unfold Oper.wp
                        go_simp
                        exact ⟨_, rfl, rfl, Later.refl _⟩
                      | 18 =>
                        intro o ho
                        simp only [List.getElem?_toArray, List.getElem?_cons_zero, List.getElem?_cons_succ, Option.some.injEq] at ho
                        subst ho
                        intro a W hl hold hdep
                        refine ite_yes rfl ?_
                        obtain ⟨_, h92, rfl⟩ := hdep 14 (by decide) _ _ rfl rfl
                        obtain ⟨_, h95, rfl⟩ := hdep 17 (by decide) _ _ rfl rfl
                        clear hold hdep
                        unfold Oper.wp
                        go_simp
                        exact ⟨_, rfl, rfl, Later.refl _⟩
                      | 19 =>
                        intro o ho
                        simp only [List.getElem?_toArray, List.getElem?_cons_zero, List.getElem?_cons_succ, Option.some.injEq] at ho
                        subst ho
                        intro a W hl hold hdep
                        refine ite_yes rfl ?_
                        obtain ⟨_, h96, rfl⟩ := hdep 18 (by decide) _ _ rfl rfl
                        clear hold hdep
                        unfold Oper.wp
                        go_simp
                        exact ⟨_, rfl, rfl, Later.refl _⟩
                      | 20 =>
                        intro o ho
                        simp only [List.getElem?_toArray, List.getElem?_cons_zero, List.getElem?_cons_succ, Option.some.injEq] at ho
                        subst ho
                        intro a W hl hold hdep
                        obtain ⟨_, h97, rfl⟩ := hdep 19 (by decide) _ _ rfl rfl
                        refine ite_yes ((want_of rfl rfl rfl h97).trans rfl) ?_
                        have h13 : a.tmps[13]? = some (.slice (some ⟨gm, om, none⟩) 1 c13) := hold 13 (free_of (by kernel_rfl))
                        clear hold hdep
                        unfold Oper.wp
                        go_simp
                        exact ⟨_, rfl, rfl, Later.refl _⟩
                      | 21 =>
                        intro o ho
                        simp only [List.getElem?_toArray, List.getElem?_cons_zero, List.getElem?_cons_succ, Option.some.injEq] at ho
                        subst ho
                        intro a W hl hold hdep
                        obtain ⟨_, h97, rfl⟩ := hdep 19 (by decide) _ _ rfl rfl
                        refine ite_yes ((want_of rfl rfl rfl h97).trans rfl) ?_
                        obtain ⟨_, h98, rfl⟩ := hdep 20 (by decide) _ _ rfl rfl
                        clear hold hdep
                        unfold Oper.wp
                        go_simp
                        exact ⟨_, rfl, rfl, Later.refl _⟩
                      | 22 =>
                        intro o ho
                        simp only [List.getElem?_toArray, List.getElem?_cons_zero, List.getElem?_cons_succ, Option.some.injEq] at ho
                        subst ho
                        intro a W hl hold hdep
                        obtain ⟨_, h97, rfl⟩ := hdep 19 (by decide) _ _ rfl rfl
                        refine ite_yes ((want_of rfl rfl rfl h97).trans rfl) ?_
                        obtain ⟨_, h99, rfl⟩ := hdep 21 (by decide) _ _ rfl rfl
                        clear hold hdep
                        unfold Oper.wp
                        go_simp
                        exact ⟨_, rfl, rfl, Later.refl _⟩
                      | 23 =>
                        intro o ho
                        simp only [List.getElem?_toArray, List.getElem?_cons_zero, List.getElem?_cons_succ, Option.some.injEq] at ho
                        subst ho
                        intro a W hl hold hdep
                        obtain ⟨_, h97, rfl⟩ := hdep 19 (by decide) _ _ rfl rfl
                        refine ite_yes ((want_of rfl rfl rfl h97).trans rfl) ?_
                        obtain ⟨_, h100, rfl⟩ := hdep 22 (by decide) _ _ rfl rfl
                        have em := gsome hl HM2'.out
                        clear hold hdep
                        unfold Oper.wp
                        go_simp
                        exact ⟨_, rfl, rfl, Later.refl _⟩
                      | 24 =>
                        intro o ho
                        simp only [List.getElem?_toArray, List.getElem?_cons_zero, List.getElem?_cons_succ, Option.some.injEq] at ho
                        subst ho
                        intro a W hl hold hdep
                        obtain ⟨_, h97, rfl⟩ := hdep 19 (by decide) _ _ rfl rfl
                        refine ite_yes ((want_of rfl rfl rfl h97).trans rfl) ?_
                        have h3 : a.tmps[3]? = some (.pointer (some ⟨w.heap.size, 0, none⟩)) := hold 3 (free_of (by kernel_rfl))
                        clear hold hdep
                        unfold Oper.wp
                        go_simp
                        exact ⟨_, rfl, rfl, Later.refl _⟩
                      | 25 =>
                        intro o ho
                        simp only [List.getElem?_toArray, List.getElem?_cons_zero, List.getElem?_cons_succ, Option.some.injEq] at ho
                        subst ho
                        intro a W hl hold hdep
                        obtain ⟨_, h97, rfl⟩ := hdep 19 (by decide) _ _ rfl rfl
                        refine ite_yes ((want_of rfl rfl rfl h97).trans rfl) ?_
                        obtain ⟨_, h102, rfl⟩ := hdep 24 (by decide) _ _ rfl rfl
                        have e2 := (HB8.out.later hl).cell 2 _ rfl
                        clear hold hdep
                        unfold Oper.wp
                        go_simp
                        exact ⟨_, rfl, rfl, Later.refl _⟩
                      | 26 =>
                        intro o ho
                        simp only [List.getElem?_toArray, List.getElem?_cons_zero, List.getElem?_cons_succ, Option.some.injEq] at ho
                        subst ho
                        intro a W hl hold hdep
                        obtain ⟨_, h97, rfl⟩ := hdep 19 (by decide) _ _ rfl rfl
                        refine ite_yes ((want_of rfl rfl rfl h97).trans rfl) ?_
                        obtain ⟨_, h101, rfl⟩ := hdep 23 (by decide) _ _ rfl rfl
                        obtain ⟨_, h103, rfl⟩ := hdep 25 (by decide) _ _ rfl rfl
                        clear hold hdep
                        unfold Oper.wp
                        go_simp
                        exact ⟨_, rfl, rfl, Later.refl _⟩
                      | 27 =>
                        intro o ho
                        simp only [List.getElem?_toArray, List.getElem?_cons_zero, List.getElem?_cons_succ, Option.some.injEq] at ho
                        subst ho
                        intro a W hl hold hdep
                        refine ite_yes rfl ?_
                        obtain ⟨_, h97, rfl⟩ := hdep 19 (by decide) _ _ rfl rfl
                        obtain ⟨_, h104, rfl⟩ := hdep 26 (by decide) _ _ rfl rfl
                        clear hold hdep
                        unfold Oper.wp
                        go_simp
                        exact ⟨_, rfl, rfl, Later.refl _⟩
                      | 28 =>
                        intro o ho
                        simp only [List.getElem?_toArray, List.getElem?_cons_zero, List.getElem?_cons_succ, Option.some.injEq] at ho
                        subst ho
                        intro a W hl hold hdep
                        refine ite_yes rfl ?_
                        obtain ⟨_, h105, rfl⟩ := hdep 27 (by decide) _ _ rfl rfl
                        clear hold hdep
                        unfold Oper.wp
                        go_simp
                        exact ⟨_, rfl, rfl, Later.refl _⟩
                      | 29 =>
                        intro o ho
                        simp only [List.getElem?_toArray, List.getElem?_cons_zero, List.getElem?_cons_succ, Option.some.injEq] at ho
                        subst ho
                        intro a W hl hold hdep
                        obtain ⟨_, h106, rfl⟩ := hdep 28 (by decide) _ _ rfl rfl
                        refine ite_yes ((want_of rfl rfl rfl h106).trans rfl) ?_
                        have h13 : a.tmps[13]? = some (.slice (some ⟨gm, om, none⟩) 1 c13) := hold 13 (free_of (by kernel_rfl))
                        clear hold hdep
                        unfold Oper.wp
                        go_simp
                        exact ⟨_, rfl, rfl, Later.refl _⟩
                      | 30 =>
                        intro o ho
                        simp only [List.getElem?_toArray, List.getElem?_cons_zero, List.getElem?_cons_succ, Option.some.injEq] at ho
                        subst ho
                        intro a W hl hold hdep
                        obtain ⟨_, h106, rfl⟩ := hdep 28 (by decide) _ _ rfl rfl
                        refine ite_yes ((want_of rfl rfl rfl h106).trans rfl) ?_
                        obtain ⟨_, h107, rfl⟩ := hdep 29 (by decide) _ _ rfl rfl
                        clear hold hdep
                        unfold Oper.wp
                        go_simp
                        exact ⟨_, rfl, rfl, Later.refl _⟩
                      | 31 =>
                        intro o ho
                        simp only [List.getElem?_toArray, List.getElem?_cons_zero, List.getElem?_cons_succ, Option.some.injEq] at ho
                        subst ho
                        intro a W hl hold hdep
                        obtain ⟨_, h106, rfl⟩ := hdep 28 (by decide) _ _ rfl rfl
                        refine ite_yes ((want_of rfl rfl rfl h106).trans rfl) ?_
                        obtain ⟨_, h108, rfl⟩ := hdep 30 (by decide) _ _ rfl rfl
                        clear hold hdep
                        unfold Oper.wp
                        go_simp
                        exact ⟨_, rfl, rfl, Later.refl _⟩
                      | 32 =>
                        intro o ho
                        simp only [List.getElem?_toArray, List.getElem?_cons_zero, List.getElem?_cons_succ, Option.some.injEq] at ho
                        subst ho
                        intro a W hl hold hdep
                        obtain ⟨_, h106, rfl⟩ := hdep 28 (by decide) _ _ rfl rfl
                        refine ite_yes ((want_of rfl rfl rfl h106).trans rfl) ?_
                        obtain ⟨_, h109, rfl⟩ := hdep 31 (by decide) _ _ rfl rfl
                        have em := gsome hl HM0.out
                        clear hold hdep
                        unfold Oper.wp
                        go_simp
                        exact ⟨_, rfl, rfl, Later.refl _⟩
                      | 33 =>
                        intro o ho
                        simp only [List.getElem?_toArray, List.getElem?_cons_zero, List.getElem?_cons_succ, Option.some.injEq] at ho
                        subst ho
                        intro a W hl hold hdep
                        obtain ⟨_, h106, rfl⟩ := hdep 28 (by decide) _ _ rfl rfl
                        refine ite_yes ((want_of rfl rfl rfl h106).trans rfl) ?_
                        have h3 : a.tmps[3]? = some (.pointer (some ⟨w.heap.size, 0, none⟩)) := hold 3 (free_of (by kernel_rfl))
                        clear hold hdep
                        unfold Oper.wp
                        go_simp
                        exact ⟨_, rfl, rfl, Later.refl _⟩
                      | 34 =>
                        intro o ho
                        simp only [List.getElem?_toArray, List.getElem?_cons_zero, List.getElem?_cons_succ, Option.some.injEq] at ho
                        subst ho
                        intro a W hl hold hdep
                        obtain ⟨_, h106, rfl⟩ := hdep 28 (by decide) _ _ rfl rfl
                        refine ite_yes ((want_of rfl rfl rfl h106).trans rfl) ?_
                        obtain ⟨_, h111, rfl⟩ := hdep 33 (by decide) _ _ rfl rfl
                        have e0 := (HB8.out.later hl).cell 0 _ rfl
                        clear hold hdep
                        unfold Oper.wp
                        go_simp
                        exact ⟨_, rfl, rfl, Later.refl _⟩
                      | 35 =>
                        intro o ho
                        simp only [List.getElem?_toArray, List.getElem?_cons_zero, List.getElem?_cons_succ, Option.some.injEq] at ho
                        subst ho
                        intro a W hl hold hdep
                        obtain ⟨_, h106, rfl⟩ := hdep 28 (by decide) _ _ rfl rfl
                        refine ite_yes ((want_of rfl rfl rfl h106).trans rfl) ?_
                        obtain ⟨_, h110, rfl⟩ := hdep 32 (by decide) _ _ rfl rfl
                        obtain ⟨_, h112, rfl⟩ := hdep 34 (by decide) _ _ rfl rfl
                        clear hold hdep
                        unfold Oper.wp
                        go_simp
                        exact ⟨_, rfl, rfl, Later.refl _⟩
                      | 36 =>
                        intro o ho
                        simp only [List.getElem?_toArray, List.getElem?_cons_zero, List.getElem?_cons_succ, Option.some.injEq] at ho
                        subst ho
                        intro a W hl hold hdep
                        refine ite_yes rfl ?_
                        obtain ⟨_, h106, rfl⟩ := hdep 28 (by decide) _ _ rfl rfl
                        obtain ⟨_, h113, rfl⟩ := hdep 35 (by decide) _ _ rfl rfl
                        clear hold hdep
                        unfold Oper.wp
                        go_simp
                        exact ⟨_, rfl, rfl, Later.refl _⟩
                      | 37 =>
                        intro o ho
                        simp only [List.getElem?_toArray, List.getElem?_cons_zero, List.getElem?_cons_succ, Option.some.injEq] at ho
                        subst ho
                        intro a W hl hold hdep
                        refine ite_yes rfl ?_
                        obtain ⟨_, h114, rfl⟩ := hdep 36 (by decide) _ _ rfl rfl
                        clear hold hdep
                        unfold Oper.wp
                        go_simp
                        exact ⟨_, rfl, rfl, Later.refl _⟩
                      | 38 =>
                        intro o ho
                        simp only [List.getElem?_toArray, List.getElem?_cons_zero, List.getElem?_cons_succ, Option.some.injEq] at ho
                        subst ho
                        intro a W hl hold hdep
                        obtain ⟨_, h115, rfl⟩ := hdep 37 (by decide) _ _ rfl rfl
                        refine ite_yes ((want_of rfl rfl rfl h115).trans rfl) ?_
                        have h13 : a.tmps[13]? = some (.slice (some ⟨gm, om, none⟩) 1 c13) := hold 13 (free_of (by kernel_rfl))
                        clear hold hdep
                        unfold Oper.wp
                        go_simp
                        exact ⟨_, rfl, rfl, Later.refl _⟩
                      | 39 =>
                        intro o ho
                        simp only [List.getElem?_toArray, List.getElem?_cons_zero, List.getElem?_cons_succ, Option.some.injEq] at ho
                        subst ho
                        intro a W hl hold hdep
                        obtain ⟨_, h115, rfl⟩ := hdep 37 (by decide) _ _ rfl rfl
                        refine ite_yes ((want_of rfl rfl rfl h115).trans rfl) ?_
                        obtain ⟨_, h116, rfl⟩ := hdep 38 (by decide) _ _ rfl rfl
                        clear hold hdep
                        unfold Oper.wp
                        go_simp
                        exact ⟨_, rfl, rfl, Later.refl _⟩
                      | 40 =>
                        intro o ho
                        simp only [List.getElem?_toArray, List.getElem?_cons_zero, List.getElem?_cons_succ, Option.some.injEq] at ho
                        subst ho
                        intro a W hl hold hdep
                        obtain ⟨_, h115, rfl⟩ := hdep 37 (by decide) _ _ rfl rfl
                        refine ite_yes ((want_of rfl rfl rfl h115).trans rfl) ?_
                        obtain ⟨_, h117, rfl⟩ := hdep 39 (by decide) _ _ rfl rfl
                        clear hold hdep
                        unfold Oper.wp
                        go_simp
                        exact ⟨_, rfl, rfl, Later.refl _⟩
                      | 41 =>
                        intro o ho
                        simp only [List.getElem?_toArray, List.getElem?_cons_zero, List.getElem?_cons_succ, Option.some.injEq] at ho
                        subst ho
                        intro a W hl hold hdep
                        obtain ⟨_, h115, rfl⟩ := hdep 37 (by decide) _ _ rfl rfl
                        refine ite_yes ((want_of rfl rfl rfl h115).trans rfl) ?_
                        obtain ⟨_, h118, rfl⟩ := hdep 40 (by decide) _ _ rfl rfl
                        have em := gsome hl HM1.out
                        clear hold hdep
                        unfold Oper.wp
                        go_simp
                        exact ⟨_, rfl, rfl, Later.refl _⟩
                      | 42 =>
                        intro o ho
                        simp only [List.getElem?_toArray, List.getElem?_cons_zero, List.getElem?_cons_succ, Option.some.injEq] at ho
                        subst ho
                        intro a W hl hold hdep
                        obtain ⟨_, h115, rfl⟩ := hdep 37 (by decide) _ _ rfl rfl
                        refine ite_yes ((want_of rfl rfl rfl h115).trans rfl) ?_
                        have h3 : a.tmps[3]? = some (.pointer (some ⟨w.heap.size, 0, none⟩)) := hold 3 (free_of (by kernel_rfl))
                        clear hold hdep
                        unfold Oper.wp
                        go_simp
                        exact ⟨_, rfl, rfl, Later.refl _⟩
                      | 43 =>
                        intro o ho
                        simp only [List.getElem?_toArray, List.getElem?_cons_zero, List.getElem?_cons_succ, Option.some.injEq] at ho
                        subst ho
                        intro a W hl hold hdep
                        obtain ⟨_, h115, rfl⟩ := hdep 37 (by decide) _ _ rfl rfl
                        refine ite_yes ((want_of rfl rfl rfl h115).trans rfl) ?_
                        obtain ⟨_, h120, rfl⟩ := hdep 42 (by decide) _ _ rfl rfl
                        have e1 := (HB8.out.later hl).cell 1 _ rfl
                        clear hold hdep
                        unfold Oper.wp
                        go_simp
                        exact ⟨_, rfl, rfl, Later.refl _⟩
                      | 44 =>
                        intro o ho
                        simp only [List.getElem?_toArray, List.getElem?_cons_zero, List.getElem?_cons_succ, Option.some.injEq] at ho
                        subst ho
                        intro a W hl hold hdep
                        obtain ⟨_, h115, rfl⟩ := hdep 37 (by decide) _ _ rfl rfl
                        refine ite_yes ((want_of rfl rfl rfl h115).trans rfl) ?_
                        obtain ⟨_, h119, rfl⟩ := hdep 41 (by decide) _ _ rfl rfl
                        obtain ⟨_, h121, rfl⟩ := hdep 43 (by decide) _ _ rfl rfl
                        clear hold hdep
                        unfold Oper.wp
                        go_simp
                        exact ⟨_, rfl, rfl, Later.refl _⟩
                      | 45 =>
                        intro o ho
                        simp only [List.getElem?_toArray, List.getElem?_cons_zero, List.getElem?_cons_succ, Option.some.injEq] at ho
                        subst ho
                        intro a W hl hold hdep
                        refine ite_yes rfl ?_
                        obtain ⟨_, h115, rfl⟩ := hdep 37 (by decide) _ _ rfl rfl
                        obtain ⟨_, h122, rfl⟩ := hdep 44 (by decide) _ _ rfl rfl
                        clear hold hdep
                        unfold Oper.wp
                        go_simp
                        exact ⟨_, rfl, rfl, Later.refl _⟩
                      | 46 =>
                        intro o ho
                        simp only [List.getElem?_toArray, List.getElem?_cons_zero, List.getElem?_cons_succ, Option.some.injEq] at ho
                        subst ho
                        intro a W hl hold hdep
                        refine ite_yes rfl ?_
                        obtain ⟨_, h123, rfl⟩ := hdep 45 (by decide) _ _ rfl rfl
                        clear hold hdep
                        unfold Oper.wp
                        go_simp
                        exact ⟨_, rfl, rfl, Later.refl _⟩
                      | 47 =>
                        intro o ho
                        simp only [List.getElem?_toArray, List.getElem?_cons_zero, List.getElem?_cons_succ, Option.some.injEq] at ho
                        subst ho
                        intro a W hl hold hdep
                        obtain ⟨_, h124, rfl⟩ := hdep 46 (by decide) _ _ rfl rfl
                        refine ite_yes ((want_of rfl rfl rfl h124).trans rfl) ?_
                        have h9 : a.tmps[9]? = some (.slice a9 nx c9) := hold 9 (free_of (by kernel_rfl))
                        clear hold hdep
                        unfold Oper.wp
                        go_simp
                        exact ⟨_, rfl, rfl, Later.refl _⟩
                      | 48 =>
                        intro o ho
                        simp only [List.getElem?_toArray, List.getElem?_cons_zero, List.getElem?_cons_succ, Option.some.injEq] at ho
                        subst ho
                        intro a W hl hold hdep
                        obtain ⟨_, h124, rfl⟩ := hdep 46 (by decide) _ _ rfl rfl
                        refine ite_yes ((want_of rfl rfl rfl h124).trans rfl) ?_
                        obtain ⟨_, h125, rfl⟩ := hdep 47 (by decide) _ _ rfl rfl
                        clear hold hdep
                        unfold Oper.wp
                        go_simp
                        refine (O.out _ _ X (HX8.out.later hl) HX5.out).mono ?_
                        rintro e w1 ⟨p, rfl, hp, hg1⟩
                        exact ⟨_, rfl, hp.base hl.size, hg1⟩
                      | 49 =>
                        intro o ho
                        simp only [List.getElem?_toArray, List.getElem?_cons_zero, List.getElem?_cons_succ, Option.some.injEq] at ho
                        subst ho
                        intro a W hl hold hdep
                        obtain ⟨_, h124, rfl⟩ := hdep 46 (by decide) _ _ rfl rfl
                        refine ite_yes ((want_of rfl rfl rfl h124).trans rfl) ?_
                        have h3 : a.tmps[3]? = some (.pointer (some ⟨w.heap.size, 0, none⟩)) := hold 3 (free_of (by kernel_rfl))
                        clear hold hdep
                        unfold Oper.wp
                        go_simp
                        exact ⟨_, rfl, rfl, Later.refl _⟩
                      | 50 =>
                        intro o ho
                        simp only [List.getElem?_toArray, List.getElem?_cons_zero, List.getElem?_cons_succ, Option.some.injEq] at ho
                        subst ho
                        intro a W hl hold hdep
                        obtain ⟨_, h124, rfl⟩ := hdep 46 (by decide) _ _ rfl rfl
                        refine ite_yes ((want_of rfl rfl rfl h124).trans rfl) ?_
                        obtain ⟨_, h127, rfl⟩ := hdep 49 (by decide) _ _ rfl rfl
                        have e0 := (HB8.out.later hl).cell 0 _ rfl
                        clear hold hdep
                        unfold Oper.wp
                        go_simp
                        exact ⟨_, rfl, rfl, Later.refl _⟩
                      | 51 =>
                        intro o ho
                        simp only [List.getElem?_toArray, List.getElem?_cons_zero, List.getElem?_cons_succ, Option.some.injEq] at ho
                        subst ho
                        intro a W hl hold hdep
                        obtain ⟨_, h124, rfl⟩ := hdep 46 (by decide) _ _ rfl rfl
                        refine ite_yes ((want_of rfl rfl rfl h124).trans rfl) ?_
                        obtain ⟨_, h126, hv126⟩ := hdep 48 (by decide) _ _ rfl rfl
                        obtain ⟨_, h128, rfl⟩ := hdep 50 (by decide) _ _ rfl rfl
                        clear hold hdep
                        unfold Oper.wp
                        go_simp
                        refine (C.out _ _ X (-9223372036854775808) x.f hv126.ws (by have := HX5.out; omega)).mono ?_
                        rintro e w1 ⟨p, rfl, hp, hg1⟩
                        rw [HYX.out] at hp
                        exact ⟨_, rfl, hp.base hl.size, hg1⟩
                      | 52 =>
                        intro o ho
                        simp only [List.getElem?_toArray, List.getElem?_cons_zero, List.getElem?_cons_succ, Option.some.injEq] at ho
                        subst ho
                        intro a W hl hold hdep
                        obtain ⟨_, h124, rfl⟩ := hdep 46 (by decide) _ _ rfl rfl
                        refine ite_yes ((want_of rfl rfl rfl h124).trans rfl) ?_
                        obtain ⟨_, h129, hv129⟩ := hdep 51 (by decide) _ _ rfl rfl
                        clear hold hdep
                        unfold Oper.wp
                        go_simp
                        refine (modes_zero _ Y _ _ hv129 HY0.out HY5.out).mono ?_
                        rintro e w1 ⟨rfl, hg1⟩
                        exact ⟨_, rfl, WL.later hv129 hg1, hg1⟩
                      | 53 =>
                        intro o ho
                        simp only [List.getElem?_toArray, List.getElem?_cons_zero, List.getElem?_cons_succ, Option.some.injEq] at ho
                        subst ho
                        intro a W hl hold hdep
                        obtain ⟨_, h124, rfl⟩ := hdep 46 (by decide) _ _ rfl rfl
                        refine ite_yes ((want_of rfl rfl rfl h124).trans rfl) ?_
                        have h7 : a.tmps[7]? = some (.slice a2 mr c2) := hold 7 (free_of (by kernel_rfl))
                        clear hold hdep
                        unfold Oper.wp
                        go_simp
                        exact ⟨_, rfl, rfl, Later.refl _⟩
                      | 54 =>
                        intro o ho
                        simp only [List.getElem?_toArray, List.getElem?_cons_zero, List.getElem?_cons_succ, Option.some.injEq] at ho
                        subst ho
                        intro a W hl hold hdep
                        obtain ⟨_, h124, rfl⟩ := hdep 46 (by decide) _ _ rfl rfl
                        refine ite_yes ((want_of rfl rfl rfl h124).trans rfl) ?_
                        obtain ⟨_, h131, rfl⟩ := hdep 53 (by decide) _ _ rfl rfl
                        clear hold hdep
                        unfold Oper.wp
                        go_simp
                        refine (O.out _ _ R (HR8.out.later hl) HR5.out).mono ?_
                        rintro e w1 ⟨p, rfl, hp, hg1⟩
                        exact ⟨_, rfl, hp.base hl.size, hg1⟩
                      | 55 =>
                        intro o ho
                        simp only [List.getElem?_toArray, List.getElem?_cons_zero, List.getElem?_cons_succ, Option.some.injEq] at ho
                        subst ho
                        intro a W hl hold hdep
                        obtain ⟨_, h124, rfl⟩ := hdep 46 (by decide) _ _ rfl rfl
                        refine ite_yes ((want_of rfl rfl rfl h124).trans rfl) ?_
                        have h3 : a.tmps[3]? = some (.pointer (some ⟨w.heap.size, 0, none⟩)) := hold 3 (free_of (by kernel_rfl))
                        clear hold hdep
                        unfold Oper.wp
                        go_simp
                        exact ⟨_, rfl, rfl, Later.refl _⟩
                      | 56 =>
                        intro o ho
                        simp only [List.getElem?_toArray, List.getElem?_cons_zero, List.getElem?_cons_succ, Option.some.injEq] at ho
                        subst ho
                        intro a W hl hold hdep
                        obtain ⟨_, h124, rfl⟩ := hdep 46 (by decide) _ _ rfl rfl
                        refine ite_yes ((want_of rfl rfl rfl h124).trans rfl) ?_
                        obtain ⟨_, h133, rfl⟩ := hdep 55 (by decide) _ _ rfl rfl
                        have e0 := (HB8.out.later hl).cell 0 _ rfl
                        clear hold hdep
                        unfold Oper.wp
                        go_simp
                        exact ⟨_, rfl, rfl, Later.refl _⟩
                      | 57 =>
                        intro o ho
                        simp only [List.getElem?_toArray, List.getElem?_cons_zero, List.getElem?_cons_succ, Option.some.injEq] at ho
                        subst ho
                        intro a W hl hold hdep
                        obtain ⟨_, h124, rfl⟩ := hdep 46 (by decide) _ _ rfl rfl
                        refine ite_yes ((want_of rfl rfl rfl h124).trans rfl) ?_
                        obtain ⟨_, h132, hv132⟩ := hdep 54 (by decide) _ _ rfl rfl
                        obtain ⟨_, h134, rfl⟩ := hdep 56 (by decide) _ _ rfl rfl
                        clear hold hdep
                        unfold Oper.wp
                        go_simp
                        refine (C.out _ _ R (-9223372036854775808) x.f hv132.ws (by have := HR5.out; omega)).mono ?_
                        rintro e w1 ⟨p, rfl, hp, hg1⟩
                        rw [HYR.out] at hp
                        exact ⟨_, rfl, hp.base hl.size, hg1⟩
                      | 58 =>
                        intro o ho
                        simp only [List.getElem?_toArray, List.getElem?_cons_zero, List.getElem?_cons_succ, Option.some.injEq] at ho
                        subst ho
                        intro a W hl hold hdep
                        obtain ⟨_, h124, rfl⟩ := hdep 46 (by decide) _ _ rfl rfl
                        refine ite_yes ((want_of rfl rfl rfl h124).trans rfl) ?_
                        obtain ⟨_, h135, hv135⟩ := hdep 57 (by decide) _ _ rfl rfl
                        clear hold hdep
                        unfold Oper.wp
                        go_simp
                        refine (modes_zero _ Y _ _ hv135 HY0.out HY5.out).mono ?_
                        rintro e w1 ⟨rfl, hg1⟩
                        exact ⟨_, rfl, WL.later hv135 hg1, hg1⟩
                      | 59 =>
                        intro o ho
                        simp only [List.getElem?_toArray, List.getElem?_cons_zero, List.getElem?_cons_succ, Option.some.injEq] at ho
                        subst ho
                        intro a W hl hold hdep
                        obtain ⟨_, h124, rfl⟩ := hdep 46 (by decide) _ _ rfl rfl
                        refine ite_yes ((want_of rfl rfl rfl h124).trans rfl) ?_
                        obtain ⟨_, h130, hv130⟩ := hdep 52 (by decide) _ _ rfl rfl
                        obtain ⟨_, h136, hv136⟩ := hdep 58 (by decide) _ _ rfl rfl
                        clear hold hdep
                        unfold Oper.wp
                        go_simp
                        refine (same_any _ _ Y Y _ hv130.ws hv136.ws).mono ?_
                        rintro e w1 ⟨rfl, hg1⟩
                        exact ⟨_, by rw [decide_eq_true rfl], rfl, hg1⟩
                      | 60 =>
                        intro o ho
                        simp only [List.getElem?_toArray, List.getElem?_cons_zero, List.getElem?_cons_succ, Option.some.injEq] at ho
                        subst ho
                        intro a W hl hold hdep
                        refine ite_yes rfl ?_
                        obtain ⟨_, h124, rfl⟩ := hdep 46 (by decide) _ _ rfl rfl
                        obtain ⟨_, h137, rfl⟩ := hdep 59 (by decide) _ _ rfl rfl
                        clear hold hdep
                        unfold Oper.wp
                        go_simp
                        exact ⟨_, rfl, rfl, Later.refl _⟩
                      | 61 =>
                        intro o ho
                        simp only [List.getElem?_toArray, List.getElem?_cons_zero, List.getElem?_cons_succ, Option.some.injEq] at ho
                        subst ho
                        intro a W hl hold hdep
                        refine ite_yes rfl ?_
                        obtain ⟨_, h138, rfl⟩ := hdep 60 (by decide) _ _ rfl rfl
                        clear hold hdep
                        unfold Oper.wp
                        go_simp
                        exact ⟨_, rfl, rfl, Later.refl _⟩
                      | k + 62 => exact absurd hi (by simp)
                    · intro a w9 hl hd hz hold hall
                      obtain ⟨_, k4, rfl⟩ := hall 61 _ _ rfl rfl
                      have ha := act_eta a 139 [] hz hd
                      rw [show (List.range 139).map (fun s => a.tmps.getD s undef) = [a.tmps.getD 0 undef, a.tmps.getD 1 undef, a.tmps.getD 2 undef, a.tmps.getD 3 undef, a.tmps.getD 4 undef, a.tmps.getD 5 undef, a.tmps.getD 6 undef, a.tmps.getD 7 undef, a.tmps.getD 8 undef, a.tmps.getD 9 undef, a.tmps.getD 10 undef, a.tmps.getD 11 undef, a.tmps.getD 12 undef, a.tmps.getD 13 undef, a.tmps.getD 14 undef, a.tmps.getD 15 undef, a.tmps.getD 16 undef, a.tmps.getD 17 undef, a.tmps.getD 18 undef, a.tmps.getD 19 undef, a.tmps.getD 20 undef, a.tmps.getD 21 undef, a.tmps.getD 22 undef, a.tmps.getD 23 undef, a.tmps.getD 24 undef, a.tmps.getD 25 undef, a.tmps.getD 26 undef, a.tmps.getD 27 undef, a.tmps.getD 28 undef, a.tmps.getD 29 undef, a.tmps.getD 30 undef, a.tmps.getD 31 undef, a.tmps.getD 32 undef, a.tmps.getD 33 undef, a.tmps.getD 34 undef, a.tmps.getD 35 undef, a.tmps.getD 36 undef, a.tmps.getD 37 undef, a.tmps.getD 38 undef, a.tmps.getD 39 undef, a.tmps.getD 40 undef, a.tmps.getD 41 undef, a.tmps.getD 42 undef, a.tmps.getD 43 undef, a.tmps.getD 44 undef, a.tmps.getD 45 undef, a.tmps.getD 46 undef, a.tmps.getD 47 undef, a.tmps.getD 48 undef, a.tmps.getD 49 undef, a.tmps.getD 50 undef, a.tmps.getD 51 undef, a.tmps.getD 52 undef, a.tmps.getD 53 undef, a.tmps.getD 54 undef, a.tmps.getD 55 undef, a.tmps.getD 56 undef, a.tmps.getD 57 undef, a.tmps.getD 58 undef, a.tmps.getD 59 undef, a.tmps.getD 60 undef, a.tmps.getD 61 undef, a.tmps.getD 62 undef, a.tmps.getD 63 undef, a.tmps.getD 64 undef, a.tmps.getD 65 undef, a.tmps.getD 66 undef, a.tmps.getD 67 undef, a.tmps.getD 68 undef, a.tmps.getD 69 undef, a.tmps.getD 70 undef, a.tmps.getD 71 undef, a.tmps.getD 72 undef, a.tmps.getD 73 undef, a.tmps.getD 74 undef, a.tmps.getD 75 undef, a.tmps.getD 76 undef, a.tmps.getD 77 undef, a.tmps.getD 78 undef, a.tmps.getD 79 undef, a.tmps.getD 80 undef, a.tmps.getD 81 undef, a.tmps.getD 82 undef, a.tmps.getD 83 undef, a.tmps.getD 84 undef, a.tmps.getD 85 undef, a.tmps.getD 86 undef, a.tmps.getD 87 undef, a.tmps.getD 88 undef, a.tmps.getD 89 undef, a.tmps.getD 90 undef, a.tmps.getD 91 undef, a.tmps.getD 92 undef, a.tmps.getD 93 undef, a.tmps.getD 94 undef, a.tmps.getD 95 undef, a.tmps.getD 96 undef, a.tmps.getD 97 undef, a.tmps.getD 98 undef, a.tmps.getD 99 undef, a.tmps.getD 100 undef, a.tmps.getD 101 undef, a.tmps.getD 102 undef, a.tmps.getD 103 undef, a.tmps.getD 104 undef, a.tmps.getD 105 undef, a.tmps.getD 106 undef, a.tmps.getD 107 undef, a.tmps.getD 108 undef, a.tmps.getD 109 undef, a.tmps.getD 110 undef, a.tmps.getD 111 undef, a.tmps.getD 112 undef, a.tmps.getD 113 undef, a.tmps.getD 114 undef, a.tmps.getD 115 undef, a.tmps.getD 116 undef, a.tmps.getD 117 undef, a.tmps.getD 118 undef, a.tmps.getD 119 undef, a.tmps.getD 120 undef, a.tmps.getD 121 undef, a.tmps.getD 122 undef, a.tmps.getD 123 undef, a.tmps.getD 124 undef, a.tmps.getD 125 undef, a.tmps.getD 126 undef, a.tmps.getD 127 undef, a.tmps.getD 128 undef, a.tmps.getD 129 undef, a.tmps.getD 130 undef, a.tmps.getD 131 undef, a.tmps.getD 132 undef, a.tmps.getD 133 undef, a.tmps.getD 134 undef, a.tmps.getD 135 undef, a.tmps.getD 136 undef, a.tmps.getD 137 undef, a.tmps.getD 138 undef] from rfl, getD_of k4] at ha
                      rw [ha]
                      clear hall hold hz hd ha k4
                      generalize a.tmps.getD 0 undef = x0
                      generalize a.tmps.getD 1 undef = x1
                      generalize a.tmps.getD 2 undef = x2
                      generalize a.tmps.getD 3 undef = x3
                      generalize a.tmps.getD 5 undef = x5
                      generalize a.tmps.getD 6 undef = x6
                      generalize a.tmps.getD 7 undef = x7
                      generalize a.tmps.getD 8 undef = x8
                      generalize a.tmps.getD 9 undef = x9
                      generalize a.tmps.getD 10 undef = x10
                      generalize a.tmps.getD 11 undef = x11
                      generalize a.tmps.getD 12 undef = x12
                      generalize a.tmps.getD 13 undef = x13
                      generalize a.tmps.getD 14 undef = x14
                      generalize a.tmps.getD 15 undef = x15
                      generalize a.tmps.getD 16 undef = x16
                      generalize a.tmps.getD 17 undef = x17
                      generalize a.tmps.getD 18 undef = x18
                      generalize a.tmps.getD 19 undef = x19
                      generalize a.tmps.getD 20 undef = x20
                      generalize a.tmps.getD 21 undef = x21
                      generalize a.tmps.getD 22 undef = x22
                      generalize a.tmps.getD 23 undef = x23
                      generalize a.tmps.getD 24 undef = x24
                      generalize a.tmps.getD 25 undef = x25
                      generalize a.tmps.getD 26 undef = x26
                      generalize a.tmps.getD 27 undef = x27
                      generalize a.tmps.getD 28 undef = x28
                      generalize a.tmps.getD 29 undef = x29
                      generalize a.tmps.getD 30 undef = x30
                      generalize a.tmps.getD 31 undef = x31
                      generalize a.tmps.getD 32 undef = x32
                      generalize a.tmps.getD 33 undef = x33
                      generalize a.tmps.getD 34 undef = x34
                      generalize a.tmps.getD 35 undef = x35
                      generalize a.tmps.getD 36 undef = x36
                      generalize a.tmps.getD 37 undef = x37
                      generalize a.tmps.getD 38 undef = x38
                      generalize a.tmps.getD 39 undef = x39
                      generalize a.tmps.getD 40 undef = x40
                      generalize a.tmps.getD 41 undef = x41
                      generalize a.tmps.getD 42 undef = x42
                      generalize a.tmps.getD 43 undef = x43
                      generalize a.tmps.getD 44 undef = x44
                      generalize a.tmps.getD 45 undef = x45
                      generalize a.tmps.getD 46 undef = x46
                      generalize a.tmps.getD 47 undef = x47
                      generalize a.tmps.getD 48 undef = x48
                      generalize a.tmps.getD 49 undef = x49
                      generalize a.tmps.getD 50 undef = x50
                      generalize a.tmps.getD 51 undef = x51
                      generalize a.tmps.getD 52 undef = x52
                      generalize a.tmps.getD 53 undef = x53
                      generalize a.tmps.getD 54 undef = x54
                      generalize a.tmps.getD 55 undef = x55
                      generalize a.tmps.getD 56 undef = x56
                      generalize a.tmps.getD 57 undef = x57
                      generalize a.tmps.getD 58 undef = x58
                      generalize a.tmps.getD 59 undef = x59
                      generalize a.tmps.getD 60 undef = x60
                      generalize a.tmps.getD 61 undef = x61
                      generalize a.tmps.getD 62 undef = x62
                      generalize a.tmps.getD 63 undef = x63
                      generalize a.tmps.getD 64 undef = x64
                      generalize a.tmps.getD 65 undef = x65
                      generalize a.tmps.getD 66 undef = x66
                      generalize a.tmps.getD 67 undef = x67
                      generalize a.tmps.getD 68 undef = x68
                      generalize a.tmps.getD 69 undef = x69
                      generalize a.tmps.getD 70 undef = x70
                      generalize a.tmps.getD 71 undef = x71
                      generalize a.tmps.getD 72 undef = x72
                      generalize a.tmps.getD 73 undef = x73
                      generalize a.tmps.getD 74 undef = x74
                      generalize a.tmps.getD 75 undef = x75
                      generalize a.tmps.getD 76 undef = x76
                      generalize a.tmps.getD 77 undef = x77
                      generalize a.tmps.getD 78 undef = x78
                      generalize a.tmps.getD 79 undef = x79
                      generalize a.tmps.getD 80 undef = x80
                      generalize a.tmps.getD 81 undef = x81
                      generalize a.tmps.getD 82 undef = x82
                      generalize a.tmps.getD 83 undef = x83
                      generalize a.tmps.getD 84 undef = x84
                      generalize a.tmps.getD 85 undef = x85
                      generalize a.tmps.getD 86 undef = x86
                      generalize a.tmps.getD 87 undef = x87
                      generalize a.tmps.getD 88 undef = x88
                      generalize a.tmps.getD 89 undef = x89
                      generalize a.tmps.getD 90 undef = x90
                      generalize a.tmps.getD 91 undef = x91
                      generalize a.tmps.getD 92 undef = x92
                      generalize a.tmps.getD 93 undef = x93
                      generalize a.tmps.getD 94 undef = x94
                      generalize a.tmps.getD 95 undef = x95
                      generalize a.tmps.getD 96 undef = x96
                      generalize a.tmps.getD 97 undef = x97
                      generalize a.tmps.getD 98 undef = x98
                      generalize a.tmps.getD 99 undef = x99
                      generalize a.tmps.getD 100 undef = x100
                      generalize a.tmps.getD 101 undef = x101
                      generalize a.tmps.getD 102 undef = x102
                      generalize a.tmps.getD 103 undef = x103
                      generalize a.tmps.getD 104 undef = x104
                      generalize a.tmps.getD 105 undef = x105
                      generalize a.tmps.getD 106 undef = x106
                      generalize a.tmps.getD 107 undef = x107
                      generalize a.tmps.getD 108 undef = x108
                      generalize a.tmps.getD 109 undef = x109
                      generalize a.tmps.getD 110 undef = x110
                      generalize a.tmps.getD 111 undef = x111
                      generalize a.tmps.getD 112 undef = x112
                      generalize a.tmps.getD 113 undef = x113
                      generalize a.tmps.getD 114 undef = x114
                      generalize a.tmps.getD 115 undef = x115
                      generalize a.tmps.getD 116 undef = x116
                      generalize a.tmps.getD 117 undef = x117
                      generalize a.tmps.getD 118 undef = x118
                      generalize a.tmps.getD 119 undef = x119
                      generalize a.tmps.getD 120 undef = x120
                      generalize a.tmps.getD 121 undef = x121
                      generalize a.tmps.getD 122 undef = x122
                      generalize a.tmps.getD 123 undef = x123
                      generalize a.tmps.getD 124 undef = x124
                      generalize a.tmps.getD 125 undef = x125
                      generalize a.tmps.getD 126 undef = x126
                      generalize a.tmps.getD 127 undef = x127
                      generalize a.tmps.getD 128 undef = x128
                      generalize a.tmps.getD 129 undef = x129
                      generalize a.tmps.getD 130 undef = x130
                      generalize a.tmps.getD 131 undef = x131
                      generalize a.tmps.getD 132 undef = x132
                      generalize a.tmps.getD 133 undef = x133
                      generalize a.tmps.getD 134 undef = x134
                      generalize a.tmps.getD 135 undef = x135
                      generalize a.tmps.getD 136 undef = x136
                      generalize a.tmps.getD 137 undef = x137
                      generalize a.tmps.getD 138 undef = x138
                      have HF := Lib.hid (gtrans HG3.out (gtrans HL8.out hl))
                      clear hl
                      go_wp2_with fail
                      go_ret
                      exact ⟨rfl, HF.out⟩

end Go.Proofs.Ytmjedpaiccaddaa.Span
