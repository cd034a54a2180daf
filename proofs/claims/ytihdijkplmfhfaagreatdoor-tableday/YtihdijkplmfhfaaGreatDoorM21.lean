/-
  Texts of mine, merged: each part says what it holds. Conditions: as each theorem states.
-/
import Derived.Scope
import Derived.Test.YtihdijkplmfhfaaGreatDoorM20

/- Plain facts on the timetable, further still: the row that a day's spans come to, the mode at an instant and since when it is; a day's row and that mode; the weightiest one, span by span; the chapter's example. Conditions: as each theorem states. -/
namespace Go.Proofs.YtihdijkplmfhfaaGreatDoor.Tab
set_option maxRecDepth 100000
set_option maxRecDepth 100000
open Go.Proofs.YtihdijkplmfhfaaGreatDoor.Cal (yr ya)
open Go.Proofs.YtihdijkplmfhfaaGreatDoor.Zo
open Go.Proofs.YtihdijkplmfhfaaGreatDoor.Cf (Cg Wn ce wo)
open Go.Proofs.YtihdijkplmfhfaaGreatDoor.Win
open Go.Proofs.YtihdijkplmfhfaaGreatDoor.Sp (inn inn_iff inn_no ov ov_iff best best_snoc best_mem md fi fi_mem te Row Full cu cl rk rk_full Es uniq full_self take_more)

/-- The row that a list comes to. -/
noncomputable def rs (l : List Sp.Sp) : List Sp.Sp := rk l ((Es l).length - 1)

theorem rs_ok (l : List Sp.Sp) : Full (rs l) (md l) := rk_full l

theorem rs_full {l R : List Sp.Sp} (h : Full R (md l)) : rs l = R := uniq (rs_ok l) h

/-- What a day's spans come to, also ahead of it and behind it. -/
noncomputable def unc (c : Cg) (d : Int) : List Sp.Sp := rs (sps c (d - 9) 11)

/-- What a row has at an instant, and whether it has anything. -/
def fv (R : List Sp.Sp) (t : Int) : Sp.Sp := (fi R t).getD ⟨0, 0, 0, 0⟩
def fb (R : List Sp.Sp) (t : Int) : Bool := (fi R t).isSome

/-- The mode at an instant, and since when it is. -/
noncomputable def mM (c : Cg) (t : Int) : Int := if sv c.z t = true then (fv (unc c (td c.z t / 1440)) t).m else 3
noncomputable def mS (c : Cg) (t : Int) : Int := if sv c.z t = true then (fv (unc c (td c.z t / 1440)) t).f else 0

/-- May spans of days be asked? -/
def dy (a b : Int) : Bool := decide (402 ≤ a ∧ b ≤ 3651990 ∧ a ≤ b ∧ b - a ≤ 30)

theorem dy_iff (a b : Int) : dy a b = true ↔ 402 ≤ a ∧ b ≤ 3651990 ∧ a ≤ b ∧ b - a ≤ 30 := by simp [dy]

theorem sps_may {c : Cg} (h : ce c = 0) {a : Int} {n : Nat} (h0 : 402 ≤ a) (h1 : a + n ≤ 3651991) : Sp.May (sps c a n) := by
  intro s hs
  obtain ⟨d, d0, d1, hd⟩ := sps_mem hs
  exact (dw_in h (by omega) (by omega) hd).2.2.1

theorem sps_few {c : Cg} (h : ce c = 0) (a : Int) {n : Nat} (hn : n ≤ 31) : (sps c a n).length ≤ 496 := by
  have k := sps_len c a n
  have q := Nat.mul_le_mul hn (ws_len h)
  omega

theorem fv_m (R : List Sp.Sp) (t : Int) : (fv R t).m = (te R t).getD 0 := by
  unfold fv te
  cases fi R t <;> rfl

/-- The mode is that of the weightiest one. -/
theorem mM_md (c : Cg) (t : Int) (h : sv c.z t = true) : mM c t = (md (sps c (td c.z t / 1440 - 9) 11) t).getD 0 := by
  unfold mM
  rw [if_pos h, fv_m]
  unfold unc
  rw [(rs_ok _).all]

theorem sv_day (z : Zn) (hz : May z) (t : Int) (h : sv z t = true) : 693595 ≤ td z t / 1440 ∧ td z t / 1440 ≤ 876217 := by
  have a := (sv_iff z hz t).1 h
  unfold May at hz
  rcases td_cases z t with ⟨_, e⟩ | ⟨_, e⟩ <;> rw [e] <;> omega

theorem mM_wide {c : Cg} (h : ce c = 0) (t : Int) (hs : sv c.z t = true) : mM c t = (md (sps c (td c.z t / 1440 - 20) 24) t).getD 0 := by
  rw [mM_md c t hs]
  obtain ⟨hz, _⟩ := ce_parts c h
  have d := sv_day c.z hz t hs
  have k := best_wide h (t := t) rfl 11 2 11 (by omega) (by omega) (by omega)
  rw [show td c.z t / 1440 - 9 - ((11 : Nat) : Int) = td c.z t / 1440 - 20 by omega] at k
  unfold md
  rw [← k]

/-- The mode at an instant stands in its day's row. -/
theorem day_row {c : Cg} (h : ce c = 0) (t D : Int) (hs : sv c.z t = true) (hD : td c.z t / 1440 = D) (l : List Sp.Sp) (hl : l = cu (unc c D) (mv c.z (D * 1440)) (mv c.z ((D + 1) * 1440))) :
    (mv c.z ((D + 1) * 1440) ≤ t → fb l t = false) ∧ (t < mv c.z ((D + 1) * 1440) → fb l t = false → mM c t = 0 ∧ mS c t = 0) ∧
    (t < mv c.z ((D + 1) * 1440) → fb l t = true → mM c t = (fv l t).m ∧ mS c t ≤ (fv l t).f ∧ mS c t ≤ t) := by
  obtain ⟨hz, _⟩ := ce_parts c h
  have d := sv_day c.z hz t hs
  have a := day_le c.z hz t D hD (by omega) (by omega)
  have em : mM c t = (fv (unc c D) t).m := by unfold mM; rw [if_pos hs, hD]
  have es : mS c t = (fv (unc c D) t).f := by unfold mS; rw [if_pos hs, hD]
  subst hl
  refine ⟨fun g => ?_, fun g => ?_, fun g => ?_⟩
  · unfold fb
    rw [fi_cu_out _ _ _ _ (.inr g)]
    rfl
  · rw [em, es]
    unfold fb fv
    rw [fi_cu _ _ _ _ a g]
    cases fi (unc c D) t with
    | none => exact fun _ => ⟨rfl, rfl⟩
    | some s => intro k; cases k
  · rw [em, es]
    unfold fb fv
    rw [fi_cu _ _ _ _ a g]
    cases hf : fi (unc c D) t with
    | none => intro k; cases k
    | some s =>
      intro _
      have q := cl_le (mv c.z (D * 1440)) (mv c.z ((D + 1) * 1440)) s
      exact ⟨q.2.symm, q.1, (fi_mem hf).2.1⟩

theorem sps_nil (c : Cg) (h : c.ws = []) (a : Int) (n : Nat) : sps c a n = [] := by
  induction n with
  | zero => rfl
  | succ n ih =>
    have e : sps c a (n + 1) = sps c a n ++ dw c (a + n) c.ws := rfl
    rw [e, ih, h]
    rfl

/-- Without windows it is the normal one. -/
theorem mM_none (c : Cg) (t : Int) (h : c.ws = []) (hs : sv c.z t = true) : mM c t = 0 ∧ mS c t = 0 := by
  have e : unc c (td c.z t / 1440) = [] := by
    unfold unc
    rw [sps_nil c h]
    exact rs_full (full_self (R := []) ⟨by simp, by simp, List.Pairwise.nil⟩)
  unfold mM mS
  rw [if_pos hs, if_pos hs, e]
  exact ⟨rfl, rfl⟩

theorem mM_far (c : Cg) (t : Int) (hs : sv c.z t = false) : mM c t = 3 ∧ mS c t = 0 := by
  unfold mM mS
  rw [hs]
  exact ⟨rfl, rfl⟩

/-- The weightiest one so far: its mode, its weight, its beginning. -/
def wm (o : Option Sp.Sp) : Int := (o.map (·.m)).getD 0
def wp (o : Option Sp.Sp) : Int := (o.map (·.p)).getD (-1)
def wf (o : Option Sp.Sp) : Int := (o.map (·.f)).getD 0

theorem w_take {l : List Sp.Sp} {k : Nat} {x : Sp.Sp} (hk : l[k]? = some x) : l.take (k + 1) = l.take k ++ [x] := by
  obtain ⟨h, rfl⟩ := List.getElem?_eq_some_iff.1 hk
  exact take_more l k h

theorem w_out {l : List Sp.Sp} {k : Nat} {x : Sp.Sp} (t : Int) (hk : l[k]? = some x) (h : t < x.f ∨ x.t ≤ t) : best (l.take (k + 1)) t = best (l.take k) t := by
  rw [w_take hk, best_snoc, if_neg (by omega)]

theorem w_over {l : List Sp.Sp} {k : Nat} {x : Sp.Sp} (t : Int) (hk : l[k]? = some x) (h : x.f ≤ t ∧ t < x.t) (g : wp (best (l.take k) t) < x.p ∨ (x.p = wp (best (l.take k) t) ∧ wf (best (l.take k) t) ≤ x.f)) :
    best (l.take (k + 1)) t = some x := by
  rw [w_take hk, best_snoc, if_pos h]
  cases hb : best (l.take k) t with
  | none => rfl
  | some s =>
    rw [hb] at g
    have : ov x s = true := by
      rw [ov_iff]
      have e1 : wp (some s) = s.p := rfl
      have e2 : wf (some s) = s.f := rfl
      omega
    simp only
    rw [if_pos this]

theorem w_stay {l : List Sp.Sp} {k : Nat} {x : Sp.Sp} (t : Int) (hk : l[k]? = some x) (p0 : 0 ≤ x.p) (h : x.f ≤ t ∧ t < x.t) (g : ¬ (wp (best (l.take k) t) < x.p ∨ (x.p = wp (best (l.take k) t) ∧ wf (best (l.take k) t) ≤ x.f))) :
    best (l.take (k + 1)) t = best (l.take k) t := by
  rw [w_take hk, best_snoc, if_pos h]
  cases hb : best (l.take k) t with
  | none =>
    rw [hb] at g
    have e1 : wp none = -1 := rfl
    exact absurd (.inl (by omega)) g
  | some s =>
    rw [hb] at g
    have : ¬ ov x s = true := by
      rw [ov_iff]
      have e1 : wp (some s) = s.p := rfl
      have e2 : wf (some s) = s.f := rfl
      omega
    simp only
    rw [if_neg this]

theorem wm_md (l : List Sp.Sp) (t : Int) : wm (best l t) = (md l t).getD 0 := rfl

/-! The chapter's example. -/

theorem ex_mv0 (n : Int) : mv Conf.pc.z n = n := by
  rw [mv_late _ _ (sm_zero _ _ rfl) (sm_zero _ _ rfl)]
  show n - 0 = n
  omega

theorem dw_pc (d : Int) : dw Conf.pc d Conf.pc.ws = if bit 65 d = true then [⟨d * 1440 + 1200, d * 1440 + 1800, 2, 0⟩] else [] := by
  have hk : ¬ Conf.pw.k = 4 := by decide
  have e1 : beg Conf.pc Conf.pw d = bit 65 d := by unfold beg; rw [if_pos (show Conf.pw.k = 1 from rfl)]; rfl
  have e2 : fr Conf.pc Conf.pw d = d * 1440 + 1200 := by unfold fr; rw [if_neg hk, ex_mv0]; rfl
  have e3 : tt Conf.pc Conf.pw d = d * 1440 + 1800 := by
    unfold tt; rw [if_neg hk, ex_mv0]
    show d * 1440 + 1200 + 600 = _
    omega
  show dw Conf.pc d [Conf.pw] = _
  rw [dw_cons, e1, e2, e3]
  rfl

/-- The example's spans. -/
def xs4 : List Sp.Sp := [⟨1063832880, 1063833480, 2, 0⟩, ⟨1063834320, 1063834920, 2, 0⟩, ⟨1063842960, 1063843560, 2, 0⟩, ⟨1063844400, 1063845000, 2, 0⟩]

theorem ex_sps : sps Conf.pc 738770 11 = xs4 := by
  have e : sps Conf.pc 738770 11 = ((((((((((([] ++ dw Conf.pc 738770 Conf.pc.ws) ++ dw Conf.pc 738771 Conf.pc.ws) ++ dw Conf.pc 738772 Conf.pc.ws) ++ dw Conf.pc 738773 Conf.pc.ws) ++ dw Conf.pc 738774 Conf.pc.ws) ++ dw Conf.pc 738775 Conf.pc.ws) ++ dw Conf.pc 738776 Conf.pc.ws) ++ dw Conf.pc 738777 Conf.pc.ws) ++ dw Conf.pc 738778 Conf.pc.ws) ++ dw Conf.pc 738779 Conf.pc.ws) ++ dw Conf.pc 738780 Conf.pc.ws) := rfl
  rw [e]
  simp only [dw_pc]
  rw [if_neg (show ¬ bit 65 738770 = true by decide +kernel), if_neg (show ¬ bit 65 738771 = true by decide +kernel), if_pos (show bit 65 738772 = true by decide +kernel), if_pos (show bit 65 738773 = true by decide +kernel), if_neg (show ¬ bit 65 738774 = true by decide +kernel), if_neg (show ¬ bit 65 738775 = true by decide +kernel), if_neg (show ¬ bit 65 738776 = true by decide +kernel), if_neg (show ¬ bit 65 738777 = true by decide +kernel), if_neg (show ¬ bit 65 738778 = true by decide +kernel), if_pos (show bit 65 738779 = true by decide +kernel), if_pos (show bit 65 738780 = true by decide +kernel)]
  rfl

theorem ex_one : sps Conf.pc 738779 1 = [⟨1063842960, 1063843560, 2, 0⟩] := by
  have e : sps Conf.pc 738779 1 = [] ++ dw Conf.pc 738779 Conf.pc.ws := rfl
  rw [e, dw_pc, if_pos (show bit 65 738779 = true by decide +kernel)]
  rfl

theorem ex_row : Row xs4 := by
  refine ⟨?_, ?_, ?_⟩
  · unfold xs4; decide
  · unfold xs4; decide
  · unfold xs4 Sp.beh; simp [List.pairwise_cons]

theorem ex_unc : unc Conf.pc 738779 = xs4 := by
  unfold unc
  rw [show (738779 : Int) - 9 = 738770 by decide, ex_sps]
  exact rs_full (full_self ex_row)

theorem ex_td (n : Int) : td Conf.pc.z n = n := by
  unfold td
  rw [sm_zero _ _ rfl, if_neg (by simp)]
  show n + 0 = n
  omega

theorem ex_may : May Conf.pc.z := (ck_may _).1 (by decide)

theorem ex_sv (t : Int) (h : t = 1063843060 ∨ t = 1063842860) : sv Conf.pc.z t = true := by
  rw [sv_iff _ ex_may]
  have e : Conf.pc.z.b = 0 := rfl
  omega

theorem ex_m1 : mM Conf.pc 1063843060 = 2 ∧ mS Conf.pc 1063843060 = 1063842960 := by
  unfold mM mS
  rw [if_pos (ex_sv _ (.inl rfl)), if_pos (ex_sv _ (.inl rfl)), ex_td, show (1063843060 : Int) / 1440 = 738779 by decide, ex_unc]
  decide

theorem ex_m2 : mM Conf.pc 1063842860 = 0 ∧ mS Conf.pc 1063842860 = 0 := by
  unfold mM mS
  rw [if_pos (ex_sv _ (.inr rfl)), if_pos (ex_sv _ (.inr rfl)), ex_td, show (1063842860 : Int) / 1440 = 738779 by decide, ex_unc]
  decide

theorem ex_cut : (cu (unc Conf.pc 738779) (mv Conf.pc.z (738779 * 1440)) (mv Conf.pc.z (738780 * 1440))).length = 1 := by
  rw [ex_mv0, ex_mv0, ex_unc]
  decide

end Go.Proofs.YtihdijkplmfhfaaGreatDoor.Tab

/- The spans that begin on some days, as the program goes through them: what its iterator hands to a loop, whatever the loop's body does, so long as the body keeps the configuration and the iterator's own boxes. Conditions: the configuration may be, the days may be asked, and they are at most 31. -/
namespace Go.Proofs.YtihdijkplmfhfaaGreatDoor.Table
set_option maxRecDepth 100000
open Go.ChangeShapes Go.WideShapes Go.ChangeAt Go.RowKit Go.Shelf
open Go.Proofs.YtihdijkplmfhfaaGreatDoor.Divs Go.Proofs.YtihdijkplmfhfaaGreatDoor.Grow
open Go.Proofs.YtihdijkplmfhfaaGreatDoor.Greg (Laid)
open Go.Proofs.YtihdijkplmfhfaaGreatDoor.Zo Go.Proofs.YtihdijkplmfhfaaGreatDoor.Win Go.Proofs.YtihdijkplmfhfaaGreatDoor.Tab
open Go.Proofs.YtihdijkplmfhfaaGreatDoor.Cf (Cg Wn ce wo)
open Go.Proofs.YtihdijkplmfhfaaGreatDoor.Conf (wc cc Is)
open Go.Proofs.YtihdijkplmfhfaaGreatDoor.Span (RA Ws WL sc yield_of range_start stays_later)
set_option linter.unusedVariables false

attribute [local go_sem] Oper.semAt_some

theorem wpIn_scope {n : Nat} {P : Program} {c : Code} {Q : Exit → Act → World → Prop} {a : Act} {w : World} (h : c.wpIn Fence.wide n P (Exit.noGoto Q) a w) : (Code.scope c).wpIn Fence.wide n P Q a w :=
  wpIn_wide.2 (wp_scope_straight (wpIn_wide.1 h))

/-- A span's cells. -/
def s4 (s : Sp.Sp) : Array Value := #[.int .i64 s.f, .int .i64 s.t, .int .i64 s.m, .int .i64 s.p]

/-- The span of a window on a day, or a zero one. -/
noncomputable def ws (c : Cg) (x : Wn) (d : Int) : Sp.Sp := if beg c x d = true then ⟨fr c x d, tt c x d, x.m, x.p⟩ else ⟨0, 0, 0, 0⟩

theorem span_of (D : Array Value) (c : Cg) (x : Wn) (d : Int) (w : World) (hL : Laid w) (hc : Is w D c) (h : ce c = 0) (hx : wo x = true) (d0 : 402 ≤ d) (d1 : d ≤ 3651990) :
    Calls Tryz.prog 96 #[.agg D, .agg (wc x).toArray, .int .i64 d] w fun e w' => e = .returned (.tuple #[.agg (s4 (ws c x d)), .bool (beg c x d), .int .i64 0]) ∧ Later w w' := by
  have e0 : pE c x d = 0 := (pE_ok c x d).2 ⟨h, hx, d0, d1⟩
  have e1 : pB c x d = beg c x d := by unfold pB; rw [e0]; rfl
  refine (Window.span_any D c x d w hL hc).mono ?_
  rintro e w' ⟨he, hg⟩
  refine ⟨?_, hg⟩
  rw [he, e0, e1]
  unfold pF pT pM pP
  rw [e1]
  unfold ws
  cases beg c x d <;> rfl

theorem dw_more (c : Cg) (d : Int) {j : Nat} {x : Wn} (h : c.ws[j]? = some x) : dw c d (c.ws.take (j + 1)) = dw c d (c.ws.take j) ++ (if beg c x d = true then [ws c x d] else []) := by
  obtain ⟨hj, rfl⟩ := List.getElem?_eq_some_iff.1 h
  rw [show c.ws.take (j + 1) = c.ws.take j ++ [c.ws[j]] by simp, dw_append]
  unfold ws
  rw [dw_cons]
  cases beg c c.ws[j] d <;> rfl

/-- The windows of a configuration by its cells, and its zone's cells. -/
theorem is_slice {W : World} {D : Array Value} {c : Cg} (h : Is W D c) : ∃ ad cap, D[36]? = some (.slice ad c.ws.length cap) ∧ c.ws.length ≤ 9223372036854775807 ∧ (∀ i x, c.ws[i]? = some x → ∃ B off, ad = some ⟨B, off, none⟩ ∧ W.rangeAt B (off + i * 7) (wc x)) := by
  obtain ⟨u, v, rfl, hu, hv⟩ := h
  obtain ⟨ad, cap, rfl, h1, h2⟩ := Conf.wk_form hv
  exact ⟨ad, cap, rfl, h1, h2⟩

theorem is_zone {W W' : World} {D : Array Value} {c : Cg} (h : Is W D c) {b : Nat} (hA : Conf.At W' b D) : W'.rangeAt b 13 (Zone.zc c.z).toList := by
  obtain ⟨u, v, rfl, hu, hv⟩ := h
  exact Conf.cc_zone c u v hA

theorem is_wins {W : World} {D : Array Value} {c : Cg} {ad : Option Addr} {q cap : Nat} (h : Is W D c) (h36 : D[36]? = some (.slice ad q cap)) {i : Nat} {x : Wn} (hx : c.ws[i]? = some x) :
    ∃ B off, ad = some ⟨B, off, none⟩ ∧ W.rangeAt B (off + i * 7) (wc x) := by
  obtain ⟨ad', cap', e, _, k⟩ := is_slice h
  rw [h36] at e
  injection e with e
  injection e with e _ _
  subst e
  exact k i x hx

set_option maxHeartbeats 4000000 in
theorem begun1_in (n : Nat) (hn : 1 ≤ n) (D : Array Value) (c : Cg) (a e : Int) (m lo n0 : Nat) (J : List Sp.Sp → World → Prop) (W : World) (hce : ce c = 0) (a0 : 402 ≤ a) (a1 : a + m ≤ 3651991) (hm : m ≤ 31) (he : e = a + m - 1)
    (hJ : ∀ xs W W', J xs W → Later W W' → J xs W')
    (hK : ∀ xs W, J xs W → Laid W ∧ Is W D c ∧ RA W n0 D 33 ∧ RA W (n0 + 1) #[.int .i64 a] 3 ∧ RA W (n0 + 1 + 1) #[.int .i64 e] 3)
    (hY : ∀ xs s W, J xs W → xs.length ≤ 1000 → YieldAt Fence.wide (n - 1) Tryz.prog lo #[.agg (s4 s)] W fun e W' => e = .returned (.bool true) ∧ J (xs ++ [s]) W')
    (hS : J [] W) :
    CallsIn Fence.wide n Tryz.prog 95 #[.func (.yield lo) #[] #[], .pointer (some ⟨n0 + 1, 0, none⟩), .pointer (some ⟨n0 + 1 + 1, 0, none⟩), .pointer (some ⟨n0, 0, none⟩)] W fun e W' => (∃ v, e = .returned v) ∧ J (sps c a m) W' := by
  have HJ := Lib.hid hJ
  have HK := Lib.hid hK
  have HY := Lib.hid hY
  have HS := Lib.hid hS
  have KX := Lib.hid (fun x (hx : x ∈ c.ws) d (d0 : 402 ≤ d) (d1 : d ≤ 3651990) W (hL : Laid W) (hI : Is W D c) => span_of D c x d W hL hI hce (ws_may hce hx) d0 d1)
  obtain ⟨hL0, hI0, hA0, hF0, hE0⟩ := hK _ _ hS
  have HZ := Lib.hid hI0.size
  obtain ⟨ad, cap, h36, hq0, _⟩ := is_slice hI0
  have hq16 := ws_len hce
  obtain ⟨q, hq⟩ : ∃ q, c.ws.length = q := ⟨_, rfl⟩
  rw [hq] at h36 hq0 hq16
  have HQ := Lib.hid hq
  have H36 := Lib.hid h36
  have HM := Lib.hid hm
  have HE := Lib.hid he
  have HLE : Hid (∀ k j : Nat, k < m → (sps c a k ++ dw c (a + k) (c.ws.take j)).length ≤ 1000) := Lib.hid (fun k j hk => by
    have k1 := sps_few hce a (n := k) (by omega)
    have k2 := dw_len c (a + k) (c.ws.take j)
    rw [List.length_append]
    rw [List.length_take] at k2
    omega)
  have c0 := hF0.cell 0 _ rfl
  clear hJ hK hY hS hL0 hI0 hA0 hF0 hE0 h36 hq hm he hce hq0
  refine callsIn_of_wp Tryz.func95 rfl trivial ?_ rfl
  simp only [Tryz.ntmps95, List.size_toArray, List.length_cons, List.length_nil, Nat.reduceAdd, Nat.reduceSub, Array.replicate_succ, Array.replicate_zero, List.push_toArray, List.append_toArray, List.nil_append, List.cons_append]
  refine wpIn_scope ?_
  refine wpIn_seq (wpIn_label ?_)
  simp only [Exit.then]
  gi_wp2
  clear c0
  gi_loopw [5] (fun i wr => ∃ (k : Nat) (d : Int), d = a + k ∧ k ≤ m ∧ i = .int .i64 d ∧ J (sps c a k) wr) (fun i _ => (a + m - intOf i).toNat)
  case atStart => exact ⟨0, a, by omega, by omega, rfl, HS.out⟩
  case round =>
    obtain ⟨k, d, hd, hk, rfl, hj⟩ := hrel
    have HJ0 := Lib.hid hj
    obtain ⟨_, _, hA, _, hE⟩ := HK.out _ _ hj
    have c0 := hE.cell 0 _ rfl
    have c36 := hA.cell 36 _ H36.out
    clear hj hA hE
    have d0 : 402 ≤ d := by omega
    by_cases hle : d ≤ e
    · have hkm : k < m := by have := HE.out; omega
      have d1 : d ≤ 3651990 := by omega
      have HD := Lib.hid hd
      clear hd hk
      gi_wp2
      clear c0 c36
      gi_loopw [20] (fun i W2 => ∃ j : Nat, j ≤ q ∧ i = .int .i64 (j : Int) ∧ J (sps c a k ++ dw c d (c.ws.take j)) W2) (fun i _ => q - (intOf i).toNat)
      case atStart => exact ⟨0, by omega, rfl, by rw [List.take_zero]; simpa [dw] using HJ0.out⟩
      case round =>
        obtain ⟨j, hjq, rfl, hjj⟩ := hrel
        by_cases hlt : j < q
        · obtain ⟨x, hx⟩ : ∃ x, c.ws[j]? = some x := ⟨_, List.getElem?_eq_getElem (by rw [HQ.out]; exact hlt)⟩
          obtain ⟨hL, hI, hA, _, _⟩ := HK.out _ _ hjj
          obtain ⟨B, off, rfl, hr⟩ := is_wins hI H36.out hx
          have HR := Lib.hid hr
          have HA := Lib.hid (show Conf.At wr n0 D from fun i v e => hA.cell i v e)
          have HJJ := Lib.hid hjj
          have hgw := (Later.refl wr).put (.cells (wc x).toArray 65)
          have KS := Lib.hid (KX.out x (List.mem_of_getElem? hx) d d0 d1 _ (hL.grown hgw) (hI.later hgw))
          have HGW := Lib.hid hgw
          unfold s4 wc at KS
          unfold wc at HGW
          have HMo := Lib.hid (dw_more c d hx)
          have HLN := Lib.hid (HLE.out k j hkm)
          rw [← HD.out] at HLN
          clear hL hI hA hr hjj hx hgw
          have adB : ∀ j, (⟨B, off, none⟩ : Addr).add j = ⟨B, off + j, none⟩ := Addr.add_mid B off
          gi_upto_region 5 with fail
          refine wpIn_wide.2 ?_
          go_wp2_with (refine Conf.load_win x rfl (.tmp 22) rfl B (off + j * 7) rfl HR.out ?_)
          gi_upto_region 6 with fail
          refine wpIn_wide.2 ?_
          go_wp2_with (refine Conf.load_at D HZ.out rfl (.tmp 3) rfl n0 rfl (HA.out.put _) ?_)
          refine KS.out.mono ?_
          rintro r w1 ⟨rfl, hg1⟩
          have HJ1 := Lib.hid (HJ.out _ _ _ HJJ.out (gtrans HGW.out hg1))
          clear hg1
          generalize ws c x d = S at *
          generalize beg c x d = b at *
          go_wp2_with fail
          obtain ⟨W2, hW2⟩ : ∃ W2, w1.alloc (.cells #[.int .i64 S.f, .int .i64 S.t, .int .i64 S.m, .int .i64 S.p] 56) = W2 := ⟨_, rfl⟩
          have HJ2 := Lib.hid (HJ.out _ _ _ HJ1.out (show Later w1 W2 from hW2 ▸ (Later.refl w1).put _))
          have HR2 : Hid (RA W2 w1.heap.size #[.int .i64 S.f, .int .i64 S.t, .int .i64 S.m, .int .i64 S.p] 56) := Lib.hid (by rw [← hW2]; exact RA.new _ _ _)
          rw [hW2]
          clear hW2
          cases b with
          | false =>
            gi_wp2
            refine ⟨fun _ h => (by cases h), ?_⟩
            gi_wp2
            go_roundw
            case rel => exact ⟨j + 1, by omega, by go_num, by rw [HMo.out]; simpa using HJ2.out⟩
            case measure => simp [intOf]; omega
          | true =>
            obtain ⟨fn, tmps, assign, body, hy, hR⟩ := HY.out _ S _ HJ2.out HLN.out
            unfold s4 at hy
            have c0 := HR2.out.cell 0 _ rfl
            have c1 := HR2.out.cell 1 _ rfl
            have c2 := HR2.out.cell 2 _ rfl
            have c3 := HR2.out.cell 3 _ rfl
            gi_wp2
            refine hR.mono ?_
            rintro r W3 ⟨rfl, hJ3⟩
            clear hy c0 c1 c2 c3
            gi_wp2
            go_roundw
            case rel => exact ⟨j + 1, by omega, by go_num, by rw [HMo.out]; simpa using hJ3⟩
            case measure => simp [intOf]; omega
        · have HF : Hid (J (sps c a (k + 1)) wr) := Lib.hid (by
            have e : c.ws.take j = c.ws := List.take_of_length_le (by rw [HQ.out]; omega)
            rw [e, HD.out] at hjj
            exact hjj)
          clear hjj
          gi_wp2
          go_roundw
          case rel => exact ⟨k + 1, d + 1, by have := HD.out; omega, by omega, by go_num, HF.out⟩
          case measure => simp [intOf]; have := HD.out; omega
    · have hkm : k = m := by have := HE.out; omega
      subst hkm
      gi_wp2
      go_end0
      exact ⟨⟨_, rfl⟩, HJ0.out⟩

end Go.Proofs.YtihdijkplmfhfaaGreatDoor.Table

/- A window that is appended to a row of its own, and what is kept by that. Conditions: as each theorem states. -/
namespace Go.Proofs.YtihdijkplmfhfaaGreatDoor.Conf
set_option maxRecDepth 100000
set_option maxRecDepth 100000
open Go.ChangeShapes Go.WideShapes Go.ChangeAt Go.RowKit
open Go.Proofs.YtihdijkplmfhfaaGreatDoor.Divs Go.Proofs.YtihdijkplmfhfaaGreatDoor.Grow Go.Proofs.YtihdijkplmfhfaaGreatDoor.Zone
open Go.Proofs.YtihdijkplmfhfaaGreatDoor.By (Sk SL bool_no bool_yes)
open Go.Proofs.YtihdijkplmfhfaaGreatDoor.Each
open Go.Proofs.YtihdijkplmfhfaaGreatDoor.Zo Go.Proofs.YtihdijkplmfhfaaGreatDoor.Su Go.Proofs.YtihdijkplmfhfaaGreatDoor.Cf

theorem grown_same (w : World) (r : Option Nat) : w.grownBy w r := ⟨rfl, rfl, rfl, Nat.le_refl _, fun _ _ _ => rfl⟩

theorem append_wins_g {w : World} {ops : Array Oper} {rest : List Oper} {o : Oper} {a : Act} {Q : Exit → Act → World → Prop} (hgd : o.guard = none) (s x : Operand)
    (ho : o.op = .call { callee := .builtin .append, args := #[s, x], argTypes := #[31, 31] })
    (B : Nat) (hB : B ≤ w.heap.size) (v : Value) (xs : List Wn) (hs : a.eval s = v) (hown : WL w B v xs)
    (u : Value) (ys : List Wn) (hx : a.eval x = u) (hy : Wk w u ys) (hb : xs.length + ys.length ≤ 100000)
    (h : ∀ v' w', WL w' B v' (xs ++ ys) → w.grownBy w' v.ownBlock → wpList Tryz.prog ops Q rest (a.put o.dst v') w') : wpList Tryz.prog ops Q (o :: rest) a w := by
  obtain ⟨i0, hi, hz0, hz1, hz2⟩ := info_parts info_win
  rcases hy.src with ⟨rfl, rfl⟩ | ⟨ad, cap, rfl, hc⟩
  · refine wpList_append_own_none hgd s x 31 ho B 65 i0 7 Tryz.underlying31 hi v _ _ hs hown hx ?_
    exact h v w (by rw [List.append_nil]; exact hown) (grown_same _ _)
  · refine wpList_append_own w hgd s x 31 ho B 65 i0 _ 7 56 Tryz.underlying31 hi hz0 hz1 hz2 rfl (by decide) v _ _ hs hown ad ys.length cap (fl ys) hx (fl_len ys) hc (fl_cell ys) (by simp only [maxLen]; omega) (by omega) hB ?_
    intro v' w' h1 h2 _
    refine h v' w' ?_ h2
    unfold WL
    rw [List.length_append, fl_app]
    exact h1

theorem own_row {W : World} {b : Nat} {e : TypeId} {n m : Nat} {v : Value} {xs : List Value} (h : W.ownsRow b e n v m xs) {g : Nat} (hv : v.ownBlock = some g) : ∃ cur, Row g e cur W := by
  rcases h.2 with ⟨rfl, _⟩ | ⟨g', cap, cur, rfl, h1, h2, h3⟩
  · simp [Value.ownBlock] at hv
  · simp only [Value.ownBlock, Option.some.injEq] at hv
    subst hv
    exact ⟨cur, h2⟩

theorem row_apart {W : World} {g : Nat} {t t' : TypeId} {cs cs' : Array Value} (h : Row g t cs W) (h' : Row g t' cs' W) : t = t' := by
  unfold Row at h h'
  rw [h] at h'
  simp only [Option.some.injEq, Obj.cells.injEq] at h'
  exact h'.2.1

theorem own_apart {W : World} {b : Nat} {e : TypeId} {n m : Nat} {v : Value} {xs : List Value} (h : W.ownsRow b e n v m xs) {g : Nat} {t : TypeId} {cs : Array Value} (hR : Row g t cs W) (ht : t ≠ e) : some g ≠ v.ownBlock := by
  intro hv
  obtain ⟨cur, hr⟩ := own_row h hv.symm
  exact ht (row_apart hR hr)

theorem Row.grown {B : Nat} {t : TypeId} {cs : Array Value} {W W' : World} {r : Option Nat} (h : Row B t cs W) (g : W.grownBy W' r) (hn : some B ≠ r) : Row B t cs W' := (g.block B h.lt hn).trans h

theorem owns_grown {W W' : World} {b : Nat} {e : TypeId} {n m : Nat} {v : Value} {xs : List Value} {r : Option Nat} (h : W.ownsRow b e n v m xs) (g : W.grownBy W' r) (hn : ∀ k, v.ownBlock = some k → some k ≠ r) : W'.ownsRow b e n v m xs := by
  refine ⟨h.1, ?_⟩
  rcases h.2 with h | ⟨g', cap, cur, rfl, h1, h2, h3⟩
  · exact .inl h
  · exact .inr ⟨g', cap, cur, rfl, h1, Row.grown h2 g (hn g' rfl), h3⟩

theorem owns_set' {W : World} {b : Nat} {e : TypeId} {n m : Nat} {v : Value} {xs : List Value} (h : W.ownsRow b e n v m xs) {A : Nat} (hn : some A ≠ v.ownBlock) (i : Nat) (y : Value) : (W.setCell ⟨A, i, none⟩ y).ownsRow b e n v m xs := by
  refine ⟨h.1, ?_⟩
  rcases h.2 with h | ⟨g', cap, cur, rfl, h1, h2, h3⟩
  · exact .inl h
  · refine .inr ⟨g', cap, cur, rfl, h1, ?_, h3⟩
    rw [heap_set_other _ _ _ _ _ (fun e => hn (by rw [← e]; rfl))]
    exact h2

theorem wk_new (W : World) (x : Wn) (g : Nat) (hg : g = W.heap.size) : Wk (W.alloc (.cells (wc x).toArray 65)) (.slice (some ⟨g, 0, none⟩) 1 1) [x] := by
  refine ⟨_, 1, rfl, by simp, by decide, by simp, fun i y hy => ⟨_, 0, rfl, ?_⟩⟩
  rw [Nat.zero_add]
  rw [fl_one] at hy
  exact (row_new' _ _ _ _ hg).cell i (by simpa using hy)

theorem cc_wins (c : Cg) (u v v' : Value) (l : List Wn) : (cc c u v).setIfInBounds 36 v' = cc (cw c l) u v' := by simp [cc, cw]

theorem cc_stops (c : Cg) (u v u' : Value) (l : List Int) : (cc c u v).setIfInBounds 3 u' = cc (ct c l) u' v := by simp [cc, ct]

/-- A configuration's windows are appended to, and it is given the row. -/
theorem append_done {w0 W w6 : World} {B gD : Nat} {F : Array Value} {c : Cg} {u v v' : Value} {xs l : List Wn} (hF : F = cc c u v) (hs : SL .i64 3 W B u c.st) (hw : WL W B v xs) (hR : Row gD 33 F W) (hL : Later w0 W) (hB : B = w0.heap.size) (hD : B ≤ gD) (hv : WL w6 B v' l) (hg : W.grownBy w6 v.ownBlock) :
    Row gD 33 F w6 ∧ Row gD 33 (F.setIfInBounds 36 v') (w6.setCell ⟨gD, 36, none⟩ v') ∧ Own (w6.setCell ⟨gD, 36, none⟩ v') B (F.setIfInBounds 36 v') (cw c l) ∧ Later w0 (w6.setCell ⟨gD, 36, none⟩ v') := by
  have hR6 : Row gD 33 F w6 := hR.grown hg (own_apart hw hR (by decide))
  have hs6 : SL .i64 3 w6 B u c.st := owns_grown hs hg (fun k hk => by
    obtain ⟨cur, hr⟩ := own_row hs hk
    exact own_apart hw hr (by decide))
  subst hB
  refine ⟨hR6, hR6.set 36 v', ⟨u, v', by rw [hF]; exact cc_wins c u v v' l, ?_, ?_⟩, (win_grown hL hw hg).setCell hD _⟩
  · exact owns_set' hs6 (own_apart hs6 hR6 (by decide)) _ _
  · exact owns_set' hv (own_apart hv hR6 (by decide)) _ _

end Go.Proofs.YtihdijkplmfhfaaGreatDoor.Conf

/- The list of the spans that begin on some days, by the program. Conditions: the configuration may be, the days may be asked, and they are at most 31. -/
namespace Go.Proofs.YtihdijkplmfhfaaGreatDoor.Table
set_option maxRecDepth 100000
open Go.ChangeShapes Go.WideShapes Go.ChangeAt Go.RowKit Go.Shelf
open Go.Proofs.YtihdijkplmfhfaaGreatDoor.Divs Go.Proofs.YtihdijkplmfhfaaGreatDoor.Grow
open Go.Proofs.YtihdijkplmfhfaaGreatDoor.Greg (Laid)
open Go.Proofs.YtihdijkplmfhfaaGreatDoor.Zo Go.Proofs.YtihdijkplmfhfaaGreatDoor.Win Go.Proofs.YtihdijkplmfhfaaGreatDoor.Tab
open Go.Proofs.YtihdijkplmfhfaaGreatDoor.Cf (Cg Wn ce wo)
open Go.Proofs.YtihdijkplmfhfaaGreatDoor.Conf (wc cc Is)
open Go.Proofs.YtihdijkplmfhfaaGreatDoor.Span (RA Ws WL sc sf sf_app yield_of range_start stays_later info_span)
set_option linter.unusedVariables false

attribute [local go_sem] Oper.semAt_some

theorem begun_any (D : Array Value) (a e : Int) (w : World) : Calls Tryz.prog 57 #[.agg D, .int .i64 a, .int .i64 e] w fun r w' => r = .returned (.func (.func 95) #[] #[.pointer (some ⟨w.heap.size + 1, 0, none⟩), .pointer (some ⟨w.heap.size + 1 + 1, 0, none⟩), .pointer (some ⟨w.heap.size, 0, none⟩)]) ∧
    w' = ((w.alloc (.cells D 33)).alloc (.cells #[.int .i64 a] 3)).alloc (.cells #[.int .i64 e] 3) := by
  go_enter Tryz.func57, Tryz.ntmps57
  go_wp2
  go_ret
  exact ⟨rfl, rfl⟩

/-- What the loop over the spans keeps between two rounds, these spans having come. -/
def LJ (wA : World) (p : Nat) (D : Array Value) (a e : Int) (L : Loop) (xs : List Sp.Sp) (W : World) : Prop :=
  Later wA W ∧ (∃ v, Boxed W p 36 v ∧ WL W p v xs) ∧ RA W (p + 1) D 33 ∧ RA W (p + 1 + 1) #[.int .i64 a] 3 ∧ RA W (p + 1 + 1 + 1) #[.int .i64 e] 3 ∧
  W.heap[p + 1 + 1 + 1 + 1]? = some (.deferred (some [])) ∧ W.heap[p + 1 + 1 + 1 + 1 + 1]? = some (.loop L)

theorem LJ.later {wA : World} {p : Nat} {D : Array Value} {a e : Int} {L : Loop} {xs : List Sp.Sp} {W W' : World} (x : LJ wA p D a e L xs W) (g : Later W W') : LJ wA p D a e L xs W' := by
  obtain ⟨x0, ⟨v, x1, x2⟩, x3, x4, x5, x6, x7⟩ := x
  have o : ∀ b u, W.heap[b]? = some u → W'.heap[b]? = some u := fun b u e => (g.2.2.2 b (Array.getElem?_eq_some_iff.1 e).1).trans e
  exact ⟨gtrans x0 g, ⟨v, o _ _ x1, x2.later g⟩, o _ _ x3, o _ _ x4, o _ _ x5, o _ _ x6, o _ _ x7⟩

theorem LJ.put {wA : World} {p : Nat} {D : Array Value} {a e : Int} {L L' : Loop} {xs : List Sp.Sp} {W : World} (x : LJ wA p D a e L xs W) (hp : wA.heap.size = p) : LJ wA p D a e L' xs (W.putObj (p + 1 + 1 + 1 + 1 + 1) (.loop L')) := by
  obtain ⟨x0, ⟨v, x1, x2⟩, x3, x4, x5, x6, x7⟩ := x
  have o : ∀ b, b ≠ p + 1 + 1 + 1 + 1 + 1 → (W.putObj (p + 1 + 1 + 1 + 1 + 1) (.loop L')).heap[b]? = W.heap[b]? := fun b hb => World.putObj_heap_other (by omega)
  refine ⟨?_, ⟨v, (o _ (by omega)).trans x1, ownsRow_putObj x2 _ x7 rfl⟩, (o _ (by omega)).trans x3, (o _ (by omega)).trans x4, (o _ (by omega)).trans x5, (o _ (by omega)).trans x6, World.putObj_heap_same (Array.getElem?_eq_some_iff.1 x7).1⟩
  exact Later.of_below (x0.below.trans (belowK_b (w := wA) (Nat.le_refl _) W _ _ _ (by omega) x7 rfl rfl))

/-- A span put behind: behind the append and the store. -/
theorem LJ.hit {wA : World} {p : Nat} {D : Array Value} {a e : Int} {L : Loop} {xs ys : List Sp.Sp} {W w1 : World} {v v' : Value} (x : LJ wA p D a e L xs W) (hp : wA.heap.size = p)
    (hv : Boxed W p 36 v) (hrow : WL W p v xs) (hown : WL w1 p v' ys) (hgrow : W.grownBy w1 v.ownBlock) :
    LJ wA p D a e L ys (w1.setCell ⟨p, 0, none⟩ v') := by
  obtain ⟨x0, _, x3, x4, x5, x6, x7⟩ := x
  have hs := x0.size
  have hv1 := hv.kept hgrow (hv.not_row (by decide) hrow)
  have o : ∀ b, b ≠ p → (w1.setCell ⟨p, 0, none⟩ v').heap[b]? = w1.heap[b]? := fun b hb => Below.heap_setCell _ _ _ _ hb
  have ot : ∀ (b : Nat) (u : Obj), W.heap[b]? = some u → some b ≠ v.ownBlock → w1.heap[b]? = some u := fun b u hb hn => (hgrow.block b (Array.getElem?_eq_some_iff.1 hb).1 hn).trans hb
  have oc : ∀ (b : Nat) (u : Obj), W.heap[b]? = some u → u.isCells = false → some b ≠ v.ownBlock := by
    intro b u hb hu
    rcases hrow.2 with ⟨rfl, _⟩ | ⟨g, cap, cur, rfl, _, hgb, _⟩
    · simp [Value.ownBlock]
    · intro e'
      obtain rfl : b = g := by simpa [Value.ownBlock] using e'
      rw [hgb] at hb; cases hb; cases hu
  have bl : Below p W (w1.setCell ⟨p, 0, none⟩ v') := ((Below.refl p W).grown hgrow (by omega) (fun j e => (World.ownsRow.lt hrow j e).1)).setCell (p := ⟨p, 0, none⟩) (Nat.le_refl _) v'
  refine ⟨Later.of_below (x0.below.trans (bl.mono (by omega))), ⟨v', hv1.set v', ?_⟩, (o _ (by omega)).trans (ot _ _ x3 (Conf.own_apart hrow x3 (by decide))), (o _ (by omega)).trans (ot _ _ x4 (Conf.own_apart hrow x4 (by decide))), (o _ (by omega)).trans (ot _ _ x5 (Conf.own_apart hrow x5 (by decide))), (o _ (by omega)).trans (ot _ _ x6 (oc _ _ x6 rfl)), (o _ (by omega)).trans (ot _ _ x7 (oc _ _ x7 rfl))⟩
  exact World.ownsRow.kept hown (grownBy_setCell' w1 p v') (.inr (hv1.not_row (by decide) hown).symm)

theorem LJ.start {w : World} (D : Array Value) (a e : Int) (L : Loop) (p : Nat) (hp : w.heap.size = p) :
    LJ w p D a e L [] ((((((w.alloc (.cells #[.slice none 0 0] 36)).alloc (.cells D 33)).alloc (.cells #[.int .i64 a] 3)).alloc (.cells #[.int .i64 e] 3)).alloc (.deferred (some []))).alloc (.loop L)) := by
  subst hp
  have nw : ∀ (W : World) (o : Obj) (k : Nat), W.heap.size = k → (W.alloc o).heap[k]? = some o := fun W o k h => by subst h; exact World.alloc_heap_new W o
  have ol : ∀ (W : World) (o u : Obj) (k : Nat), W.heap[k]? = some u → (W.alloc o).heap[k]? = some u := fun W o u k h => (Below.heap_alloc _ _ _ (Array.getElem?_eq_some_iff.1 h).1).trans h
  refine ⟨(((((((Later.refl w).put _).put _).put _).put _).put _).put _), ⟨.slice none 0 0, ol _ _ _ _ (ol _ _ _ _ (ol _ _ _ _ (ol _ _ _ _ (ol _ _ _ _ (nw _ _ _ rfl))))), Span.WL.nil _ _⟩, ol _ _ _ _ (ol _ _ _ _ (ol _ _ _ _ (ol _ _ _ _ (nw _ _ _ (by simp))))), ol _ _ _ _ (ol _ _ _ _ (ol _ _ _ _ (nw _ _ _ (by simp)))), ol _ _ _ _ (ol _ _ _ _ (nw _ _ _ (by simp))), ol _ _ _ _ (nw _ _ _ (by simp)), nw _ _ _ (by simp)⟩

theorem s4_cell (W : World) (s : Sp.Sp) {n : Nat} (hn : W.heap.size = n) : ∀ j u, (sf [s])[j]? = some u → (W.alloc (.cells (s4 s) 56)).cell? ((⟨n, 0, none⟩ : Addr).add j) = some u := by
  subst hn
  intro j u hu
  rw [By.add_zero, World.cell?_alloc_new]
  have e : sf [s] = (s4 s).toList := rfl
  rw [e] at hu
  simpa using hu

set_option maxHeartbeats 4000000 in
theorem spans_any (D : Array Value) (c : Cg) (a e : Int) (m : Nat) (w : World) (hL : Laid w) (hc : Is w D c) (hce : ce c = 0) (a0 : 402 ≤ a) (a1 : a + m ≤ 3651991) (hm : m ≤ 31) (he : e = a + m - 1) :
    Calls Tryz.prog 31 #[.agg D, .int .i64 a, .int .i64 e] w fun r w' => ∃ v', r = .returned v' ∧ WL w' w.heap.size v' (sps c a m) ∧ Later w w' := by
  have HZ := Lib.hid hc.size
  obtain ⟨wA, hwA⟩ : ∃ wA, w.alloc (.cells D 33) = wA := ⟨_, rfl⟩
  have hp : wA.heap.size = w.heap.size + 1 := by rw [← hwA]; simp
  have HLA := Lib.hid (show Later w wA from hwA ▸ (Later.refl w).put _)
  have HAT : Hid (Conf.At wA w.heap.size D) := Lib.hid (by rw [← hwA]; exact Conf.At.new _ _ _)
  have HLd := Lib.hid (hL.grown HLA.out)
  have HIs := Lib.hid (hc.later HLA.out)
  have BD := Lib.hid (fun W => begun_any D a e W)
  have HE := Lib.hid he
  obtain ⟨i0, hi, hz0, hz1, hz2⟩ := info_parts info_span
  have HI := Lib.hid hi
  have HZ0 := Lib.hid hz0
  have HZ1 := Lib.hid hz1
  have HZ2 := Lib.hid hz2
  have HX := Lib.hid (And.intro hce (And.intro a0 (And.intro a1 hm)))
  clear he hi hz0 hz1 hz2 hce a0 a1 hm
  refine (callsIn_wide (n := 5)).1 ?_
  refine callsIn_of_wp_marks Tryz.func31 rfl trivial ?_ rfl
  simp only [Tryz.ntmps31, List.size_toArray, List.length_cons, List.length_nil, Nat.reduceAdd, Nat.reduceSub, Array.replicate_succ, Array.replicate_zero, List.push_toArray, List.append_toArray, List.nil_append, List.cons_append]
  gi_upto_region 2 with fail
  clear hL hc hwA
  refine wpIn_wide.2 ?_
  go_wp2_with (refine Conf.load_at D HZ.out rfl (.tmp 3) rfl w.heap.size rfl (HAT.out.put _) ?_)
  refine (BD.out _).mono ?_
  rintro r w3 ⟨rfl, rfl⟩
  go_wp2_with fail
  have hq : ∀ L : Loop, LJ wA (w.heap.size + 1) D a e L [] ((((((wA.alloc (.cells #[.slice none 0 0] 36)).alloc (.cells D 33)).alloc (.cells #[.int .i64 a] 3)).alloc (.cells #[.int .i64 e] 3)).alloc (.deferred (some []))).alloc (.loop L)) := fun L => LJ.start D a e L _ hp
  gi_wp2
  refine range_start (gf := 95) rfl (enters_of Tryz.func95 (by kernel_rfl) rfl) ?_
  intro L l1 l2 l3 l4 l5 l6
  have HQ := Lib.hid (hq L)
  clear hq
  simp only [World.size_alloc, hp]
  have step : ∀ xs s W, LJ wA (w.heap.size + 1) D a e L xs W → xs.length ≤ 1000 → YieldAt Fence.wide (5 - 1 - 1) Tryz.prog (w.heap.size + 1 + 1 + 1 + 1 + 1 + 1) #[.agg (s4 s)] W fun r W' => r = .returned (.bool true) ∧ LJ wA (w.heap.size + 1) D a e L (xs ++ [s]) W' := by
    intro xs s W hW hxs
    refine yield_of hW.2.2.2.2.2.2 (by rw [l3]; rfl) ?_
    rw [l3, l4, l5, l6]
    have H1 := Lib.hid l1
    have H2 := Lib.hid l2
    have HW := Lib.hid (hW.later ((Later.refl W).put (.cells #[.int .i64 s.f, .int .i64 s.t, .int .i64 s.m, .int .i64 s.p] 56)))
    have hlt : W.heap.size ≠ w.heap.size + 1 + 1 + 1 + 1 + 1 + 1 := by
      have := (Array.getElem?_eq_some_iff.1 hW.2.2.2.2.2.2).1
      omega
    have KL := Lib.hid hxs
    have HS := Lib.hid (RA.new W #[.int .i64 s.f, .int .i64 s.t, .int .i64 s.m, .int .i64 s.p] 56)
    clear l1 l2 l3 l4 l5 l6 hW HQ hxs
    unfold s4
    gi_wp2
    refine ⟨_, run_beginRound HW.out.2.2.2.2.2.2 H1.out, ?_⟩
    obtain ⟨Wb, hWb⟩ : ∃ Wb, (W.alloc (.cells #[.int .i64 s.f, .int .i64 s.t, .int .i64 s.m, .int .i64 s.p] 56)).putObj (w.heap.size + 1 + 1 + 1 + 1 + 1 + 1) (.loop { L with state := .busy }) = Wb := ⟨_, rfl⟩
    rw [hWb]
    have HV := Lib.hid (show LJ wA (w.heap.size + 1) D a e { L with state := .busy } xs Wb from hWb ▸ HW.out.put hp)
    have RS : Hid (RA Wb W.heap.size #[.int .i64 s.f, .int .i64 s.t, .int .i64 s.m, .int .i64 s.p] 56) := Lib.hid (by
      rw [← hWb]
      exact (World.putObj_heap_other hlt).trans HS.out)
    clear hWb HW HS hlt
    have lend : ∀ W4, LJ wA (w.heap.size + 1) D a e { L with state := .busy } (xs ++ [s]) W4 → LJ wA (w.heap.size + 1) D a e L (xs ++ [s]) (W4.putObj (w.heap.size + 1 + 1 + 1 + 1 + 1 + 1) (.loop { { L with state := .busy } with state := if (none : Option Code).isNone then .ready else .done, pending := none })) := by
      intro W4 hx
      have e : ({ { L with state := .busy } with state := if (none : Option Code).isNone then .ready else .done, pending := none } : Loop) = L := by
        have a1 := H1.out
        have a2 := H2.out
        cases L
        simp_all
      rw [e]
      exact hx.put hp
    have LEND := Lib.hid lend
    clear lend
    obtain ⟨v, bv, fv⟩ := HV.out.2.1
    obtain ⟨ad, cap, hv, _⟩ := fv.ws.len
    subst hv
    have BV := Lib.hid bv
    have FV := Lib.hid fv
    have c0 := BV.out.cell
    have s0 := RS.out.cell 0 _ rfl
    have s1 := RS.out.cell 1 _ rfl
    have s2 := RS.out.cell 2 _ rfl
    have s3 := RS.out.cell 3 _ rfl
    clear bv fv RS
    have HSZ : Hid (w.heap.size + 1 ≤ Wb.heap.size) := Lib.hid (by have := HV.out.1.size; omega)
    gi_wp2_with (gi_at_builtin; refine wpListIn_append_own _ rfl (.tmp 14) (.tmp 16) 36 rfl (w.heap.size + 1) 56 i0 _ 4 32 Tryz.underlying36 HI.out HZ0.out HZ1.out HZ2.out rfl (by decide) _ xs.length _ rfl (World.ownsRow.alloc FV.out _) ⟨_, 0, none⟩ 1 1 (sf [s]) rfl rfl (s4_cell _ s rfl) (Span.sf_cell [s]) (by have := KL.out; simp only [maxLen]; omega) (by have := KL.out; omega) (by have := HSZ.out; simp; omega) ?_; intro v' w5 hown hgrow _; have hw5 : WL w5 (w.heap.size + 1) v' (xs ++ [s]) := (by unfold WL; rw [List.length_append, sf_app]; exact hown); have BX := Lib.hid (BV.out.alloc (.cells #[.int .i64 s.f, .int .i64 s.t, .int .i64 s.m, .int .i64 s.p] 56)); have FX := Lib.hid (FV.out.later ((Later.refl Wb).put (.cells #[.int .i64 s.f, .int .i64 s.t, .int .i64 s.m, .int .i64 s.p] 56))); have HN1 := Lib.hid ((HV.out.later ((Later.refl Wb).put (.cells #[.int .i64 s.f, .int .i64 s.t, .int .i64 s.m, .int .i64 s.p] 56))).hit hp BX.out FX.out hw5 hgrow); obtain ⟨ad7, cap7, hv7, _⟩ := hw5.ws.len; subst hv7; have hv1 := BX.out.kept hgrow (BX.out.not_row (by decide) FX.out); have c2 := hv1.cell; have f2 := hv1.frozen; clear hown hgrow hv1 hw5 c0 s0 s1 s2 s3)
    have hn1 := HN1.out
    rw [show (xs ++ [s]).length = xs.length + 1 by simp] at hn1
    exact ⟨_, _, run_endRound none hn1.2.2.2.2.2.2, rfl, LEND.out _ hn1⟩
  have STEP := Lib.hid step
  clear step
  obtain ⟨hce, a0, a1, hm⟩ := HX.out
  refine (begun1_in (5 - 1) (by omega) D c a e m (w.heap.size + 1 + 1 + 1 + 1 + 1 + 1) (w.heap.size + 1 + 1) (LJ wA (w.heap.size + 1) D a e L) _ hce a0 a1 hm HE.out (fun xs W W' x g => x.later g) (fun xs W x => ⟨HLd.out.grown x.1, HIs.out.later x.1, x.2.2.1, x.2.2.2.1, x.2.2.2.2.1⟩) STEP.out HQ.out).mono ?_
  have LP := Lib.hid l2
  have LST : L.state ≠ .busy := by rw [l1]; simp
  clear STEP HQ l1 l2 l3 l4 l5 l6
  rintro r W2 ⟨⟨v, rfl⟩, hX⟩
  refine ⟨_, _, run_endLoop hX.2.2.2.2.2.2 LST, ?_⟩
  obtain ⟨W3, hW3⟩ : ∃ W3, W2.putObj (w.heap.size + 1 + 1 + 1 + 1 + 1 + 1) (.loop { L with state := .exhausted }) = W3 := ⟨_, rfl⟩
  rw [hW3, LP.out]
  have HV := Lib.hid (show LJ wA (w.heap.size + 1) D a e { L with state := .exhausted } (sps c a m) W3 from hW3 ▸ hX.put hp)
  clear hW3 hX
  obtain ⟨u, bu, fu⟩ := HV.out.2.1
  have c1 := bu.cell
  have FU := Lib.hid fu
  clear bu fu
  dsimp only
  gi_wp2
  refine ⟨by simp, .inl ⟨_, _, rfl, run_takeDeferred HV.out.2.2.2.2.2.1, ?_⟩⟩
  refine ⟨_, results_tmp rfl _ _ _, u, rfl, ?_, ?_⟩
  · have x : WL _ _ _ _ := ownsRow_putObj FU.out (.deferred none) HV.out.2.2.2.2.2.1 rfl
    exact x.base (by omega)
  · exact gtrans HLA.out (Later.of_below (HV.out.1.below.trans (belowK_b (w := wA) (Nat.le_refl _) W3 _ _ _ (by omega) HV.out.2.2.2.2.2.1 rfl rfl)))

end Go.Proofs.YtihdijkplmfhfaaGreatDoor.Table

/- The chapter's example, and what the laws ask of the program's Resolve. Conditions: as each theorem states. -/
namespace Go.Proofs.YtihdijkplmfhfaaGreatDoor.Span
set_option maxRecDepth 100000
set_option maxRecDepth 100000
open Go.ChangeShapes Go.WideShapes Go.ChangeAt Go.RowKit
open Go.Proofs.YtihdijkplmfhfaaGreatDoor.Divs Go.Proofs.YtihdijkplmfhfaaGreatDoor.Grow
open Go.Proofs.YtihdijkplmfhfaaGreatDoor.By (Sk SL)
open Go.Proofs.YtihdijkplmfhfaaGreatDoor.Sp

/-- A block of these spans' cells is a slice of them. -/
theorem ra_ws {W : World} {g : Nat} {xs : List Sp} {n : Nat} (h : RA W g (sf xs).toArray 56) (hn : xs.length = n) (hb : n ≤ 100000) : Ws W (.slice (some ⟨g, 0, none⟩) n n) xs := by
  subst hn
  refine ⟨_, xs.length, rfl, Nat.le_refl _, by omega, by simp, fun i u hu => ⟨g, 0, rfl, ?_⟩⟩
  rw [Nat.zero_add]
  exact h.cell i u (by simpa using hu)

def x1 : List Sp := [⟨0, 10, 1, 0⟩, ⟨3, 5, 2, 1⟩]
def x2 : List Sp := [⟨0, 3, 1, 0⟩, ⟨3, 5, 2, 0⟩, ⟨5, 10, 1, 0⟩]

theorem full_x : Full x2 (md x1) := by
  have g0 : Sp.Good [] (md x1) 0 := st_start x1 0 (by decide)
  have g1 := st_good g0 (show Nx (ends x1) 0 3 true from ⟨by decide, by decide, by decide⟩)
  have g2 := st_good g1 (show Nx (ends x1) 3 5 true from ⟨by decide, by decide, by decide⟩)
  have g3 := st_good g2 (show Nx (ends x1) 5 10 true from ⟨by decide, by decide, by decide⟩)
  have g4 := st_end 0 g3 (show ∀ e ∈ ends x1, e ≤ 10 by decide)
  exact g4

/-- e is what spans that may be are answered. -/
def IsRes (l : List Sp) (w w' : World) (e : Ending) : Prop := ∃ v' R, e = .returned (.tuple #[v', .int .i64 0]) ∧ Full R (md l) ∧ WL w' w.heap.size v' R

theorem res_yes (v : Value) (l : List Sp) (w : World) (h : Ws w v l) (hm : mb l = true) :
    Calls Tryz.prog 56 #[v] w fun e w' => IsRes l w w' e ∧ Later w w' := by
  refine (resolve_yes v l w h hm ((mb_iff l).1 hm).1).mono ?_
  rintro e w' ⟨v', he, ⟨R, h1, h2⟩, hg⟩
  exact ⟨⟨v', R, he, h1, h2⟩, hg⟩

/-- A row of spans known. -/
theorem res_known (v : Value) (l R : List Sp) (w : World) (h : Ws w v l) (hm : mb l = true) (hR : Full R (md l)) :
    Calls Tryz.prog 56 #[v] w fun e w' => ∃ v', e = .returned (.tuple #[v', .int .i64 0]) ∧ WL w' w.heap.size v' R ∧ Later w w' := by
  refine (res_yes v l w h hm).mono ?_
  rintro e w' ⟨⟨v', S, he, h1, h2⟩, hg⟩
  obtain rfl := uniq h1 hR
  exact ⟨v', he, h2, hg⟩

end Go.Proofs.YtihdijkplmfhfaaGreatDoor.Span

/- Plain facts on a week that is weightier than all else. Conditions: as each theorem states. -/
namespace Go.Proofs.YtihdijkplmfhfaaGreatDoor.Tab
set_option maxRecDepth 100000
set_option maxRecDepth 100000
open Go.Proofs.YtihdijkplmfhfaaGreatDoor.Cal (yr ya)
open Go.Proofs.YtihdijkplmfhfaaGreatDoor.Zo
open Go.Proofs.YtihdijkplmfhfaaGreatDoor.Cf (Cg Wn ce wo we)
open Go.Proofs.YtihdijkplmfhfaaGreatDoor.Win
open Go.Proofs.YtihdijkplmfhfaaGreatDoor.Sp (best md)

theorem cm_cw (c : Cg) (x : Wn) : cm c x = Conf.cw c (c.ws ++ [x]) := rfl

theorem ce_cm {c : Cg} (h : ce c = 0) (hn : c.ws.length ≤ 15) (x : Wn) (hx : wo x = true) : ce (cm c x) = 0 := by
  rw [cm_cw, Conf.ce_more c x h (by omega)]
  exact (Cf.we_ok x).2 hx

theorem low {c : Cg} (h : ce c = 0) (hp : ∀ x ∈ c.ws, ¬ x.p = 99) (day : Int) : ∀ x ∈ c.ws, x.p < (wk day).p := by
  intro x hx
  have k := (Conf.wo_iff x).1 (ws_may h hx)
  have q := hp x hx
  show x.p < 99
  omega

theorem wk_sv {c : Cg} (h : ce c = 0) {day t : Int} (d0 : 700000 ≤ day) (d1 : day ≤ 870000) (a : mv c.z (day * 1440) ≤ t) (b : t ≤ mv c.z (day * 1440) + 10080) : sv c.z t = true := by
  obtain ⟨hz, _⟩ := ce_parts c h
  rw [sv_iff _ hz]
  have m := mv_bd c.z hz (day * 1440) (by omega) (by omega)
  unfold May at hz
  omega

theorem wk_best {c : Cg} (h : ce c = 0) (hp : ∀ x ∈ c.ws, ¬ x.p = 99) {day t : Int} (d0 : 700000 ≤ day) (d1 : day ≤ 870000) (a : mv c.z (day * 1440) ≤ t) (b : t ≤ mv c.z (day * 1440) + 10080) :
    best (sps (cm c (wk day)) (td c.z t / 1440 - 9) 11) t = if mv c.z (day * 1440) ≤ t ∧ t < mv c.z (day * 1440) + 10080 then some ⟨mv c.z (day * 1440), mv c.z (day * 1440) + 10080, 4, 99⟩ else best (sps c (td c.z t / 1440 - 9) 11) t := by
  obtain ⟨hz, _⟩ := ce_parts c h
  have n := wk_near c.z hz day t (by omega) (by omega) a b
  obtain ⟨e1, e2⟩ := wk_span c day
  have k := best_over c (wk day) day (td c.z t / 1440 - 9) 11 t (by omega) (by omega) (wk_beg c day) (low h hp day)
  rw [e1, e2] at k
  exact k

/-- In the week it is the week's mode. -/
theorem over_in {c : Cg} (h : ce c = 0) (hp : ∀ x ∈ c.ws, ¬ x.p = 99) {day t : Int} (d0 : 700000 ≤ day) (d1 : day ≤ 870000) (a : mv c.z (day * 1440) ≤ t) (b : t < mv c.z (day * 1440) + 10080) : mM (cm c (wk day)) t = 4 := by
  rw [mM_md (cm c (wk day)) t (wk_sv (c := c) h d0 d1 a (by omega))]
  unfold md
  show ((best (sps (cm c (wk day)) (td c.z t / 1440 - 9) 11) t).map (·.m)).getD 0 = 4
  rw [wk_best h hp d0 d1 a (by omega), if_pos ⟨a, b⟩]
  rfl

/-- Behind it it is as without it. -/
theorem over_out {c : Cg} (h : ce c = 0) (hp : ∀ x ∈ c.ws, ¬ x.p = 99) {day t : Int} (d0 : 700000 ≤ day) (d1 : day ≤ 870000) (e : t = mv c.z (day * 1440) + 10080) : mM (cm c (wk day)) t = mM c t := by
  have s := wk_sv (c := c) (t := t) h d0 d1 (by omega) (by omega)
  rw [mM_md (cm c (wk day)) t s, mM_md c t s]
  unfold md
  show ((best (sps (cm c (wk day)) (td c.z t / 1440 - 9) 11) t).map (·.m)).getD 0 = _
  rw [wk_best h hp d0 d1 (by omega) (by omega), if_neg (by omega)]

/-- The week's span is the day's last one. -/
theorem over_last (c : Cg) (day : Int) : sps (cm c (wk day)) day 1 = dw c day c.ws ++ [⟨mv c.z (day * 1440), mv c.z (day * 1440) + 10080, 4, 99⟩] := by
  obtain ⟨e1, e2⟩ := wk_span c day
  have e : sps (cm c (wk day)) day 1 = [] ++ dw (cm c (wk day)) (day + ((0 : Nat) : Int)) (cm c (wk day)).ws := rfl
  rw [e, show day + ((0 : Nat) : Int) = day by omega, dw_over, wk_beg, if_pos (by simp), e1, e2]
  rfl

end Go.Proofs.YtihdijkplmfhfaaGreatDoor.Tab
