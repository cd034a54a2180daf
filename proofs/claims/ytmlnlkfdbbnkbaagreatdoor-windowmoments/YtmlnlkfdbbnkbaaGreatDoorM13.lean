/-
  Texts of mine, merged: each part says what it holds. Conditions: as each theorem states.
-/
import Derived.Handy
import Derived.RegionTactic
import Derived.StillTail
import Derived.Test.YtmlnlkfdbbnkbaaGreatDoorM12

/- A configuration in memory of its own. Conditions: as each theorem states. -/
namespace Go.Proofs.YtmlnlkfdbbnkbaaGreatDoor.Conf
set_option maxRecDepth 100000
set_option maxRecDepth 100000
open Go.ChangeShapes Go.WideShapes Go.ChangeAt Go.RowKit
open Go.Proofs.YtmlnlkfdbbnkbaaGreatDoor.Divs Go.Proofs.YtmlnlkfdbbnkbaaGreatDoor.Grow Go.Proofs.YtmlnlkfdbbnkbaaGreatDoor.Zone
open Go.Proofs.YtmlnlkfdbbnkbaaGreatDoor.By (Sk SL bool_no bool_yes)
open Go.Proofs.YtmlnlkfdbbnkbaaGreatDoor.Each
open Go.Proofs.YtmlnlkfdbbnkbaaGreatDoor.Zo Go.Proofs.YtmlnlkfdbbnkbaaGreatDoor.Su Go.Proofs.YtmlnlkfdbbnkbaaGreatDoor.Cf

theorem owns_base {W : World} {b c : Nat} {e : TypeId} {n m : Nat} {v : Value} {xs : List Value} (h : W.ownsRow b e n v m xs) (hb : c ≤ b) : W.ownsRow c e n v m xs := by
  refine ⟨h.1, ?_⟩
  rcases h.2 with h | ⟨g, cap, cur, hv, h1, h2⟩
  · exact .inl h
  · exact .inr ⟨g, cap, cur, hv, Nat.le_trans hb h1, h2⟩

theorem Row.apart {B : Nat} {t : TypeId} {cs : Array Value} {W : World} (h : Row B t cs W) (A i : Nat) (y : Value) (ha : B ≠ A) : Row B t cs (W.setCell ⟨A, i, none⟩ y) := by
  unfold Row at *
  rw [heap_set_other _ _ _ _ _ ha]
  exact h

set_option maxHeartbeats 2000000 in
theorem own_any (c : Cg) (u v : Value) (w : World) (hu : Sk .i64 w u c.st) (hv : Wk w v c.ws) (hs : c.st.length ≤ 80) (hw : c.ws.length ≤ 20) : Calls Tryz.prog 12 #[.agg (cc c u v)] w fun e w' =>
    ∃ u' v', e = .returned (.agg (cc c u' v')) ∧ SL .i64 3 w' w.heap.size u' c.st ∧ WL w' w.heap.size v' c.ws ∧ Later w w' := by
  obtain ⟨C, hC⟩ : ∃ C, C = cc c u v := ⟨_, rfl⟩
  rw [← hC]
  have f3 : C[3]? = some u := by rw [hC]; rfl
  have F36 : Hid (C[36]? = some v) := Lib.hid (by rw [hC]; rfl)
  have HZ : Hid (C.size = 37) := Lib.hid (by rw [hC]; rfl)
  have HU := Lib.hid hu
  have HV := Lib.hid hv
  have HC := Lib.hid hC
  obtain ⟨d0, q0, rfl, _, _⟩ := sk_form hu
  obtain ⟨d9, q9, rfl, _, _⟩ := wk_form hv
  clear hC hu hv
  go_enter Tryz.func12, Tryz.ntmps12
  go_wp2_with (first
    | (at_builtin; refine append_ints' rfl _ _ rfl _ ((Later.refl _).alloc _ _) (w.heap.size + 1 + 1) (by simp) _ [] rfl (ints_made' _ _ _ (by simp) (by simp)) _ c.st rfl (HU.out.later ((((Later.refl w).alloc _ _).alloc _ _).alloc _ _)) (by simp; omega) ?_; intro u' w1 hs1 hg1; rw [List.nil_append] at hs1; obtain ⟨d1, q1, rfl, _, _⟩ := sk_form (By.SL.sk hs1); have HA1 := Lib.hid (((Row.new w C 33).later ((Later.refl _).alloc _ _)).later hg1); have HR1 := Lib.hid ((Row.new _ _ _).later hg1); have HG1 := Lib.hid (gtrans (((Later.refl w).alloc _ _).alloc _ _) hg1); have HS1 := Lib.hid hs1; have HSZ : Hid (w.heap.size + 2 ≤ w1.heap.size) := Lib.hid (by have := hg1.size; simp at this; omega); clear hs1 hg1; have a3 := HA1.out.cell 3 f3; have a36 := ((HA1.out.set 3 (.slice d1 c.st.length q1)).later ((Later.refl _).alloc #[] 35)).cell 36 (v := .slice d9 c.ws.length q9) (by rw [Array.getElem?_setIfInBounds_ne (by omega)]; exact F36.out); have z3 := HA1.out.frozen 3)
    | (at_builtin; refine append_wins' rfl _ _ rfl _ ((Later.refl _).alloc _ _) _ rfl _ [] rfl (wins_made' _ _ _ (by simp) (by simp)) _ c.ws rfl (HV.out.later ((HG1.out.setCell (Nat.le_refl _) _).alloc _ _)) (by simp; omega) ?_; intro v' w2 hs2 hg2; rw [List.nil_append] at hs2; obtain ⟨d2, q2, rfl, _, _⟩ := wk_form (WL.wk hs2); have HA2 := Lib.hid ((HA1.out.set 3 _).later hg2); have b36 := HA2.out.cell 36 (v := .slice d9 c.ws.length q9) (by rw [Array.getElem?_setIfInBounds_ne (by omega)]; exact F36.out); have y36 := HA2.out.frozen 36; have HS2 := Lib.hid hs2; have HG2 := Lib.hid hg2; clear hs2 hg2; obtain ⟨D, hD⟩ : ∃ D, D = (cc c (.slice d1 c.st.length q1) (.slice d2 c.ws.length q2)) := ⟨_, rfl⟩; have HD := Lib.hid hD; have D37 : Hid (D.size = 37) := Lib.hid (by rw [hD]; rfl); have D1 : Hid (D.all (·.oneCell') = true) := Lib.hid (by rw [hD]; unfold cc; simp [Value.oneCell']); clear hD; have HA3 : Hid (At (w2.setCell ⟨w.heap.size, 36, none⟩ (.slice d2 c.ws.length q2)) w.heap.size D) := Lib.hid (by have h := (HA2.out.set 36 (.slice d2 c.ws.length q2)).at; rw [HC.out] at h; rw [HD.out]; exact h); have HR3 := Lib.hid (((HR1.out.apart w.heap.size 3 (.slice d1 c.st.length q1) (by simp)).later HG2.out).apart w.heap.size 36 (.slice d2 c.ws.length q2) (by simp)); have HT3 : Hid ((w2.setCell ⟨w.heap.size, 36, none⟩ (.slice d2 c.ws.length q2)).there (w.heap.size + 1) 0 D.size) := Lib.hid (by rw [D37.out]; have h := HR3.out.there; simp only [World.size_alloc] at h; exact h); clear HR3 HR1)
    | (refine load_at D D37.out rfl (.tmp 1) rfl w.heap.size rfl HA3.out ?_)
    | (refine wpList_store_mid rfl 33 (.tmp 2) (.tmp 13) rfl (w.heap.size + 1) 0 D rfl rfl HT3.out (by rw [D37.out]; kernel_rfl) D1.out ?_))
  have hAt : At ((w2.setCell ⟨w.heap.size, 36, none⟩ (.slice d2 c.ws.length q2)).setCells (w.heap.size + 1) 0 D.toList) (w.heap.size + 1) D := fun j x hx => by
    have := World.rangeAt_setCells_same (w2.setCell ⟨w.heap.size, 36, none⟩ (.slice d2 c.ws.length q2)) (w.heap.size + 1) 0 D.toList (by rw [Array.length_toList]; exact HT3.out) j x (by simpa using hx)
    rwa [Nat.zero_add] at this
  refine bodyPost_ret (v := .agg D) (results_at (fn := Tryz.f12) Tryz.results12 _ _ (w.heap.size + 1) D D37.out rfl hAt) rfl ?_
  refine ⟨.slice d1 c.st.length q1, .slice d2 c.ws.length q2, by rw [HD.out], ?_, ?_, ?_⟩
  · have h1 : By.SL .i64 3 (w1.setCell ⟨w.heap.size, 3, none⟩ (.slice d1 c.st.length q1)) (w.heap.size + 1 + 1) (.slice d1 c.st.length q1) c.st := owns_set HS1.out (by omega) _ _
    exact owns_base (owns_sets (by omega) _ _ _ (owns_set (h1.later HG2.out) (by omega) _ _)) (by omega)
  · have hsz : w.heap.size + 1 < (w1.setCell ⟨w.heap.size, 3, none⟩ (.slice d1 c.st.length q1)).heap.size := by
      have := HSZ.out
      simp
      omega
    exact owns_base (owns_sets hsz _ _ _ (owns_set HS2.out (by omega) _ _)) (by omega)
  · exact later_sets (by omega) _ _ _ ((gtrans (HG1.out.setCell (Nat.le_refl _) _) HG2.out).setCell (Nat.le_refl _) _)

end Go.Proofs.YtmlnlkfdbbnkbaaGreatDoor.Conf

/- Plain facts on what may be when one thing is changed. Conditions: as each theorem states. -/
namespace Go.Proofs.YtmlnlkfdbbnkbaaGreatDoor.Conf
set_option maxRecDepth 100000
set_option maxRecDepth 100000
open Go.Proofs.YtmlnlkfdbbnkbaaGreatDoor.Zo Go.Proofs.YtmlnlkfdbbnkbaaGreatDoor.Su Go.Proofs.YtmlnlkfdbbnkbaaGreatDoor.Cf

set_option linter.unusedSimpArgs false in
theorem ce_ok (c : Cg) : ce c = 0 ↔ so c = true ∧ to c = true ∧ ti c = true ∧ ck c.z = 0 ∧ sk c.s = 0 ∧ c.ws.length ≤ 16 ∧ wa c.ws = true := by
  unfold ce
  by_cases h1 : so c = true
  · by_cases h2 : to c = true
    · by_cases h3 : ti c = true
      · by_cases h4 : ck c.z = 0
        · by_cases h5 : sk c.s = 0
          · by_cases h6 : c.ws.length ≤ 16
            · by_cases h7 : wa c.ws = true
              · simp only [h1, h2, h3, h4, h5, h6, h7, if_true, true_and]
              · simp only [h1, h2, h3, h4, h5, h6, h7, if_true, if_false, true_and]
                simp
            · simp only [h1, h2, h3, h4, h5, h6, if_true, if_false, true_and, false_and]
              simp
          · simp only [h1, h2, h3, h4, h5, if_true, if_false, true_and, false_and]
        · simp only [h1, h2, h3, h4, if_true, if_false, true_and, false_and]
      · simp only [h1, h2, h3, if_true, if_false, true_and, false_and]
        simp
    · simp only [h1, h2, if_true, if_false, true_and, false_and]
      simp
  · simp only [h1, if_false, false_and]
    simp

/-- With other windows. -/
def cw (c : Cg) (l : List Wn) : Cg := { c with ws := l }

/-- With other stops. -/
def ct (c : Cg) (l : List Int) : Cg := { c with st := l }

/-- With another lead. -/
def cl (c : Cg) (n : Int) : Cg := { c with e := n }

/-- With other floors. -/
def cf (c : Cg) (n : Int) : Cg := { c with f := n }

/-- With another place's zone and sunsets. -/
def cp (c d : Cg) : Cg := { c with z := d.z, s := d.s }

theorem ce_cw (c : Cg) (l : List Wn) (h : ce c = 0) : ce (cw c l) = if l.length ≤ 16 then (if wa l = true then 0 else 104) else 103 := by
  obtain ⟨h1, h2, h3, h4, h5, -, -⟩ := (ce_ok c).mp h
  have e1 : so (cw c l) = true := h1
  have e2 : to (cw c l) = true := h2
  have e3 : ti (cw c l) = true := h3
  have e4 : ck (cw c l).z = 0 := h4
  have e5 : sk (cw c l).s = 0 := h5
  unfold ce
  rw [if_pos e1, if_pos e2, if_pos e3, if_pos e4, if_pos e5]
  rfl

theorem ce_more (c : Cg) (x : Wn) (h : ce c = 0) (hn : c.ws.length + 1 ≤ 16) : ce (cw c (c.ws ++ [x])) = we x := by
  rw [ce_cw c _ h, if_pos (by simpa using hn)]
  have hw := ((ce_ok c).mp h).2.2.2.2.2.2
  unfold wa at hw ⊢
  rw [List.all_append, hw]
  unfold we
  simp

theorem ce_much (c : Cg) (x : Wn) (h : ce c = 0) (hn : ¬ c.ws.length + 1 ≤ 16) : ce (cw c (c.ws ++ [x])) = 103 := by
  rw [ce_cw c _ h, if_neg (by simpa using hn)]

theorem ce_less (c : Cg) (l : List Wn) (h : ce c = 0) (hn : l.length ≤ c.ws.length) (hm : ∀ x ∈ l, x ∈ c.ws) : ce (cw c l) = 0 := by
  obtain ⟨-, -, -, -, -, h6, h7⟩ := (ce_ok c).mp h
  rw [ce_cw c l h, if_pos (Nat.le_trans hn h6), if_pos]
  unfold wa at h7 ⊢
  rw [List.all_eq_true] at h7 ⊢
  exact fun x hx => h7 x (hm x hx)

theorem win_ok (c : Cg) (h : ce c = 0) (i : Nat) (x : Wn) (hx : c.ws[i]? = some x) : we x = 0 := by
  have h7 := ((ce_ok c).mp h).2.2.2.2.2.2
  unfold wa at h7
  rw [List.all_eq_true] at h7
  exact (we_ok x).mpr (h7 x (List.mem_of_getElem? hx))

theorem ce_stop (c : Cg) (l : List Int) (h : so c = true) (hl : l.length < 2) : ce (ct c l) = 101 := by
  have e1 : so (ct c l) = true := h
  have e2 : ¬ to (ct c l) = true := by
    rw [to_iff]
    show ¬ (2 ≤ l.length ∧ _)
    omega
  unfold ce
  rw [if_pos e1, if_neg e2]

theorem ce_floor (c : Cg) : ce (cf c 1) = 100 := by
  unfold ce
  rw [if_neg]
  intro h
  have := (so_floors h).1
  have e : (cf c 1).f = 1 := rfl
  omega

theorem ck_three (z : Zn) : ck z = 0 ∨ ck z = 60 ∨ ck z = 61 ∨ ck z = 62 := by
  unfold ck
  split
  · simp
  · split
    · simp
    · split <;> simp

theorem sk_three (s : Nat → Int) : sk s = 0 ∨ sk s = 70 ∨ sk s = 71 := by
  unfold sk
  split
  · split <;> simp
  · simp

theorem ce_first (c d : Cg) (h : ce c = 100 ∨ ce c = 101 ∨ ce c = 102) : ce (cp c d) = ce c := by
  have e1 : so (cp c d) = so c := rfl
  have e2 : to (cp c d) = to c := rfl
  have e3 : ti (cp c d) = ti c := rfl
  unfold ce at h ⊢
  rw [e1, e2, e3]
  by_cases h1 : so c = true
  · by_cases h2 : to c = true
    · by_cases h3 : ti c = true
      · exfalso
        rw [if_pos h1, if_pos h2, if_pos h3] at h
        have := ck_three c.z
        have := sk_three c.s
        split at h
        · split at h
          · split at h
            · split at h <;> omega
            · omega
          · omega
        · omega
      · rw [if_pos h1, if_pos h2, if_neg h3, if_pos h1, if_pos h2, if_neg h3]
    · rw [if_pos h1, if_neg h2, if_pos h1, if_neg h2]
  · rw [if_neg h1, if_neg h1]

theorem ce_place (c d : Cg) (h : ce c = 0) (g : ce d = 0) : ce (cp c d) = 0 := by
  obtain ⟨h1, h2, h3, -, -, h6, h7⟩ := (ce_ok c).mp h
  obtain ⟨-, -, -, h4, h5, -, -⟩ := (ce_ok d).mp g
  exact (ce_ok _).mpr ⟨h1, h2, h3, h4, h5, h6, h7⟩

/-- The least dwell. -/
def ls (c : Cg) : Int := min (min c.d c.r) c.q

theorem ls_in (c : Cg) (h : ce c = 0) : 1 ≤ ls c ∧ ls c ≤ 60 := by
  have h3 := ((ce_ok c).mp h).2.2.1
  simp only [ti, Bool.and_eq_true, bt_iff] at h3
  unfold ls
  omega

theorem ce_lead (c : Cg) (n : Int) (h : ce c = 0) : ce (cl c n) = if 1 ≤ n ∧ n ≤ ls c then 0 else 102 := by
  obtain ⟨h1, h2, h3, h4, h5, h6, h7⟩ := (ce_ok c).mp h
  have e1 : so (cl c n) = true := h1
  have e2 : to (cl c n) = true := h2
  have e3 : ti (cl c n) = true ↔ 1 ≤ n ∧ n ≤ ls c := by
    unfold ls
    simp only [ti, Bool.and_eq_true, bt_iff] at h3 ⊢
    simp only [cl]
    omega
  by_cases g : 1 ≤ n ∧ n ≤ ls c
  · rw [if_pos g]
    exact (ce_ok _).mpr ⟨e1, e2, e3.mpr g, h4, h5, h6, h7⟩
  · rw [if_neg g]
    unfold ce
    rw [if_pos e1, if_pos e2, if_neg (fun x => g (e3.mp x))]

theorem sq_self (s : Nat → Int) : sq s s = true := by simp [sq]

theorem sb_self (c : Cg) (l : List Wn) : sb c (cw c l) = true := by simp [sb, tq, cw]

theorem zq_self (z : Zn) : zq z z = true := by simp [zq]

theorem tt_cw (c : Cg) (l : List Wn) : tt c (cw c l) = decide (c.ws = l) := by
  show (zq c.z c.z && (sq c.s c.s && ((c.ab == c.ab) && decide (c.ws = l)))) = _
  rw [zq_self, sq_self, beq_self_eq_true, Bool.true_and, Bool.true_and, Bool.true_and]

theorem same_cw (c : Cg) (l : List Wn) : (sb c (cw c l) && tt c (cw c l)) = decide (c.ws = l) := by
  rw [sb_self, tt_cw, Bool.true_and]

theorem ft_cw (c : Cg) (l : List Wn) (h : ce c = 0) (g : ce (cw c l) = 0) : ft c (cw c l) = true := by
  unfold ft
  rw [h, g]
  simp [cw]

theorem ft_not (c d : Cg) (h : ce d ≠ 0) : ft c d = false := by
  unfold ft
  have : (ce d == 0) = false := by simpa using h
  rw [this]
  simp

/-- The example's sunsets. -/
def ps : Nat → Int := fun i => [1000, 1050, 1100, 1150, 1180, 1200, 1170, 1130, 1080, 1030, 1000, 990].getD i 0

/-- The example's window. -/
def pw : Wn := ⟨1, 2, 0, 65, 0, 1200, 600⟩

/-- The example. -/
def pc : Cg := ⟨4, 1, 0, [0, 1, 3], 2, 1, 2, 4, 1, 2, 3, 5, 3, ⟨0, 0, ⟨0, 0, 0, 0⟩, ⟨0, 0, 0, 0⟩⟩, ps, false, [pw]⟩

/-- No configuration. -/
def oc : Cg := ⟨0, 0, 0, [], 0, 0, 0, 0, 0, 0, 0, 0, 0, ⟨0, 0, ⟨0, 0, 0, 0⟩, ⟨0, 0, 0, 0⟩⟩, fun _ => 0, false, []⟩

/-- No window. -/
def ow : Wn := ⟨0, 0, 0, 0, 0, 0, 0⟩

theorem pc_ok : ce pc = 0 := by
  refine (ce_ok _).mpr ⟨by decide, by decide, by decide, by decide, ?_, by decide, by decide⟩
  refine (sk_ok _).mpr ⟨?_, ?_⟩
  · unfold okM; decide
  · unfold okS; decide

theorem pc_self : (sb pc pc && tt pc pc) = true := by
  show (sb pc (cw pc pc.ws) && tt pc (cw pc pc.ws)) = true
  rw [same_cw]
  simp

theorem pc_fits : ft pc pc = true := by
  unfold ft
  rw [pc_ok]
  rfl

theorem pc_oc : (sb pc oc && tt pc oc) = false := by rfl

theorem pw_ok : we pw = 0 := by decide

theorem ow_not : we ow = 104 := by decide

end Go.Proofs.YtmlnlkfdbbnkbaaGreatDoor.Conf

/- Configurations that are stored whole, and the example. Conditions: as each theorem states. -/
namespace Go.Proofs.YtmlnlkfdbbnkbaaGreatDoor.Conf
set_option maxRecDepth 100000
set_option maxRecDepth 100000
open Go.ChangeShapes Go.WideShapes Go.ChangeAt Go.RowKit
open Go.Proofs.YtmlnlkfdbbnkbaaGreatDoor.Divs Go.Proofs.YtmlnlkfdbbnkbaaGreatDoor.Grow Go.Proofs.YtmlnlkfdbbnkbaaGreatDoor.Zone
open Go.Proofs.YtmlnlkfdbbnkbaaGreatDoor.By (Sk SL bool_no bool_yes)
open Go.Proofs.YtmlnlkfdbbnkbaaGreatDoor.Each
open Go.Proofs.YtmlnlkfdbbnkbaaGreatDoor.Zo Go.Proofs.YtmlnlkfdbbnkbaaGreatDoor.Su Go.Proofs.YtmlnlkfdbbnkbaaGreatDoor.Cf

/-- Cells that are set, from one on. -/
def sets (cs : Array Value) (o : Nat) : List Value → Array Value
  | [] => cs
  | v :: r => sets (cs.setIfInBounds o v) (o + 1) r

theorem Row.sets {B : Nat} {t : TypeId} (vs : List Value) : ∀ (W : World) (cs : Array Value) (o : Nat), Row B t cs W → Row B t (Conf.sets cs o vs) (W.setCells B o vs) := by
  induction vs with
  | nil => intro W cs o h; exact h
  | cons y r ih => intro W cs o h; exact ih _ _ _ (h.set o y)

theorem sets_get (vs : List Value) : ∀ (cs : Array Value) (o i : Nat), o + vs.length ≤ cs.size → (sets cs o vs)[i]? = if o ≤ i ∧ i < o + vs.length then vs[i - o]? else cs[i]? := by
  induction vs with
  | nil =>
    intro cs o i h
    rw [if_neg (by simp)]
    rfl
  | cons y r ih =>
    intro cs o i h
    simp only [List.length_cons] at h
    show (sets (cs.setIfInBounds o y) (o + 1) r)[i]? = _
    rw [ih _ _ _ (by simp; omega)]
    by_cases e : i = o
    · subst e
      rw [if_neg (by omega), if_pos (by simp), Nat.sub_self]
      simp [show i < cs.size by omega]
    · rw [Array.getElem?_setIfInBounds_ne (Ne.symm e)]
      by_cases g : o + 1 ≤ i ∧ i < o + 1 + r.length
      · rw [if_pos g, if_pos (by simp; omega)]
        obtain ⟨k, rfl⟩ : ∃ k, i = o + 1 + k := ⟨i - (o + 1), by omega⟩
        have e1 : o + 1 + k - (o + 1) = k := by omega
        have e2 : o + 1 + k - o = k + 1 := by omega
        rw [e1, e2, List.getElem?_cons_succ]
      · rw [if_neg g, if_neg (by simp; omega)]

theorem sets_all (cs D : Array Value) (h : cs.size = D.size) : sets cs 0 D.toList = D := by
  apply Array.ext_getElem?
  intro i
  rw [sets_get _ _ _ _ (by simp; omega)]
  by_cases g : 0 ≤ i ∧ i < 0 + D.toList.length
  · rw [if_pos g]
    simp
  · rw [if_neg g]
    simp only [Array.length_toList] at g
    rw [Array.getElem?_eq_none (by omega), Array.getElem?_eq_none (by omega)]

theorem heap_sets_other {A g : Nat} (h : g ≠ A) (vs : List Value) : ∀ (W : World) (o : Nat), (W.setCells A o vs).heap[g]? = W.heap[g]? := by
  induction vs with
  | nil => intro W o; rfl
  | cons y r ih => intro W o; exact (ih _ _).trans (heap_set_other _ _ _ _ _ h)

/-- A configuration is stored whole. -/
theorem store_row {ops : Array Oper} {rest : List Oper} {o : Oper} {a : Act} {W : World} {Q : Exit → Act → World → Prop} (hgd : o.guard = none) (x y : Operand) (ho : o.op = .store 33 x y) (g : Nat) (hx : a.eval x = .pointer (some ⟨g, 0, none⟩)) (D : Array Value) (hD : D.size = 37) (hone : D.all (·.oneCell') = true) (hy : a.eval y = .agg D)
    (cs : Array Value) {t : TypeId} (hcs : cs.size = 37) (hR : Row g t cs W) (w0 : World) (hL : Later w0 W) (hB : w0.heap.size ≤ g) (hK : ∀ W', Row g t D W' → Later w0 W' → (∀ b, b ≠ g → W'.heap[b]? = W.heap[b]?) → wpList Tryz.prog ops Q rest (a.put o.dst undef) W') : wpList Tryz.prog ops Q (o :: rest) a W := by
  refine wpList_store_mid hgd 33 x y ho g 0 D hx hy ?_ (by rw [hD]; kernel_rfl) hone ?_
  · have := hR.there
    rw [hcs] at this
    rw [hD]
    exact this
  · refine hK _ ?_ (later_sets hB _ _ _ hL) (fun b hb => heap_sets_other hb _ _ _)
    have := Row.sets D.toList W cs 0 hR
    rwa [sets_all cs D (by omega)] at this

theorem row_new' (W : World) (cs : Array Value) (t : TypeId) (g : Nat) (hg : g = W.heap.size) : Row g t cs (W.alloc (.cells cs t)) := by
  subst hg
  exact Row.new W cs t

theorem cc_size (c : Cg) (u v : Value) : (cc c u v).size = 37 := rfl

theorem cc_one (c : Cg) (d d' : Option Addr) (n q n' q' : Nat) : (cc c (.slice d n q) (.slice d' n' q')).all (·.oneCell') = true := by
  unfold cc
  simp [Value.oneCell']

set_option maxHeartbeats 1000000 in
theorem plain_any (w : World) : Calls Tryz.prog 22 #[] w fun e w' => ∃ u v, e = .returned (.agg (cc pc u v)) ∧ Sk .i64 w' u pc.st ∧ Wk w' v pc.ws ∧ Later w w' := by
  obtain ⟨D, hD⟩ : ∃ D, D = cc pc (.slice (some ⟨w.heap.size + 1, 0, none⟩) 3 3) (.slice (some ⟨w.heap.size + 1 + 1, 0, none⟩) 1 1) := ⟨_, rfl⟩
  have HD := Lib.hid hD
  have D37 : Hid (D.size = 37) := Lib.hid (by rw [hD]; rfl)
  have D1 : Hid (D.all (·.oneCell') = true) := Lib.hid (by rw [hD]; exact cc_one _ _ _ _ _ _ _)
  clear hD
  go_enter Tryz.func22, Tryz.ntmps22
  go_wp2_with (refine store_row rfl (.tmp 0) (.tmp 6) rfl w.heap.size rfl D D37.out D1.out (by rw [HD.out]; rfl) _ rfl (((Row.new w _ _).later ((Later.refl _).alloc _ _)).later ((Later.refl _).alloc _ _)) w ((((Later.refl w).alloc _ _).alloc _ _).alloc _ _) (Nat.le_refl _) ?_; intro W' hR hL ho)
  refine bodyPost_ret (v := .agg D) (results_at (fn := Tryz.f22) Tryz.results22 _ _ w.heap.size D D37.out rfl hR.at) rfl ?_
  refine ⟨_, _, by rw [HD.out], ?_, ?_, hL⟩
  · have h1 : Row (w.heap.size + 1) 3 #[.int .i64 0, .int .i64 1, .int .i64 3] W' := by
      unfold Row
      rw [ho _ (by omega)]
      exact (row_new' _ _ _ _ (by simp)).later ((Later.refl _).alloc _ _)
    refine Sk.row (xs := pc.st) (cap := 3) h1 ?_ (by decide) (by decide)
    intro i x hx
    match i with
    | 0 => simp [pc] at hx; subst hx; rfl
    | 1 => simp [pc] at hx; subst hx; rfl
    | 2 => simp [pc] at hx; subst hx; rfl
    | i + 3 => simp [pc] at hx
  · have h2 : Row (w.heap.size + 1 + 1) 35 (wc pw).toArray W' := by
      unfold Row
      rw [ho _ (by omega)]
      exact row_new' _ _ _ _ (by simp)
    refine ⟨_, 1, rfl, by decide, by decide, by simp, fun i x hx => ⟨_, 0, rfl, ?_⟩⟩
    rw [Nat.zero_add]
    refine h2.cell i ?_
    have e : fl pc.ws = wc pw := rfl
    rw [e] at hx
    simpa using hx

end Go.Proofs.YtmlnlkfdbbnkbaaGreatDoor.Conf

/- The example's answers. No condition but those that each theorem states. -/
namespace Go.Proofs.YtmlnlkfdbbnkbaaGreatDoor.Conf
set_option maxRecDepth 100000
set_option maxRecDepth 100000
open Go.ChangeShapes Go.WideShapes Go.ChangeAt Go.RowKit
open Go.Proofs.YtmlnlkfdbbnkbaaGreatDoor.Divs Go.Proofs.YtmlnlkfdbbnkbaaGreatDoor.Grow Go.Proofs.YtmlnlkfdbbnkbaaGreatDoor.Zone
open Go.Proofs.YtmlnlkfdbbnkbaaGreatDoor.By (Sk SL bool_no bool_yes)
open Go.Proofs.YtmlnlkfdbbnkbaaGreatDoor.Each
open Go.Proofs.YtmlnlkfdbbnkbaaGreatDoor.Zo Go.Proofs.YtmlnlkfdbbnkbaaGreatDoor.Su Go.Proofs.YtmlnlkfdbbnkbaaGreatDoor.Cf

/-- A window is loaded, by an operation that is wanted. -/
theorem load_win_in {ops : Array Oper} {rest : List Oper} {o : Oper} {a : Act} {W : World} {Q : Exit → Act → World → Prop} (y : Wn) (hw : Region.wanted o (yielded ops a.tmps) = true) (x : Operand) (ho : o.op = .load 35 x) (B off : Nat) (hx : a.eval x = .pointer (some ⟨B, off, none⟩)) (h : W.rangeAt B off (wc y)) (hK : wpList Tryz.prog ops Q rest (a.put o.dst (.agg (wc y).toArray)) W) : wpList Tryz.prog ops Q (o :: rest) a W := by
  unfold wpList
  rw [if_pos hw]
  exact .inl (wp_load_mid (P := Tryz.prog) 35 x ho B off hx (wc y) _ h Tryz.underlying35 rfl (by kernel_rfl) hK)

theorem oc_st (w : World) : Sk .i64 w (.slice none 0 0) oc.st := By.sk_nil _ _

theorem oc_ws (w : World) : Wk w (.slice none 0 0) oc.ws := ⟨none, 0, rfl, by decide, by omega, by simp, by simp [oc, fl]⟩

end Go.Proofs.YtmlnlkfdbbnkbaaGreatDoor.Conf

/- Configurations by their cells: what the functions answer of them. Conditions: as each theorem states. -/
namespace Go.Proofs.YtmlnlkfdbbnkbaaGreatDoor.Conf
set_option maxRecDepth 100000
set_option maxRecDepth 100000
open Go.ChangeShapes Go.WideShapes Go.ChangeAt Go.RowKit
open Go.Proofs.YtmlnlkfdbbnkbaaGreatDoor.Divs Go.Proofs.YtmlnlkfdbbnkbaaGreatDoor.Grow Go.Proofs.YtmlnlkfdbbnkbaaGreatDoor.Zone
open Go.Proofs.YtmlnlkfdbbnkbaaGreatDoor.By (Sk SL bool_no bool_yes)
open Go.Proofs.YtmlnlkfdbbnkbaaGreatDoor.Each
open Go.Proofs.YtmlnlkfdbbnkbaaGreatDoor.Zo Go.Proofs.YtmlnlkfdbbnkbaaGreatDoor.Su Go.Proofs.YtmlnlkfdbbnkbaaGreatDoor.Cf

/-- D are the cells of c. -/
def Is (W : World) (D : Array Value) (c : Cg) : Prop := ∃ u v, D = cc c u v ∧ Sk .i64 W u c.st ∧ Wk W v c.ws

theorem Is.later {W W' : World} {D : Array Value} {c : Cg} (h : Is W D c) (g : Later W W') : Is W' D c := by
  obtain ⟨u, v, rfl, hu, hv⟩ := h
  exact ⟨u, v, rfl, hu.later g, hv.later g⟩

theorem Is.size {W : World} {D : Array Value} {c : Cg} (h : Is W D c) : D.size = 37 := by
  obtain ⟨u, v, rfl, hu, hv⟩ := h
  rfl

theorem Is.one {W : World} {D : Array Value} {c : Cg} (h : Is W D c) : D.all (·.oneCell') = true := by
  obtain ⟨u, v, rfl, hu, hv⟩ := h
  obtain ⟨d0, q0, rfl, _, _⟩ := sk_form hu
  obtain ⟨d1, q1, rfl, _, _⟩ := wk_form hv
  exact cc_one _ _ _ _ _ _ _

/-- D are the cells of c, and its slices are owned from B on. -/
def Own (W : World) (B : Nat) (D : Array Value) (c : Cg) : Prop := ∃ u v, D = cc c u v ∧ SL .i64 3 W B u c.st ∧ WL W B v c.ws

theorem Own.is {W : World} {B : Nat} {D : Array Value} {c : Cg} (h : Own W B D c) : Is W D c := by
  obtain ⟨u, v, rfl, hu, hv⟩ := h
  exact ⟨u, v, rfl, By.SL.sk hu, WL.wk hv⟩

theorem Own.later {W W' : World} {B : Nat} {D : Array Value} {c : Cg} (h : Own W B D c) (g : Later W W') : Own W' B D c := by
  obtain ⟨u, v, rfl, hu, hv⟩ := h
  exact ⟨u, v, rfl, hu.later g, hv.later g⟩

theorem few_of {W : World} {D : Array Value} {c : Cg} (h : Is W D c) : Calls Tryz.prog 9 #[.agg D] W fun e w' => e = .returned (.bool (fw c)) ∧ Later W w' := by
  obtain ⟨u, v, rfl, hu, hv⟩ := h
  exact few_any c u v W hu hv

theorem check_of {W : World} {D : Array Value} {c : Cg} (h : Is W D c) : Calls Tryz.prog 23 #[.agg D] W fun e w' => e = .returned (.int .i64 (ce c)) ∧ Later W w' := by
  obtain ⟨u, v, rfl, hu, hv⟩ := h
  exact check_any c u v W hu hv

theorem rcheck_of {W : World} {D : Array Value} {c : Cg} (h : Is W D c) : Calls Tryz.prog 27 #[.agg D] W fun e w' => e = .returned (.int .i64 (ce c)) ∧ Later W w' := by
  obtain ⟨u, v, rfl, hu, hv⟩ := h
  exact rcfg_any c u v W hu hv

theorem own_of {W : World} {D : Array Value} {c : Cg} (h : Is W D c) (hf : fw c = true) : Calls Tryz.prog 12 #[.agg D] W fun e w' => ∃ E, e = .returned (.agg E) ∧ Own w' W.heap.size E c ∧ Later W w' := by
  obtain ⟨u, v, rfl, hu, hv⟩ := h
  obtain ⟨h1, h2⟩ := (fw_iff c).mp hf
  refine (own_any c u v W hu hv h1 h2).mono ?_
  rintro e w' ⟨u', v', rfl, hs, hw, hg⟩
  exact ⟨_, rfl, ⟨u', v', rfl, hs, hw⟩, hg⟩

theorem cc_lead (c : Cg) (u v : Value) (n : Int) : (cc c u v).setIfInBounds 8 (.int .i64 n) = cc (cl c n) u v := by simp [cc, cl]

theorem cc_floors (c : Cg) (u v : Value) (n : Int) : (cc c u v).setIfInBounds 0 (.int .i64 n) = cc (cf c n) u v := by simp [cc, cf]

set_option maxHeartbeats 2000000 in
theorem cc_place (c d : Cg) (u v : Value) : sets (sets (cc c u v) 13 (zc d.z).toList) 23 (Sun.sc d.s).toList = cc (cp c d) u v := by
  simp [sets, cc, cp, zc, Sun.sc]

theorem Is.lead {W : World} {D : Array Value} {c : Cg} (h : Is W D c) (n : Int) : Is W (D.setIfInBounds 8 (.int .i64 n)) (cl c n) := by
  obtain ⟨u, v, rfl, hu, hv⟩ := h
  exact ⟨u, v, cc_lead c u v n, hu, hv⟩

theorem Is.floors {W : World} {D : Array Value} {c : Cg} (h : Is W D c) (n : Int) : Is W (D.setIfInBounds 0 (.int .i64 n)) (cf c n) := by
  obtain ⟨u, v, rfl, hu, hv⟩ := h
  exact ⟨u, v, cc_floors c u v n, hu, hv⟩

theorem Is.place {W : World} {D : Array Value} {c : Cg} (h : Is W D c) (d : Cg) : Is W (sets (sets D 13 (zc d.z).toList) 23 (Sun.sc d.s).toList) (cp c d) := by
  obtain ⟨u, v, rfl, hu, hv⟩ := h
  exact ⟨u, v, cc_place c d u v, hu, hv⟩

end Go.Proofs.YtmlnlkfdbbnkbaaGreatDoor.Conf

/- The kinds of windows, as the program makes them: a value of an interface, by the window's kind. No condition but those that each theorem states. -/
namespace Go.Proofs.YtmlnlkfdbbnkbaaGreatDoor.Window
set_option maxRecDepth 100000
set_option maxRecDepth 100000
open Go.ChangeShapes Go.WideShapes Go.ChangeAt Go.RowKit
open Go.Proofs.YtmlnlkfdbbnkbaaGreatDoor.Divs Go.Proofs.YtmlnlkfdbbnkbaaGreatDoor.Grow
open Go.Proofs.YtmlnlkfdbbnkbaaGreatDoor.Greg (Laid)
open Go.Proofs.YtmlnlkfdbbnkbaaGreatDoor.Zo Go.Proofs.YtmlnlkfdbbnkbaaGreatDoor.Zone Go.Proofs.YtmlnlkfdbbnkbaaGreatDoor.Win
open Go.Proofs.YtmlnlkfdbbnkbaaGreatDoor.Cf (Cg Wn)
open Go.Proofs.YtmlnlkfdbbnkbaaGreatDoor.Conf (wc cc Is)
open Go.Proofs.YtmlnlkfdbbnkbaaGreatDoor.Fe (kd rst)
open Go.Proofs.YtmlnlkfdbbnkbaaGreatDoor.Su (mV mE sk sa)

/-- Hours: a zone, a minute, a length. -/
def hk (z : Zn) (u l : Int) : Array Value := #[.int .i64 z.b, .int .i64 z.s, .int .i64 z.p.m, .int .i64 z.p.k, .int .i64 z.p.v, .int .i64 z.p.u, .int .i64 z.q.m, .int .i64 z.q.k, .int .i64 z.q.v, .int .i64 z.q.u, .int .i64 u, .int .i64 l]

/-- A window on weekdays, or on one day. -/
def wk (z : Zn) (u l a : Int) : Array Value := #[.int .i64 z.b, .int .i64 z.s, .int .i64 z.p.m, .int .i64 z.p.k, .int .i64 z.p.v, .int .i64 z.p.u, .int .i64 z.q.m, .int .i64 z.q.k, .int .i64 z.q.v, .int .i64 z.q.u, .int .i64 u, .int .i64 l, .int .i64 a]

/-- A window by a feast. -/
def fk (z : Zn) (u l a h : Int) (ab : Bool) : Array Value := #[.int .i64 z.b, .int .i64 z.s, .int .i64 z.p.m, .int .i64 z.p.k, .int .i64 z.p.v, .int .i64 z.p.u, .int .i64 z.q.m, .int .i64 z.q.k, .int .i64 z.q.v, .int .i64 z.q.u, .int .i64 u, .int .i64 l, .int .i64 a, .int .i64 h, .bool ab]

/-- A window about days of rest. -/
def rk (z : Zn) (s : Nat → Int) (ab : Bool) (u l : Int) : Array Value := #[.int .i64 z.b, .int .i64 z.s, .int .i64 z.p.m, .int .i64 z.p.k, .int .i64 z.p.v, .int .i64 z.p.u, .int .i64 z.q.m, .int .i64 z.q.k, .int .i64 z.q.v, .int .i64 z.q.u, .int .i64 (s 0), .int .i64 (s 1), .int .i64 (s 2), .int .i64 (s 3), .int .i64 (s 4), .int .i64 (s 5), .int .i64 (s 6), .int .i64 (s 7), .int .i64 (s 8), .int .i64 (s 9), .int .i64 (s 10), .int .i64 (s 11), .bool ab, .int .i64 u, .int .i64 l]

theorem kind_weekly (c : Cg) (u v : Value) (x : Wn) (w : World) (hk : x.k = 1) : Calls Tryz.prog 26 #[.agg (cc c u v), .agg (wc x).toArray] w fun e w' => e = .returned (.iface 99 (.agg (wk c.z x.u x.l x.a))) ∧ Later w w' := by
  have t1 : (x.k == 1) = true := by simp [hk]
  have t2 : (x.k == 2) = false := by simp [hk]
  have t3 : (x.k == 3) = false := by simp [hk]
  clear hk
  unfold cc wc
  first | unfold wk | unfold fk | unfold rk
  go_enter Tryz.func26, Tryz.ntmps26
  go_wp2_with fail
  go_ret
  exact ⟨rfl, (((Later.refl w).alloc _ _).alloc _ _).alloc _ _⟩

theorem kind_dated (c : Cg) (u v : Value) (x : Wn) (w : World) (hk : x.k = 2) : Calls Tryz.prog 26 #[.agg (cc c u v), .agg (wc x).toArray] w fun e w' => e = .returned (.iface 101 (.agg (wk c.z x.u x.l x.a))) ∧ Later w w' := by
  have t1 : (x.k == 1) = false := by simp [hk]
  have t2 : (x.k == 2) = true := by simp [hk]
  have t3 : (x.k == 3) = false := by simp [hk]
  clear hk
  unfold cc wc
  first | unfold wk | unfold fk | unfold rk
  go_enter Tryz.func26, Tryz.ntmps26
  go_wp2_with fail
  go_ret
  exact ⟨rfl, (((Later.refl w).alloc _ _).alloc _ _).alloc _ _⟩

theorem kind_festive (c : Cg) (u v : Value) (x : Wn) (w : World) (hk : x.k = 3) : Calls Tryz.prog 26 #[.agg (cc c u v), .agg (wc x).toArray] w fun e w' => e = .returned (.iface 103 (.agg (fk c.z x.u x.l x.a x.h c.ab))) ∧ Later w w' := by
  have t1 : (x.k == 1) = false := by simp [hk]
  have t2 : (x.k == 2) = false := by simp [hk]
  have t3 : (x.k == 3) = true := by simp [hk]
  clear hk
  unfold cc wc
  first | unfold wk | unfold fk | unfold rk
  go_enter Tryz.func26, Tryz.ntmps26
  go_wp2_with fail
  go_ret
  exact ⟨rfl, (((Later.refl w).alloc _ _).alloc _ _).alloc _ _⟩

theorem kind_restful (c : Cg) (u v : Value) (x : Wn) (w : World) (hk : x.k = 4) : Calls Tryz.prog 26 #[.agg (cc c u v), .agg (wc x).toArray] w fun e w' => e = .returned (.iface 105 (.agg (rk c.z c.s c.ab x.u x.l))) ∧ Later w w' := by
  have t1 : (x.k == 1) = false := by simp [hk]
  have t2 : (x.k == 2) = false := by simp [hk]
  have t3 : (x.k == 3) = false := by simp [hk]
  clear hk
  unfold cc wc
  first | unfold wk | unfold fk | unfold rk
  go_enter Tryz.func26, Tryz.ntmps26
  go_wp2_with fail
  go_ret
  exact ⟨rfl, (((Later.refl w).alloc _ _).alloc _ _).alloc _ _⟩

end Go.Proofs.YtmlnlkfdbbnkbaaGreatDoor.Window

/- On which days windows begin, and from when up to when they are, by the program's kinds. Conditions: the table of months lies where the program lays it; the numbers are those of a window that may be, as each theorem says. -/
namespace Go.Proofs.YtmlnlkfdbbnkbaaGreatDoor.Window
set_option maxRecDepth 100000
set_option maxRecDepth 100000
open Go.ChangeShapes Go.WideShapes Go.ChangeAt Go.RowKit
open Go.Proofs.YtmlnlkfdbbnkbaaGreatDoor.Divs Go.Proofs.YtmlnlkfdbbnkbaaGreatDoor.Grow
open Go.Proofs.YtmlnlkfdbbnkbaaGreatDoor.Greg (Laid)
open Go.Proofs.YtmlnlkfdbbnkbaaGreatDoor.Zo Go.Proofs.YtmlnlkfdbbnkbaaGreatDoor.Zone Go.Proofs.YtmlnlkfdbbnkbaaGreatDoor.Win
open Go.Proofs.YtmlnlkfdbbnkbaaGreatDoor.Cf (Cg Wn)
open Go.Proofs.YtmlnlkfdbbnkbaaGreatDoor.Conf (wc cc Is)
open Go.Proofs.YtmlnlkfdbbnkbaaGreatDoor.Fe (kd rst)
open Go.Proofs.YtmlnlkfdbbnkbaaGreatDoor.Su (mV mE sk sa)

theorem i64_and_one (n : Int) : bits .and .i64 n 1 = n % 2 := by
  have h1 : (BitVec.ofInt 64 1).toNat = 2 ^ 1 - 1 := by decide
  have key : (BitVec.ofInt 64 n &&& BitVec.ofInt 64 1).toNat = (n % ((2 ^ 64 : Nat) : Int)).toNat % 2 ^ 1 := by
    rw [BitVec.toNat_and, BitVec.toNat_ofInt, h1, Nat.and_two_pow_sub_one_eq_mod]
  show IntKind.i64.wrap ((BitVec.ofInt 64 n &&& BitVec.ofInt 64 1).toNat : Nat) = _
  rw [key, IntKind.wrap_i64]
  omega

theorem weekly_begins (z : Zn) (u l a d : Int) (w : World) (d0 : -9223372036854775808 ≤ d) (d1 : d ≤ 9223372036854775807) : Calls Tryz.prog 164 #[.agg (wk z u l a), .int .i64 d] w fun e w' => e = .returned (.bool (bit a d)) ∧ Later w w' := by
  have W7 := Lib.hid (fun W => drew_g (Feast.weekday_any d W d0 d1))
  have hc := gw_new w (wk z u l a) 99 12 (.int .i64 a) rfl
  have k0 : 0 ≤ d % 7 := by omega
  have k1 : d % 7 ≤ 6 := by omega
  have HV := Lib.hid (show bit a d = (a / 2 ^ (d % 7).toNat % 2 == 1) from rfl)
  have ha := i64_and_one (a / 2 ^ (d % 7).toNat)
  have HG := Lib.hid ((Later.refl w).alloc (wk z u l a) 99)
  generalize hq : d % 7 = q at *
  clear hq d0 d1
  unfold wk at *
  go_enter Tryz.func164, Tryz.ntmps164
  go_wp2_with fail
  refine region_grown (by kernel_rfl) (by kernel_rfl) ?_
  repeat (go_big_quiet_step ((go_at_call 66; exact in_grown (W7.out _))))
  refine wpQuiet_nil (grown_end ?_)
  intro w2 hg2
  go_wp2_with fail
  go_ret
  exact ⟨retb HV.out.symm, gtrans HG.out hg2⟩

theorem dated_begins (z : Zn) (u l a d : Int) (w : World) : Calls Tryz.prog 165 #[.agg (wk z u l a), .int .i64 d] w fun e w' => e = .returned (.bool (d == a)) ∧ Later w w' := by
  have HG := Lib.hid ((Later.refl w).alloc (wk z u l a) 101)
  unfold wk at *
  go_enter Tryz.func165, Tryz.ntmps165
  go_wp2_with fail
  go_ret
  exact ⟨rfl, HG.out⟩

theorem festive_begins (z : Zn) (u l a h d : Int) (ab : Bool) (w : World) (d0 : 0 ≤ d) (d1 : d ≤ 10000000) (h0 : -7 ≤ h) (h1 : h ≤ 7) : Calls Tryz.prog 166 #[.agg (fk z u l a h ab), .int .i64 d] w fun e w' => e = .returned (.bool (kd ab (d - h) == a)) ∧ Later w w' := by
  have K := Lib.hid (fun W => Feast.kind_any (d - h) ab W)
  have HG := Lib.hid ((Later.refl w).alloc (fk z u l a h ab) 103)
  have hc := gw_new w (fk z u l a h ab) 103 12 (.int .i64 a) rfl
  have hc2 := gw_new w (fk z u l a h ab) 103 13 (.int .i64 h) rfl
  have hc3 := gw_new w (fk z u l a h ab) 103 14 (.bool ab) rfl
  have wr : IntKind.i64.wrap (d - h) = d - h := IntWalk.i64_in _ (by omega)
  unfold fk at *
  go_enter Tryz.func166, Tryz.ntmps166
  go_wp2_with fail
  refine region_grown (by kernel_rfl) (by kernel_rfl) ?_
  repeat (go_big_quiet_step ((go_at_call 167; exact in_grown (K.out _))))
  refine wpQuiet_nil (grown_end ?_)
  intro w2 hg2
  go_wp2_with fail
  go_ret
  exact ⟨rfl, gtrans HG.out hg2⟩

theorem restful_begins (z : Zn) (s : Nat → Int) (ab : Bool) (u l d : Int) (w : World) (d0 : 0 ≤ d) (d1 : d ≤ 10000000) : Calls Tryz.prog 168 #[.agg (rk z s ab u l), .int .i64 d] w fun e w' => e = .returned (.bool (!rst ab d && rst ab (d + 1))) ∧ Later w w' := by
  have K := Lib.hid (fun W => Feast.rest_any d ab W (by omega) (by omega))
  have K1 := Lib.hid (fun W => Feast.rest_any (d + 1) ab W (by omega) (by omega))
  have HG := Lib.hid ((Later.refl w).alloc (rk z s ab u l) 105)
  have HC := Lib.hid (fun W (g : Later (w.alloc (.cells (rk z s ab u l) 105)) W) => gsome g (show (w.alloc (.cells (rk z s ab u l) 105)).cell? ⟨w.heap.size, 22, none⟩ = some (.bool ab) by rw [World.cell?_alloc_new]; rfl))
  cases r0 : rst ab d
  · rw [r0] at K
    have HK := Lib.hid K.out
    clear K r0
    unfold rk at *
    go_enter Tryz.func168, Tryz.ntmps168
    go_wp2_with fail
    refine (HK.out _).mono ?_
    rintro e w1 ⟨rfl, hg1⟩
    have HG1 := Lib.hid hg1
    have c1 := HC.out _ hg1
    clear hg1
    go_wp2_with fail
    refine (K1.out _).mono ?_
    rintro e w2 ⟨rfl, hg2⟩
    have HG2 := Lib.hid hg2
    clear hg2
    go_wp2_with fail
    go_ret
    exact ⟨by simp, gtrans (gtrans HG.out HG1.out) HG2.out⟩
  · rw [r0] at K
    have HK := Lib.hid K.out
    clear K r0
    unfold rk at *
    go_enter Tryz.func168, Tryz.ntmps168
    go_wp2_with fail
    refine (HK.out _).mono ?_
    rintro e w1 ⟨rfl, hg1⟩
    have HG1 := Lib.hid hg1
    clear hg1
    go_wp2_with fail
    go_ret
    exact ⟨by simp, gtrans HG.out HG1.out⟩

theorem hours_ends (z : Zn) (u l d : Int) (w : World) (hL : Laid w) (hz : May z) (d0 : 402 ≤ d) (d1 : d ≤ 3651990) (u0 : 0 ≤ u) (u1 : u ≤ 1439) (l0 : 0 ≤ l) (l1 : l ≤ 1000000) :
    Calls Tryz.prog 163 #[.agg (hk z u l), .int .i64 d] w fun e w' => e = .returned (.tuple #[.int .i64 (mv z (d * 1440 + u)), .int .i64 (mv z (d * 1440 + u) + l)]) ∧ Later w w' := by
  have F := Lib.hid (fun W hW => first_any z d u W hW hz d0 d1 u0 u1)
  have HG := Lib.hid ((Later.refl w).alloc (hk z u l) 97)
  have HL := Lib.hid (hL.grown HG.out)
  have HC := Lib.hid (fun W (g : Later (w.alloc (.cells (hk z u l) 97)) W) => gsome g (show (w.alloc (.cells (hk z u l) 97)).cell? ⟨w.heap.size, 11, none⟩ = some (.int .i64 l) by rw [World.cell?_alloc_new]; rfl))
  have hb := mv_bd z hz (d * 1440 + u) (by omega) (by omega)
  have hv : -100000000 ≤ mv z (d * 1440 + u) ∧ mv z (d * 1440 + u) ≤ 10000000000 := by omega
  obtain ⟨v0, v1⟩ := hv
  generalize mv z (d * 1440 + u) = m at *
  clear hL hz hb d0 d1 u0 u1
  have hw : IntKind.i64.wrap (m + l) = m + l := IntWalk.i64_in _ (by omega)
  unfold hk at *
  unfold zc at F
  go_enter Tryz.func163, Tryz.ntmps163
  go_wp2_with fail
  refine (F.out _ HL.out).mono ?_
  rintro e w1 ⟨rfl, hg1⟩
  have HG1 := Lib.hid hg1
  have c1 := HC.out _ hg1
  clear hg1
  go_wp2_with fail
  go_quiet (fail)
  go_wp2_with fail
  go_ret2
  exact ⟨rfl, gtrans HG.out HG1.out⟩

theorem sunset_any (z : Zn) (s : Nat → Int) (ab : Bool) (u l d : Int) (w : World) (hL : Laid w) : Calls Tryz.prog 171 #[.agg (rk z s ab u l), .int .i64 d] w fun e w' => e = .returned (.int .i64 (mV z s d)) ∧ Later w w' := by
  have K := Lib.hid (fun W hW => Sun.moment_any z s d W hW)
  have HG := Lib.hid ((Later.refl w).alloc (rk z s ab u l) 105)
  have HL := Lib.hid (hL.grown HG.out)
  clear hL
  unfold rk at *
  unfold zc Sun.sc at K
  go_enter Tryz.func171, Tryz.ntmps171
  go_wp2_with fail
  refine (K.out _ HL.out).mono ?_
  rintro e w1 ⟨rfl, hg1⟩
  have HG1 := Lib.hid hg1
  clear hg1
  go_wp2_with fail
  go_ret
  exact ⟨rfl, gtrans HG.out HG1.out⟩

end Go.Proofs.YtmlnlkfdbbnkbaaGreatDoor.Window

/- A region that draws its order, operation by operation: what each one yields, in every world that has grown and whatever else has come up, is told by a relation of its own that lasts; then each order is served by one look at each operation. No condition but those that each theorem states. -/
namespace Go.Proofs.YtmlnlkfdbbnkbaaGreatDoor.Eachn
set_option maxRecDepth 100000
open Go.ChangeShapes Go.WideShapes Go.ChangeAt Go.RowKit
open Go.Proofs.YtmlnlkfdbbnkbaaGreatDoor.Divs Go.Proofs.YtmlnlkfdbbnkbaaGreatDoor.Grow

theorem wpAny_inv {P : Program} {md : Region.Mode} {ops : Array Oper} {Q : Exit → Act → World → Prop} (I : Nat → Array Bool → Act → World → Prop)
    (h0 : ∀ fuel listed a w, I fuel listed a w → Region.ready md ops listed = [] → Q .normal a w) (hz : ∀ listed a w, I 0 listed a w → Region.ready md ops listed = [])
    (hs : ∀ fuel listed a w i, I (fuel + 1) listed a w → i ∈ Region.ready md ops listed → wpOp P ops Q i (fun a' w' => I fuel (listed.setIfInBounds i true) a' w') a w) :
    ∀ fuel listed a w, I fuel listed a w → wpAny P md ops Q fuel listed a w := by
  intro fuel
  induction fuel with
  | zero => exact fun listed a w h => ⟨hz listed a w h, h0 _ _ _ _ h (hz listed a w h)⟩
  | succ fuel ih => exact fun listed a w h => ⟨fun e => h0 _ _ _ _ h e, fun i hi => wpOp_mono (fun a' w' h' => ih _ _ _ h') (hs _ _ _ _ i h hi)⟩

/-- What has come up: its slots hold what V says, the others are as they were. -/
structure Up (ops : Array Oper) (V : Nat → Value → World → Prop) (a0 : Act) (w0 : World) (listed : Array Bool) (a : Act) (w : World) : Prop where
  late : Later w0 w
  defers : a.defers = a0.defers
  size : a.tmps.size = a0.tmps.size
  old : ∀ s, (∀ i o, ops[i]? = some o → o.dst = some s → listed.getD i false = false) → a.tmps[s]? = a0.tmps[s]?
  come : ∀ i o s, ops[i]? = some o → listed.getD i false = true → o.dst = some s → ∃ v, a.tmps[s]? = some v ∧ V i v w

/-- No two operations write one slot, each slot is there, and each operation waits for earlier ones alone. -/
def fitB (ops : Array Oper) (n : Nat) : Bool :=
  (List.range ops.size).all fun i => match ops[i]? with
    | none => true
    | some o => o.after.all (fun e => !Region.binds .any e || decide (e.on < i)) && (match o.dst with
      | none => true
      | some s => decide (s < n) && (List.range ops.size).all fun j => decide (j = i) || (match ops[j]? with
        | none => true
        | some q => !(q.dst == some s)))

theorem fit_low {ops : Array Oper} {n : Nat} (h : fitB ops n = true) {i : Nat} {o : Oper} (ho : ops[i]? = some o) {e : Edge} (he : e ∈ o.after) (hb : Region.binds .any e = true) : e.on < i := by
  have hi : i < ops.size := (Array.getElem?_eq_some_iff.1 ho).1
  have := List.all_eq_true.1 h i (List.mem_range.2 hi)
  rw [ho] at this
  simp only [Bool.and_eq_true] at this
  have := Array.all_eq_true_iff_forall_mem.1 this.1 e he
  simpa [hb] using this

theorem fit_dst {ops : Array Oper} {n : Nat} (h : fitB ops n = true) {i j : Nat} {o q : Oper} {s : Tmp} (ho : ops[i]? = some o) (hq : ops[j]? = some q) (hs : o.dst = some s) (ht : q.dst = some s) : j = i := by
  have hi : i < ops.size := (Array.getElem?_eq_some_iff.1 ho).1
  have hj : j < ops.size := (Array.getElem?_eq_some_iff.1 hq).1
  have := List.all_eq_true.1 h i (List.mem_range.2 hi)
  rw [ho] at this
  simp only [Bool.and_eq_true, hs] at this
  have := List.all_eq_true.1 this.2.2 j (List.mem_range.2 hj)
  rw [hq] at this
  simpa [ht] using this

theorem fit_in {ops : Array Oper} {n : Nat} (h : fitB ops n = true) {i : Nat} {o : Oper} {s : Tmp} (ho : ops[i]? = some o) (hs : o.dst = some s) : s < n := by
  have hi : i < ops.size := (Array.getElem?_eq_some_iff.1 ho).1
  have := List.all_eq_true.1 h i (List.mem_range.2 hi)
  rw [ho] at this
  simp only [Bool.and_eq_true, hs] at this
  simpa using this.2.1

theorem getD_set {listed : Array Bool} {i : Nat} (hi : i < listed.size) (j : Nat) : (listed.setIfInBounds i true).getD j false = (decide (j = i) || listed.getD j false) := by
  by_cases e : j = i
  · subst e
    simp [hi]
  · simp [Array.getElem?_setIfInBounds_ne (Ne.symm e), e]

/-- How many have not come up. -/
def leftN (listed : Array Bool) : Nat := listed.toList.countP (fun b => !b)

theorem count_set : ∀ (l : List Bool) (i : Nat), l[i]? = some false → (l.set i true).countP (fun b => !b) + 1 = l.countP (fun b => !b)
  | [], i, h => by simp at h
  | b :: r, 0, h => by
    simp at h
    subst h
    simp
  | b :: r, i + 1, h => by
    have := count_set r i (by simpa using h)
    simp only [List.set_cons_succ, List.countP_cons]
    omega

theorem left_set {listed : Array Bool} {i : Nat} (h : listed.getD i true = false) : leftN (listed.setIfInBounds i true) + 1 = leftN listed := by
  have hi : i < listed.size := by
    rcases Nat.lt_or_ge i listed.size with h' | h'
    · exact h'
    · simp [Array.getElem?_eq_none h'] at h
  unfold leftN
  rw [Array.toList_setIfInBounds]
  refine count_set _ _ ?_
  simp [hi] at h
  simp [hi, h]

theorem left_none {listed : Array Bool} (h : leftN listed = 0) (i : Nat) : listed.getD i true = true := by
  rcases Nat.lt_or_ge i listed.size with hi | hi
  · have := List.countP_eq_zero.1 h (listed[i]) (by simp)
    simpa [hi] using this
  · simp [Array.getElem?_eq_none hi]

/-- Where nothing is ready, all has come up. -/
theorem all_up {ops : Array Oper} {n : Nat} (hf : fitB ops n = true) {listed : Array Bool} (hz : listed.size = ops.size) (h : Region.ready .any ops listed = []) : ∀ i, i < ops.size → listed.getD i false = true := by
  intro i
  induction i using Nat.strongRecOn with
  | _ i ih =>
    intro hi
    cases hb : listed.getD i false with
    | true => rfl
    | false =>
      exfalso
      have hm : i ∈ Region.ready .any ops listed := by
        rw [mem_ready]
        refine ⟨?_, ops[i], by simp [hi], fun e he hbb => ?_⟩
        · have hj : i < listed.size := by omega
          simp [hj] at hb ⊢
          exact hb
        · have := fit_low hf (i := i) (o := ops[i]) (by simp [hi]) he hbb
          exact ih e.on this (by omega)
      rw [h] at hm
      cases hm

/-- The look at one operation. -/
def Step (P : Program) (ops : Array Oper) (Q : Exit → Act → World → Prop) (V : Nat → Value → World → Prop) (a0 : Act) (w0 : World) (i : Nat) : Prop :=
  ∀ o, ops[i]? = some o → ∀ (a : Act) (w : World), Later w0 w → (∀ s, (∀ (j : Nat) (q : Oper), ops[j]? = some q → q.dst ≠ some s) → a.tmps[s]? = a0.tmps[s]?) →
    (∀ j ∈ (o.after.toList.filter (Region.binds .any)).map (·.on), ∀ (q : Oper) (s : Tmp), ops[j]? = some q → q.dst = some s → ∃ v, a.tmps[s]? = some v ∧ V j v w) →
    if Region.wanted o (yielded ops a.tmps) = true then Oper.wp P o a w (fun a' w' => ∃ v, a' = a.put o.dst v ∧ V i v w' ∧ Later w w') Q else V i undef w

theorem region_each {P : Program} {id : Nat} {Q : Exit → Act → World → Prop} {a0 : Act} {w : World} {ops : Array Oper} (V : Nat → Value → World → Prop) (hm : P.follows .mixedOrders = true) (hf : fitB ops a0.tmps.size = true)
    (hV : ∀ i v W W', V i v W → Later W W' → V i v W')
    (hs : ∀ i, i < ops.size → Step P ops Q V a0 w i)
    (hq : ∀ a w', Later w w' → a.defers = a0.defers → a.tmps.size = a0.tmps.size → (∀ s, (∀ (j : Nat) (q : Oper), ops[j]? = some q → q.dst ≠ some s) → a.tmps[s]? = a0.tmps[s]?) → (∀ (i : Nat) (o : Oper) (s : Tmp), ops[i]? = some o → o.dst = some s → ∃ v, a.tmps[s]? = some v ∧ V i v w') → Q .normal a w') :
    (Code.region id ops true).wp P Q a0 w := by
  refine wp_region_any hm ?_
  refine wpAny_inv (fun fuel listed a w' => Up ops V a0 w listed a w' ∧ listed.size = ops.size ∧ leftN listed ≤ fuel) ?_ ?_ ?_ _ _ _ _ ?_
  · rintro fuel listed a w' ⟨u, hz, _⟩ hr
    have hall := all_up hf hz hr
    refine hq a w' u.late u.defers u.size (fun s hn => u.old s (fun i o ho hd => absurd hd (hn i o ho))) (fun i o s ho hd => u.come i o s ho (hall i (Array.getElem?_eq_some_iff.1 ho).1) hd)
  · rintro listed a w' ⟨u, hz, hl⟩
    refine List.eq_nil_iff_forall_not_mem.2 fun i hi => ?_
    have := (mem_ready.1 hi).1
    rw [left_none (by omega) i] at this
    cases this
  · rintro fuel listed a w' i ⟨u, hz, hl⟩ hi
    obtain ⟨hi0, o, ho, hdep⟩ := mem_ready.1 hi
    have hlt : i < listed.size := by
      rw [hz]
      exact (Array.getElem?_eq_some_iff.1 ho).1
    have hlf := left_set hi0
    have hi1 : listed.getD i false = false := by
      simp [hlt] at hi0 ⊢
      exact hi0
    have hst := (show Step P ops Q V a0 w i from hs i (by omega)) o ho a w' u.late (fun s hn => u.old s (fun j q hq hd => absurd hd (hn j q hq))) (by
      intro j hj q s hq hd
      obtain ⟨e, he, rfl⟩ := List.mem_map.1 hj
      obtain ⟨he1, he2⟩ := List.mem_filter.1 he
      exact u.come e.on q s hq (hdep e (Array.mem_toList_iff.1 he1) he2) hd)
    have key : ∀ v w'', V i v w'' → Later w' w'' → Up ops V a0 w (listed.setIfInBounds i true) (a.put o.dst v) w'' := by
      intro v w'' hv hg
      refine ⟨gtrans u.late hg, ?_, ?_, ?_, ?_⟩
      · cases o.dst <;> exact u.defers
      · cases hd : o.dst with
        | none => exact u.size
        | some d => simp [Act.put, u.size]
      · intro s hn
        have h1 : a.tmps[s]? = a0.tmps[s]? := u.old s (fun j q hq hd => by
          have := hn j q hq hd
          rw [getD_set hlt] at this
          simp at this
          simpa using this.2)
        cases hd : o.dst with
        | none => exact h1
        | some d =>
          have hne : d ≠ s := by
            rintro rfl
            have := hn i o ho hd
            rw [getD_set hlt] at this
            simp at this
          simp only [Act.put]
          rw [Array.getElem?_setIfInBounds_ne hne]
          exact h1
      · intro j q s hq hl' hd
        by_cases hji : j = i
        · subst hji
          obtain rfl : q = o := Option.some.inj (hq.symm.trans ho)
          refine ⟨v, ?_, hv⟩
          rw [hd]
          have := fit_in hf ho hd
          rw [← u.size] at this
          simp [Act.put, this]
        · rw [getD_set hlt] at hl'
          simp [hji] at hl'
          obtain ⟨x, hx, hx'⟩ := u.come j q s hq (by simpa using hl') hd
          refine ⟨x, ?_, hV _ _ _ _ hx' hg⟩
          cases hd' : o.dst with
          | none => exact hx
          | some d =>
            have hne : d ≠ s := by
              rintro rfl
              exact hji (fit_dst hf ho hq hd' hd)
            simp only [Act.put]
            rw [Array.getElem?_setIfInBounds_ne hne]
            exact hx
    unfold wpOp
    rw [ho]
    show if Region.wanted o (yielded ops a.tmps) = true then _ else _
    split
    · rename_i hw
      rw [if_pos hw] at hst
      refine .inl (Oper.wp_mono ?_ hst)
      rintro a' w'' ⟨v, rfl, hv, hg⟩
      exact ⟨key v w'' hv hg, by simp [hz], by omega⟩
    · rename_i hw
      rw [if_neg hw] at hst
      exact ⟨key undef w' hst (Later.refl _), by simp [hz], by omega⟩
  · refine ⟨⟨Later.refl w, rfl, rfl, fun _ _ => rfl, fun i o s ho hl _ => ?_⟩, by simp, ?_⟩
    · rw [getD_replicate_false] at hl
      cases hl
    · unfold leftN
      have := List.countP_le_length (p := fun b => !b) (l := (Array.replicate ops.size false).toList)
      simpa using this

theorem ev {a : Act} {k : Tmp} {v : Value} (h : a.tmps[k]? = some v) : a.eval (.tmp k) = v := by
  simp [Act.eval, h]

/-- No operation writes this slot. -/
def freeB (ops : Array Oper) (s : Tmp) : Bool := ops.toList.all fun q => !(q.dst == some s)

theorem free_of {ops : Array Oper} {s : Tmp} (h : freeB ops s = true) : ∀ (j : Nat) (q : Oper), ops[j]? = some q → q.dst ≠ some s := by
  intro j q hq hd
  have := List.all_eq_true.1 h q (by
    rw [Array.mem_toList_iff]
    exact Array.mem_of_getElem? hq)
  simp [hd] at this

theorem want_of {ops : Array Oper} {o : Oper} {a : Act} {j : Nat} {q : Oper} {s : Tmp} {b c : Bool} (hg : o.guard = some (j, c)) (hq : ops[j]? = some q) (hd : q.dst = some s) (h : a.tmps[s]? = some (.bool b)) : Region.wanted o (yielded ops a.tmps) = (b == c) := by
  unfold Region.wanted yielded
  rw [hg]
  simp [hq, hd, h]

theorem ite_yes {c : Prop} [Decidable c] {A B : Prop} (h : c) (ha : A) : if c then A else B := by rw [if_pos h]; exact ha

theorem ite_by {x : Bool} {A B : Prop} {b : Bool} (h : x = b) (h1 : b = true → A) (h2 : b = false → B) : if x = true then A else B := by
  subst h
  split
  · exact h1 (by assumption)
  · exact h2 (by simpa using ‹¬ x = true›)

theorem act_eta (a : Act) (n : Nat) (d : List Deferred) (hz : a.tmps.size = n) (hd : a.defers = d) : a = ⟨((List.range n).map fun s => a.tmps.getD s undef).toArray, d⟩ := by
  obtain ⟨t, e⟩ := a
  subst hd
  simp only [Act.mk.injEq, and_true]
  apply Array.ext
  · simp at hz ⊢
    exact hz
  · intro i h1 h2
    simp [h1]

theorem getD_of {a : Act} {s : Tmp} {v : Value} (h : a.tmps[s]? = some v) : a.tmps.getD s undef = v := by simp [h]

end Go.Proofs.YtmlnlkfdbbnkbaaGreatDoor.Eachn
