/-
  Plain facts on what may be when one thing is changed. Conditions: as each theorem states.
-/
import Derived.Test.YthbgllbbliijlaaDa
namespace Go.Proofs.Ythbgllbbliijlaa.Conf
open Go.Proofs.Ythbgllbbliijlaa.Zo Go.Proofs.Ythbgllbbliijlaa.Su Go.Proofs.Ythbgllbbliijlaa.Cf

set_option linter.unusedSimpArgs false in
theorem ce_ok (c : Cg) : ce c = 0 ↔ so c = true ∧ to c = true ∧ ti c = true ∧ ck c.z = 0 ∧ sk c.s = 0 ∧ c.ws.length ≤ 16 ∧ wa c.ws = true := by
  unfold ce
  by_cases h1 : so c = true
  · by_cases h2 : to c = true
    · by_cases h3 : ti c = true
      · by_cases h4 : ck c.z = 0
        · by_cases h5 : sk c.s = 0
          · by_cases h6 : c.ws.length ≤ 16
            · by_cases h7 : wa c.ws = true
              · simp only [h1, h2, h3, h4, h5, h6, h7, if_true, true_and]
              · simp only [h1, h2, h3, h4, h5, h6, h7, if_true, if_false, true_and]
                simp
            · simp only [h1, h2, h3, h4, h5, h6, if_true, if_false, true_and, false_and]
              simp
          · simp only [h1, h2, h3, h4, h5, if_true, if_false, true_and, false_and]
        · simp only [h1, h2, h3, h4, if_true, if_false, true_and, false_and]
      · simp only [h1, h2, h3, if_true, if_false, true_and, false_and]
        simp
    · simp only [h1, h2, if_true, if_false, true_and, false_and]
      simp
  · simp only [h1, if_false, false_and]
    simp

/-- With other windows. -/
def cw (c : Cg) (l : List Wn) : Cg := { c with ws := l }

/-- With other stops. -/
def ct (c : Cg) (l : List Int) : Cg := { c with st := l }

/-- With another lead. -/
def cl (c : Cg) (n : Int) : Cg := { c with e := n }

/-- With other floors. -/
def cf (c : Cg) (n : Int) : Cg := { c with f := n }

/-- With another place's zone and sunsets. -/
def cp (c d : Cg) : Cg := { c with z := d.z, s := d.s }

theorem ce_cw (c : Cg) (l : List Wn) (h : ce c = 0) : ce (cw c l) = if l.length ≤ 16 then (if wa l = true then 0 else 104) else 103 := by
  obtain ⟨h1, h2, h3, h4, h5, -, -⟩ := (ce_ok c).mp h
  have e1 : so (cw c l) = true := h1
  have e2 : to (cw c l) = true := h2
  have e3 : ti (cw c l) = true := h3
  have e4 : ck (cw c l).z = 0 := h4
  have e5 : sk (cw c l).s = 0 := h5
  unfold ce
  rw [if_pos e1, if_pos e2, if_pos e3, if_pos e4, if_pos e5]
  rfl

theorem ce_more (c : Cg) (x : Wn) (h : ce c = 0) (hn : c.ws.length + 1 ≤ 16) : ce (cw c (c.ws ++ [x])) = we x := by
  rw [ce_cw c _ h, if_pos (by simpa using hn)]
  have hw := ((ce_ok c).mp h).2.2.2.2.2.2
  unfold wa at hw ⊢
  rw [List.all_append, hw]
  unfold we
  simp

theorem ce_much (c : Cg) (x : Wn) (h : ce c = 0) (hn : ¬ c.ws.length + 1 ≤ 16) : ce (cw c (c.ws ++ [x])) = 103 := by
  rw [ce_cw c _ h, if_neg (by simpa using hn)]

theorem ce_less (c : Cg) (l : List Wn) (h : ce c = 0) (hn : l.length ≤ c.ws.length) (hm : ∀ x ∈ l, x ∈ c.ws) : ce (cw c l) = 0 := by
  obtain ⟨-, -, -, -, -, h6, h7⟩ := (ce_ok c).mp h
  rw [ce_cw c l h, if_pos (Nat.le_trans hn h6), if_pos]
  unfold wa at h7 ⊢
  rw [List.all_eq_true] at h7 ⊢
  exact fun x hx => h7 x (hm x hx)

theorem win_ok (c : Cg) (h : ce c = 0) (i : Nat) (x : Wn) (hx : c.ws[i]? = some x) : we x = 0 := by
  have h7 := ((ce_ok c).mp h).2.2.2.2.2.2
  unfold wa at h7
  rw [List.all_eq_true] at h7
  exact (we_ok x).mpr (h7 x (List.mem_of_getElem? hx))

theorem ce_stop (c : Cg) (l : List Int) (h : so c = true) (hl : l.length < 2) : ce (ct c l) = 101 := by
  have e1 : so (ct c l) = true := h
  have e2 : ¬ to (ct c l) = true := by
    rw [to_iff]
    show ¬ (2 ≤ l.length ∧ _)
    omega
  unfold ce
  rw [if_pos e1, if_neg e2]

theorem ce_floor (c : Cg) : ce (cf c 1) = 100 := by
  unfold ce
  rw [if_neg]
  intro h
  have := (so_floors h).1
  have e : (cf c 1).f = 1 := rfl
  omega

theorem ck_three (z : Zn) : ck z = 0 ∨ ck z = 60 ∨ ck z = 61 ∨ ck z = 62 := by
  unfold ck
  split
  · simp
  · split
    · simp
    · split <;> simp

theorem sk_three (s : Nat → Int) : sk s = 0 ∨ sk s = 70 ∨ sk s = 71 := by
  unfold sk
  split
  · split <;> simp
  · simp

theorem ce_first (c d : Cg) (h : ce c = 100 ∨ ce c = 101 ∨ ce c = 102) : ce (cp c d) = ce c := by
  have e1 : so (cp c d) = so c := rfl
  have e2 : to (cp c d) = to c := rfl
  have e3 : ti (cp c d) = ti c := rfl
  unfold ce at h ⊢
  rw [e1, e2, e3]
  by_cases h1 : so c = true
  · by_cases h2 : to c = true
    · by_cases h3 : ti c = true
      · exfalso
        rw [if_pos h1, if_pos h2, if_pos h3] at h
        have := ck_three c.z
        have := sk_three c.s
        split at h
        · split at h
          · split at h
            · split at h <;> omega
            · omega
          · omega
        · omega
      · rw [if_pos h1, if_pos h2, if_neg h3, if_pos h1, if_pos h2, if_neg h3]
    · rw [if_pos h1, if_neg h2, if_pos h1, if_neg h2]
  · rw [if_neg h1, if_neg h1]

theorem ce_place (c d : Cg) (h : ce c = 0) (g : ce d = 0) : ce (cp c d) = 0 := by
  obtain ⟨h1, h2, h3, -, -, h6, h7⟩ := (ce_ok c).mp h
  obtain ⟨-, -, -, h4, h5, -, -⟩ := (ce_ok d).mp g
  exact (ce_ok _).mpr ⟨h1, h2, h3, h4, h5, h6, h7⟩

/-- The least dwell. -/
def ls (c : Cg) : Int := min (min c.d c.r) c.q

theorem ls_in (c : Cg) (h : ce c = 0) : 1 ≤ ls c ∧ ls c ≤ 60 := by
  have h3 := ((ce_ok c).mp h).2.2.1
  simp only [ti, Bool.and_eq_true, bt_iff] at h3
  unfold ls
  omega

theorem ce_lead (c : Cg) (n : Int) (h : ce c = 0) : ce (cl c n) = if 1 ≤ n ∧ n ≤ ls c then 0 else 102 := by
  obtain ⟨h1, h2, h3, h4, h5, h6, h7⟩ := (ce_ok c).mp h
  have e1 : so (cl c n) = true := h1
  have e2 : to (cl c n) = true := h2
  have e3 : ti (cl c n) = true ↔ 1 ≤ n ∧ n ≤ ls c := by
    unfold ls
    simp only [ti, Bool.and_eq_true, bt_iff] at h3 ⊢
    simp only [cl]
    omega
  by_cases g : 1 ≤ n ∧ n ≤ ls c
  · rw [if_pos g]
    exact (ce_ok _).mpr ⟨e1, e2, e3.mpr g, h4, h5, h6, h7⟩
  · rw [if_neg g]
    unfold ce
    rw [if_pos e1, if_pos e2, if_neg (fun x => g (e3.mp x))]

theorem sq_self (s : Nat → Int) : sq s s = true := by simp [sq]

theorem sb_self (c : Cg) (l : List Wn) : sb c (cw c l) = true := by simp [sb, tq, cw]

theorem zq_self (z : Zn) : zq z z = true := by simp [zq]

theorem tt_cw (c : Cg) (l : List Wn) : tt c (cw c l) = decide (c.ws = l) := by
  show (zq c.z c.z && (sq c.s c.s && ((c.ab == c.ab) && decide (c.ws = l)))) = _
  rw [zq_self, sq_self, beq_self_eq_true, Bool.true_and, Bool.true_and, Bool.true_and]

theorem same_cw (c : Cg) (l : List Wn) : (sb c (cw c l) && tt c (cw c l)) = decide (c.ws = l) := by
  rw [sb_self, tt_cw, Bool.true_and]

theorem ft_cw (c : Cg) (l : List Wn) (h : ce c = 0) (g : ce (cw c l) = 0) : ft c (cw c l) = true := by
  unfold ft
  rw [h, g]
  simp [cw]

theorem ft_not (c d : Cg) (h : ce d ≠ 0) : ft c d = false := by
  unfold ft
  have : (ce d == 0) = false := by simpa using h
  rw [this]
  simp

/-- The example's sunsets. -/
def ps : Nat → Int := fun i => [1000, 1050, 1100, 1150, 1180, 1200, 1170, 1130, 1080, 1030, 1000, 990].getD i 0

/-- The example's window. -/
def pw : Wn := ⟨1, 2, 0, 65, 0, 1200, 600⟩

/-- The example. -/
def pc : Cg := ⟨4, 1, 0, [0, 1, 3], 2, 1, 2, 4, 1, 2, 3, 5, 3, ⟨0, 0, ⟨0, 0, 0, 0⟩, ⟨0, 0, 0, 0⟩⟩, ps, false, [pw]⟩

/-- No configuration. -/
def oc : Cg := ⟨0, 0, 0, [], 0, 0, 0, 0, 0, 0, 0, 0, 0, ⟨0, 0, ⟨0, 0, 0, 0⟩, ⟨0, 0, 0, 0⟩⟩, fun _ => 0, false, []⟩

/-- No window. -/
def ow : Wn := ⟨0, 0, 0, 0, 0, 0, 0⟩

theorem pc_ok : ce pc = 0 := by
  refine (ce_ok _).mpr ⟨by decide, by decide, by decide, by decide, ?_, by decide, by decide⟩
  refine (sk_ok _).mpr ⟨?_, ?_⟩
  · unfold okM; decide
  · unfold okS; decide

theorem pc_self : (sb pc pc && tt pc pc) = true := by
  show (sb pc (cw pc pc.ws) && tt pc (cw pc pc.ws)) = true
  rw [same_cw]
  simp

theorem pc_fits : ft pc pc = true := by
  unfold ft
  rw [pc_ok]
  rfl

theorem pc_oc : (sb pc oc && tt pc oc) = false := by rfl

theorem pw_ok : we pw = 0 := by decide

theorem ow_not : we ow = 104 := by decide

end Go.Proofs.Ythbgllbbliijlaa.Conf
