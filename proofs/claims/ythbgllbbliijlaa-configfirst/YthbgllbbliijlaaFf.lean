/-
  What is wrong first is told, whatever else is; with another place's clocks and sunsets it may be, if both may. No condition but those that each theorem states.
-/
import Derived.Test.YthbgllbbliijlaaDn
namespace Go.Proofs.Ythbgllbbliijlaa.Conf
open Go.ChangeShapes Go.WideShapes Go.ChangeAt Go.RowKit
open Go.Proofs.Ythbgllbbliijlaa.Divs Go.Proofs.Ythbgllbbliijlaa.Grow Go.Proofs.Ythbgllbbliijlaa.Zone
open Go.Proofs.Ythbgllbbliijlaa.By (Sk SL bool_no bool_yes)
open Go.Proofs.Ythbgllbbliijlaa.Each
open Go.Proofs.Ythbgllbbliijlaa.Zo Go.Proofs.Ythbgllbbliijlaa.Su Go.Proofs.Ythbgllbbliijlaa.Cf

theorem Row.there' {B : Nat} {t : TypeId} {cs : Array Value} {W : World} (h : Row B t cs W) (o n : Nat) (hn : o + n ≤ cs.size) : W.there B o n := by
  intro j hj
  refine ⟨?_, h.frozen (o + j)⟩
  rw [h.cell (o + j) (Array.getElem?_eq_getElem (by omega))]
  rfl

/-- A part of a row is stored. -/
theorem store_part {ops : Array Oper} {rest : List Oper} {o : Oper} {a : Act} {W : World} {Q : Exit → Act → World → Prop} (hgd : o.guard = none) (ty : TypeId) (x y : Operand) (ho : o.op = .store ty x y) (g off : Nat) (hx : a.eval x = .pointer (some ⟨g, off, none⟩)) (Z : Array Value) (hy : a.eval y = .agg Z) (hi : (Try.prog.info? ty).map (·.size) = some Z.size) (hone : Z.all (·.oneCell') = true)
    (cs : Array Value) {t : TypeId} (hn : off + Z.size ≤ cs.size) (hR : Row g t cs W) (w0 : World) (hL : Later w0 W) (hB : w0.heap.size ≤ g) (hK : ∀ W', Row g t (sets cs off Z.toList) W' → Later w0 W' → wpList Try.prog ops Q rest (a.put o.dst undef) W') : wpList Try.prog ops Q (o :: rest) a W :=
  wpList_store_mid hgd ty x y ho g off Z hx hy (hR.there' off Z.size hn) hi hone (hK _ (Row.sets Z.toList W cs off hR) (later_sets hB _ _ _ hL))

theorem Is.zone {W W' : World} {D : Array Value} {c : Cg} (h : Is W D c) {b : Nat} (hA : At W' b D) : W'.rangeAt b 13 (zc c.z).toList := by
  obtain ⟨u, v, rfl, hu, hv⟩ := h
  exact cc_zone c u v hA

theorem Is.sun {W W' : World} {D : Array Value} {c : Cg} (h : Is W D c) {b : Nat} (hA : At W' b D) : W'.rangeAt b 23 (Sun.sc c.s).toList := by
  obtain ⟨u, v, rfl, hu, hv⟩ := h
  exact cc_sun c u v hA

theorem Is.floors0 {W : World} {D : Array Value} {c : Cg} (h : Is W D c) : D[0]? = some (.int .i64 c.f) := by
  obtain ⟨u, v, rfl, hu, hv⟩ := h
  rfl

theorem sets_size (vs : List Value) : ∀ (cs : Array Value) (o : Nat), (sets cs o vs).size = cs.size := by
  induction vs with
  | nil => intro cs o; rfl
  | cons y r ih => intro cs o; exact (ih _ _).trans (by simp)

theorem zc_one (z : Zn) : (zc z).all (·.oneCell') = true := by simp [zc, Value.oneCell']

theorem sc_one (s : Nat → Int) : (Sun.sc s).all (·.oneCell') = true := by simp [Sun.sc, Value.oneCell']

set_option maxHeartbeats 2000000 in
theorem first_core (w : World) (D : Array Value) (c : Cg) (hc : Is w D c) (E : Array Value) (d : Cg) (hd : Is w E d) : Calls Try.prog 7 #[.agg D, .agg E] w fun e w' => e = .returned (.bool true) ∧ Later w w' := by
  have KF := Lib.hid (fun W (g : Later w W) => few_of (hc.later g))
  have KG := Lib.hid (fun W (g : Later w W) => few_of (hd.later g))
  have KO := Lib.hid (fun W (g : Later w W) hf => own_of (hc.later g) hf)
  have KP := Lib.hid (fun W (g : Later w W) hf => own_of (hd.later g) hf)
  have KC := Lib.hid (fun W X (h : Is W X c) => check_of h)
  have KD := Lib.hid (fun W X (h : Is W X d) => check_of h)
  have KY := Lib.hid (fun W X (h : Is W X (cp c d)) => check_of h)
  have KX := Lib.hid (fun W X (h : Is W X (cf c 1)) => by have := check_of h; rwa [ce_floor] at this)
  have KA := Lib.hid awake_any
  have HF := Lib.hid (ce_first c d)
  have HP := Lib.hid (ce_place c d)
  have HZ := Lib.hid hc.size
  have HY := Lib.hid hd.size
  have HQ := Lib.hid (fun W b (h : At W b E) => hd.zone h)
  have HS := Lib.hid (fun W b (h : At W b E) => hd.sun h)
  have HL0 := Lib.hid (((Later.refl w).alloc D 33).alloc E 33)
  have HA0 := Lib.hid ((At.new w D 33).put (.cells E 33))
  have HB0 := Lib.hid (At.new (w.alloc (.cells D 33)) E 33)
  simp only [World.size_alloc] at HB0
  obtain ⟨Z, hZ⟩ : ∃ Z, Z = zc d.z := ⟨_, rfl⟩
  obtain ⟨S, hS⟩ : ∃ S, S = Sun.sc d.s := ⟨_, rfl⟩
  have Z10 : Hid (Z.size = 10) := Lib.hid (by rw [hZ]; rfl)
  have S12 : Hid (S.size = 12) := Lib.hid (by rw [hS]; rfl)
  have Z1 : Hid (Z.all (·.oneCell') = true) := Lib.hid (by rw [hZ]; exact zc_one _)
  have S1 : Hid (S.all (·.oneCell') = true) := Lib.hid (by rw [hS]; exact sc_one _)
  have EZ := Lib.hid hZ
  have ES := Lib.hid hS
  clear hc hd hZ hS
  generalize hx : ce c = x at *
  generalize hy : ce (cp c d) = y at *
  generalize hz : ce d = z at *
  clear hx hy hz
  go_enter Try.func7, Try.ntmps7
  go_wp2_with (refine load_at D HZ.out rfl (.tmp 2) rfl w.heap.size rfl HA0.out ?_)
  refine (KF.out _ HL0.out).mono ?_
  rintro e w1 ⟨rfl, hg1⟩
  have HL1 := Lib.hid (gtrans HL0.out hg1)
  have HA1 := Lib.hid (HA0.out.later hg1)
  have HB1 := Lib.hid (HB0.out.later hg1)
  clear hg1 HA0 HB0
  cases e1 : fw c with
  | false =>
    go_wp2_with fail
    refine (KA.out _).mono ?_
    rintro e w2 ⟨rfl, hg2⟩
    have HL2 := Lib.hid (gtrans HL1.out hg2)
    clear hg2
    go_wp2_with fail
    go_ret
    exact ⟨rfl, HL2.out⟩
  | true =>
    go_wp2_with (refine load_in E HY.out (by rfl) (.tmp 3) rfl (w.heap.size + 1) rfl HB1.out ?_)
    refine (KG.out _ HL1.out).mono ?_
    rintro e w2 ⟨rfl, hg2⟩
    have HL2 := Lib.hid (gtrans HL1.out hg2)
    have HA2 := Lib.hid (HA1.out.later hg2)
    have HB2 := Lib.hid (HB1.out.later hg2)
    clear hg2 HA1 HB1
    cases e2 : fw d with
    | false =>
      go_wp2_with fail
      refine (KA.out _).mono ?_
      rintro e w3 ⟨rfl, hg3⟩
      have HL3 := Lib.hid (gtrans HL2.out hg3)
      clear hg3
      go_wp2_with fail
      go_ret
      exact ⟨rfl, HL3.out⟩
    | true =>
      go_wp2_with (refine load_at D HZ.out rfl (.tmp 2) rfl w.heap.size rfl HA2.out ?_)
      refine (KO.out _ HL2.out e1).mono ?_
      rintro e w3 ⟨F, rfl, ho, hg3⟩
      have HL3 := Lib.hid (gtrans HL2.out hg3)
      have HA3 := Lib.hid (HA2.out.later hg3)
      have HB3 := Lib.hid (HB2.out.later hg3)
      have F37 := Lib.hid ho.is.size
      have F1 := Lib.hid ho.is.one
      have F0 := Lib.hid ho.is.floors0
      have HI3 := Lib.hid (ho.is.floors 1)
      clear hg3 ho HA2 HB2
      obtain ⟨G, hG⟩ : ∃ G, G = F.setIfInBounds 0 (.int .i64 1) := ⟨_, rfl⟩
      have G37 : Hid (G.size = 37) := Lib.hid (by rw [hG]; simpa using F37.out)
      rw [← hG] at HI3
      have HG := Lib.hid hG
      clear hG
      go_wp2_with (first
        | (refine store_row rfl (.tmp 5) (.tmp 19) rfl w3.heap.size rfl F F37.out F1.out rfl _ rfl (Row.new _ _ _) w3 ((Later.refl _).alloc _ _) (Nat.le_refl _) ?_; intro W4 hR4 hL4 _; have a0 := hR4.cell 0 F0.out; have z0 := hR4.frozen 0; have HR4 := Lib.hid (hR4.set 0 (.int .i64 1)); rw [← HG.out] at HR4; have HL4 : Hid (Later w3 (W4.setCell ⟨w3.heap.size, 0, none⟩ (.int .i64 1))) := Lib.hid (hL4.setCell (Nat.le_refl _) _); have HA4 := Lib.hid (HA3.out.later HL4.out); clear hR4 hL4)
        | (refine load_at D HZ.out rfl (.tmp 2) rfl w.heap.size rfl HA4.out ?_))
      refine (KO.out _ (gtrans HL3.out HL4.out) e1).mono ?_
      rintro e w5 ⟨H, rfl, ho, hg5⟩
      have HL5 := Lib.hid (gtrans HL4.out hg5)
      have HR5 := Lib.hid (HR4.out.later hg5)
      have HA5 := Lib.hid (HA4.out.later hg5)
      have HB5 := Lib.hid (HB3.out.later HL5.out)
      have HI5 := Lib.hid (HI3.out.later HL5.out)
      have HL5' := Lib.hid (gtrans HL3.out HL5.out)
      have H37 := Lib.hid ho.is.size
      have H1 := Lib.hid ho.is.one
      have HJ5 := Lib.hid (ho.is.place d)
      rw [← EZ.out, ← ES.out] at HJ5
      clear hg5 ho a0 z0
      obtain ⟨J, hJ⟩ : ∃ J, J = sets (sets H 13 Z.toList) 23 S.toList := ⟨_, rfl⟩
      have J37 : Hid (J.size = 37) := Lib.hid (by rw [hJ, sets_size, sets_size]; exact H37.out)
      rw [← hJ] at HJ5
      have HJ := Lib.hid hJ
      clear hJ
      go_wp2_with (first
        | (refine store_row rfl (.tmp 6) (.tmp 22) rfl w5.heap.size rfl H H37.out H1.out rfl _ rfl (Row.new _ _ _) w5 ((Later.refl _).alloc _ _) (Nat.le_refl _) ?_; intro W6 hR6 hL6 _; have HR6 := Lib.hid hR6; have HL6 := Lib.hid hL6; have HB6 := Lib.hid (HB5.out.later hL6); clear hR6 hL6)
        | (refine load_zn d.z rfl (.tmp 23) rfl (w.heap.size + 1) 13 rfl (HQ.out _ _ HB6.out) ?_)
        | (refine store_part rfl 28 (.tmp 25) (.tmp 24) rfl w5.heap.size 13 rfl Z (by rw [EZ.out]; rfl) (by rw [Z10.out]; kernel_rfl) Z1.out H (by rw [Z10.out, H37.out]; decide) HR6.out w5 HL6.out (Nat.le_refl _) ?_; intro W7 hR7 hL7; have HR7 := Lib.hid hR7; have HL7 := Lib.hid hL7; have HB7 := Lib.hid (HB5.out.later hL7); clear hR7 hL7)
        | (refine load_sn d.s rfl (.tmp 26) rfl (w.heap.size + 1) 23 rfl (HS.out _ _ HB7.out) ?_)
        | (refine store_part rfl 30 (.tmp 28) (.tmp 27) rfl w5.heap.size 23 rfl S (by rw [ES.out]; rfl) (by rw [S12.out]; kernel_rfl) S1.out (sets H 13 Z.toList) (by rw [S12.out, sets_size, H37.out]; decide) HR7.out w5 HL7.out (Nat.le_refl _) ?_; rw [← HJ.out]; intro W8 hR8 hL8; have HR8 := Lib.hid hR8; have HL8 := Lib.hid hL8; have HA8 := Lib.hid (HA5.out.later hL8); clear hR8 hL8)
        | (refine load_at D HZ.out rfl (.tmp 2) rfl w.heap.size rfl HA8.out ?_))
      refine (KO.out _ (gtrans HL5'.out HL8.out) e1).mono ?_
      rintro e w9 ⟨P, rfl, ho, hg9⟩
      have HI9 := Lib.hid ho.is
      have HL9 := Lib.hid (gtrans HL8.out hg9)
      have HR9 := Lib.hid (HR8.out.later hg9)
      clear hg9 ho
      go_wp2_with fail
      refine (KC.out _ _ HI9.out).mono ?_
      rintro e w10 ⟨rfl, hg10⟩
      have HL10 := Lib.hid (gtrans HL9.out hg10)
      have HR10 := Lib.hid (HR9.out.later hg10)
      clear hg10
      go_wp2_with (refine load_at J J37.out rfl (.tmp 6) rfl w5.heap.size rfl HR10.out.at ?_)
      refine (KY.out _ _ (HJ5.out.later HL10.out)).mono ?_
      rintro e w11 ⟨rfl, hg11⟩
      have HL11 := Lib.hid (gtrans HL10.out hg11)
      have HR11 := Lib.hid (HR5.out.later HL11.out)
      clear hg11
      go_wp2_with (refine load_at G G37.out rfl (.tmp 5) rfl w3.heap.size rfl HR11.out.at ?_)
      refine (KX.out _ _ (HI5.out.later HL11.out)).mono ?_
      rintro e w12 ⟨rfl, hg12⟩
      have HL12 := Lib.hid (gtrans (gtrans HL5'.out HL11.out) hg12)
      have HB12 := Lib.hid (HB5.out.later (gtrans HL11.out hg12))
      clear hg12
      have fin : ∀ (k : Int), k = 100 ∨ k = 101 ∨ k = 102 ∨ (k ≠ 100 ∧ k ≠ 101 ∧ k ≠ 102 ∧ k ≠ 0) ∨ k = 0 := fun k => by omega
      rcases fin x with h | h | h | ⟨h0, h1, h2, h3⟩ | h
      · have hy := HF.out (.inl h)
        subst hy
        subst h
        go_wp2_with fail
        refine (KA.out _).mono ?_
        rintro e w13 ⟨rfl, hg13⟩
        have HL13 := Lib.hid (gtrans HL12.out hg13)
        clear hg13
        go_wp2_with fail
        go_ret
        exact ⟨rfl, HL13.out⟩
      · have hy := HF.out (.inr (.inl h))
        subst hy
        subst h
        go_wp2_with fail
        refine (KA.out _).mono ?_
        rintro e w13 ⟨rfl, hg13⟩
        have HL13 := Lib.hid (gtrans HL12.out hg13)
        clear hg13
        go_wp2_with fail
        go_ret
        exact ⟨rfl, HL13.out⟩
      · have hy := HF.out (.inr (.inr h))
        subst hy
        subst h
        go_wp2_with fail
        refine (KA.out _).mono ?_
        rintro e w13 ⟨rfl, hg13⟩
        have HL13 := Lib.hid (gtrans HL12.out hg13)
        clear hg13
        go_wp2_with fail
        go_ret
        exact ⟨rfl, HL13.out⟩
      · have b0 : (x == 100) = false := by simpa using h0
        have b1 : (x == 101) = false := by simpa using h1
        have b2 : (x == 102) = false := by simpa using h2
        have b3 : (x != 0) = true := by simpa using h3
        clear h0 h1 h2 h3 HF HP fin
        go_wp2_with fail
        refine (KA.out _).mono ?_
        rintro e w13 ⟨rfl, hg13⟩
        have HL13 := Lib.hid (gtrans HL12.out hg13)
        clear hg13
        go_wp2_with fail
        go_ret
        exact ⟨rfl, HL13.out⟩
      · subst h
        have hp : z = 0 → y = 0 := HP.out rfl
        clear HF HP fin
        go_wp2_with fail
        refine (KA.out _).mono ?_
        rintro e w13 ⟨rfl, hg13⟩
        have HL13 := Lib.hid (gtrans HL12.out hg13)
        have HB13 := Lib.hid (HB12.out.later hg13)
        clear hg13
        go_wp2_with (refine load_in E HY.out (by rfl) (.tmp 3) rfl (w.heap.size + 1) rfl HB13.out ?_)
        refine (KP.out _ HL13.out e2).mono ?_
        rintro e w14 ⟨R, rfl, ho, hg14⟩
        have HI14 := Lib.hid ho.is
        have HL14 := Lib.hid (gtrans HL13.out hg14)
        clear hg14 ho
        go_wp2_with fail
        refine (KD.out _ _ HI14.out).mono ?_
        rintro e w15 ⟨rfl, hg15⟩
        have HL15 := Lib.hid (gtrans HL14.out hg15)
        clear hg15
        by_cases hz : z = 0
        · have hy := hp hz
          subst hy
          subst hz
          clear hp
          go_wp2_with fail
          go_ret
          exact ⟨rfl, HL15.out⟩
        · have b4 : (z != 0) = true := by simpa using hz
          clear hz hp
          go_wp2_with fail
          go_ret
          exact ⟨rfl, HL15.out⟩

end Go.Proofs.Ythbgllbbliijlaa.Conf
