/-
  The example's answers. No condition but those that each theorem states.
-/
import Derived.Test.YthbgllbbliijlaaDk
namespace Go.Proofs.Ythbgllbbliijlaa.Conf
open Go.ChangeShapes Go.WideShapes Go.ChangeAt Go.RowKit
open Go.Proofs.Ythbgllbbliijlaa.Divs Go.Proofs.Ythbgllbbliijlaa.Grow Go.Proofs.Ythbgllbbliijlaa.Zone
open Go.Proofs.Ythbgllbbliijlaa.By (Sk SL bool_no bool_yes)
open Go.Proofs.Ythbgllbbliijlaa.Each
open Go.Proofs.Ythbgllbbliijlaa.Zo Go.Proofs.Ythbgllbbliijlaa.Su Go.Proofs.Ythbgllbbliijlaa.Cf

/-- A window is loaded, by an operation that is wanted. -/
theorem load_win_in {ops : Array Oper} {rest : List Oper} {o : Oper} {a : Act} {W : World} {Q : Exit → Act → World → Prop} (y : Wn) (hw : Region.wanted o (yielded ops a.tmps) = true) (x : Operand) (ho : o.op = .load 35 x) (B off : Nat) (hx : a.eval x = .pointer (some ⟨B, off, none⟩)) (h : W.rangeAt B off (wc y)) (hK : wpList Try.prog ops Q rest (a.put o.dst (.agg (wc y).toArray)) W) : wpList Try.prog ops Q (o :: rest) a W := by
  unfold wpList
  rw [if_pos hw]
  exact .inl (wp_load_mid (P := Try.prog) 35 x ho B off hx (wc y) _ h Try.underlying35 rfl (by kernel_rfl) hK)

theorem oc_st (w : World) : Sk .i64 w (.slice none 0 0) oc.st := By.sk_nil _ _

theorem oc_ws (w : World) : Wk w (.slice none 0 0) oc.ws := ⟨none, 0, rfl, by decide, by omega, by simp, by simp [oc, fl]⟩

set_option maxHeartbeats 1000000 in
theorem awake_any (w : World) : Calls Try.prog 10 #[] w fun e w' => e = .returned (.bool true) ∧ Later w w' := by
  have KP := Lib.hid (plain_any w)
  go_enter Try.func10, Try.ntmps10
  go_wp2_with fail
  refine KP.out.mono ?_
  rintro e w1 ⟨u, v, rfl, hu, hv, hg1⟩
  have K1 := Lib.hid (fun W (g : Later w1 W) => by have := check_any pc u v W (hu.later g) (hv.later g); rwa [pc_ok] at this)
  have K2 := Lib.hid (fun W (g : Later w1 W) => by have := same_any pc pc u v u v W (hu.later g) (hu.later g) (hv.later g) (hv.later g); rwa [pc_self] at this)
  have K3 := Lib.hid (fun W (g : Later w1 W) => by have := fits_any pc pc u v u v W (hu.later g) (hu.later g) (hv.later g) (hv.later g); rwa [pc_fits] at this)
  have K4 := Lib.hid (fun W (g : Later w1 W) => by have := same_any pc oc u v (.slice none 0 0) (.slice none 0 0) W (hu.later g) (oc_st W) (hv.later g) (oc_ws W); rwa [pc_oc] at this)
  have K5 := Lib.hid (fun W => by have := window_any pw W; rwa [pw_ok] at this)
  have K6 := Lib.hid (fun W => by have := window_any ow W; rwa [ow_not] at this)
  obtain ⟨d0, q0, eu, _, _⟩ := sk_form hu
  obtain ⟨b, off, cap, ev, _, hb, hr⟩ := Wk.has hv (by decide)
  have HR := Lib.hid (hr 0 pw rfl)
  have HG1 := Lib.hid hg1
  clear hr hu hv hg1 KP
  obtain ⟨C, hC⟩ : ∃ C, C = cc pc u v := ⟨_, rfl⟩
  rw [← hC] at K1 K2 K3 K4 ⊢
  have HC : Hid (C.size = 37) := Lib.hid (by rw [hC]; rfl)
  have H1 : Hid (C.all (·.oneCell') = true) := Lib.hid (by rw [hC, eu, ev]; exact cc_one _ _ _ _ _ _ _)
  have H36 : Hid (C[36]? = some (.slice (some ⟨b, off, none⟩) 1 cap)) := Lib.hid (by rw [hC, ev]; rfl)
  clear hC eu ev
  go_wp2_with (first | (refine store_row rfl (.tmp 1) (.tmp 2) rfl w1.heap.size rfl C HC.out H1.out rfl _ rfl (Row.new _ _ _) w1 ((Later.refl _).alloc _ _) (Nat.le_refl _) ?_; intro W2 hR2 hL2 _; have HA2 := Lib.hid hR2.at; have HL2 := Lib.hid hL2; clear hR2 hL2) | (refine load_at C HC.out rfl (.tmp 1) rfl w1.heap.size rfl HA2.out ?_))
  refine (K1.out _ HL2.out).mono ?_
  rintro e w3 ⟨rfl, hg3⟩
  have HL3 := Lib.hid (gtrans HL2.out hg3)
  have HA3 := Lib.hid (HA2.out.later hg3)
  clear hg3
  go_wp2_with (refine load_in C HC.out (by rfl) (.tmp 1) rfl w1.heap.size rfl HA3.out ?_)
  refine (K2.out _ HL3.out).mono ?_
  rintro e w4 ⟨rfl, hg4⟩
  have HL4 := Lib.hid (gtrans HL3.out hg4)
  have HA4 := Lib.hid (HA3.out.later hg4)
  clear hg4
  go_wp2_with (refine load_in C HC.out (by rfl) (.tmp 1) rfl w1.heap.size rfl HA4.out ?_)
  refine (K3.out _ HL4.out).mono ?_
  rintro e w5 ⟨rfl, hg5⟩
  have HL5 := Lib.hid (gtrans HL4.out hg5)
  have HA5 := Lib.hid (HA4.out.later hg5)
  clear hg5
  go_wp2_with (refine load_in C HC.out (by rfl) (.tmp 1) rfl w1.heap.size rfl HA5.out ?_)
  refine (K4.out _ HL5.out).mono ?_
  rintro e w6 ⟨rfl, hg6⟩
  have HL6 := Lib.hid (gtrans HL5.out hg6)
  have c36 := HA5.out.later hg6 36 _ H36.out
  have HW : Hid (w6.rangeAt b (off + 0 * 7) (wc pw)) := Lib.hid (fun j x hx => gsome HL6.out (HR.out j x hx))
  clear hg6
  go_wp2_with (refine load_win_in pw (by rfl) (.tmp 25) rfl b (off + 0 * 7) rfl HW.out ?_)
  refine (K5.out _).mono ?_
  rintro e w7 ⟨rfl, hg7⟩
  have HL7 := Lib.hid (gtrans HL6.out hg7)
  clear hg7
  go_wp2_with fail
  refine (K6.out _).mono ?_
  rintro e w8 ⟨rfl, hg8⟩
  have HL8 := Lib.hid (gtrans HL7.out hg8)
  clear hg8
  go_wp2_with fail
  go_ret
  exact ⟨rfl, gtrans HG1.out HL8.out⟩

end Go.Proofs.Ythbgllbbliijlaa.Conf
