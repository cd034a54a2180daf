/-
  At each instant the mode is the weightiest span's: the law's walk.  Conditions: as each theorem states.
-/
import Derived.Test.YtmjedpaiccaddaaXs
import Derived.Test.YtmjedpaiccaddaaXg
namespace Go.Proofs.Ytmjedpaiccaddaa.Span
set_option maxRecDepth 100000
open Go.ChangeShapes Go.WideShapes Go.ChangeAt Go.RowKit
open Go.Proofs.Ytmjedpaiccaddaa.Divs Go.Proofs.Ytmjedpaiccaddaa.Grow
open Go.Proofs.Ytmjedpaiccaddaa.By (Sk SL)
open Go.Proofs.Ytmjedpaiccaddaa.Sp

set_option maxHeartbeats 4000000 in
theorem each_core (w : World) (v : Value) (l : List Sp) (t : Int) (h : Ws w v l) : Calls Try.prog 5 #[v, .int .i64 t] w fun e w' => e = .returned (.bool true) ∧ Later w w' := by
  have A := Lib.hid awake_any
  have O := Lib.hid (fun W u (xs : List Sp) (k : Ws W u xs) (q : xs.length ≤ 100000) => own_any u xs W k q)
  have HG0 := Lib.hid (Later.refl w)
  obtain ⟨ad, cap, e0, _⟩ := h.form
  obtain ⟨n, hn⟩ : ∃ n, l.length = n := ⟨_, rfl⟩
  rw [hn] at e0
  subst e0
  have HS := Lib.hid h
  have HN := Lib.hid hn
  by_cases h1 : 60 < n
  · have t1 : (n : Int) > 60 := by omega
    clear h hn h1 HS HN
    go_enter Try.func5, Try.ntmps5
    go_wp2_with fail
    refine (A.out _).mono ?_
    rintro e w9 ⟨rfl, hg9⟩
    go_wp2_with fail
    go_ret
    exact ⟨rfl, gtrans HG0.out hg9⟩
  · have t1 : ¬ (n : Int) > 60 := by omega
    have HN6 : Hid (n ≤ 60) := Lib.hid (by omega)
    clear h hn h1
    go_enter Try.func5, Try.ntmps5
    go_wp2_with fail
    refine (O.out _ _ l HS.out (by have := HN.out; have := HN6.out; omega)).mono ?_
    rintro e w1 ⟨v1, rfl, hv1, hg1⟩
    obtain ⟨a1, c1, rfl⟩ := hv1.lit HN.out
    have HW1 := Lib.hid hv1.ws
    have HG1 := Lib.hid (gtrans HG0.out hg1)
    clear hv1 hg1
    go_wp2_with fail
    cases hmb : mb l with
    | false =>
      refine (resolve_no _ l _ HW1.out hmb).mono ?_
      rintro e w2 ⟨rfl, hg2⟩
      have HG2 := Lib.hid (gtrans HG1.out hg2)
      clear hg2 hmb
      go_wp2_with fail
      refine (A.out _).mono ?_
      rintro e w9 ⟨rfl, hg9⟩
      go_wp2_with fail
      go_ret
      exact ⟨rfl, gtrans HG2.out hg9⟩
    | true =>
      refine (res_yes _ l _ HW1.out hmb).mono ?_
      rintro e w2 ⟨⟨v2, R, rfl, hR, hv2⟩, hg2⟩
      obtain ⟨mr, hm⟩ : ∃ m, R.length = m := ⟨_, rfl⟩
      obtain ⟨a2, c2, rfl⟩ := hv2.lit hm
      have HX2 := Lib.hid hv2.ws
      have HR := Lib.hid hR
      obtain ⟨q, hq⟩ : ∃ q, av R t = q := ⟨_, rfl⟩
      obtain ⟨B, hB⟩ : ∃ B, ab R t = B := ⟨_, rfl⟩
      have HQQ := Lib.hid hq
      have HBB := Lib.hid hB
      have P := Lib.hid (at_any _ R t _ HX2.out)
      rw [hq, hB] at P
      unfold sc at P
      have HG2' := Lib.hid (gtrans HG1.out hg2)
      clear hv2 hg2 hmb hR hm hq hB
      go_wp2_with fail
      refine (P.out).mono ?_
      rintro e w3 ⟨rfl, hg3⟩
      have HQ0' := Lib.hid (RA.new w3 #[.int .i64 q.f, .int .i64 q.t, .int .i64 q.m, .int .i64 q.p] 31)
      have HG2'' := Lib.hid ((gtrans HG2'.out hg3).put (.cells #[.int .i64 q.f, .int .i64 q.t, .int .i64 q.m, .int .i64 q.p] 31))
      go_wp2_with fail
      obtain ⟨w0, hw0⟩ : ∃ w0, w3.alloc (.cells #[.int .i64 q.f, .int .i64 q.t, .int .i64 q.m, .int .i64 q.p] 31) = w0 := ⟨_, rfl⟩
      have HQ0 : Hid (RA w0 w3.heap.size #[.int .i64 q.f, .int .i64 q.t, .int .i64 q.m, .int .i64 q.p] 31) := Lib.hid (hw0 ▸ HQ0'.out)
      have HG2 : Hid (Later w w0) := Lib.hid (hw0 ▸ HG2''.out)
      have HAT : Hid (∀ i x, l[i]? = some x → ∃ g off, ad = some ⟨g, off, none⟩ ∧ At w0 g (off + i * 4) x) := Lib.hid (by
        obtain ⟨ad', cap', e', _, hc'⟩ := (HS.out.later HG2.out).form
        rw [HN.out] at e'
        simp only [Value.slice.injEq] at e'
        obtain ⟨rfl, _, rfl⟩ := e'
        exact hc')
      have HBI := Lib.hid (bi_nil l t)
      clear hg3
      rw [hw0]
      clear hw0
      go_loopw [9, 10] (fun p i wr => ∃ (k : Nat) (j : Int), k ≤ n ∧ p = .int .i64 j ∧ i = .int .i64 (k : Int) ∧ Bi l t k j ∧ Later w0 wr) (fun _ i _ => n - (intOf i).toNat)
      case atStart => exact ⟨0, -1, by omega, rfl, rfl, HBI.out, Later.refl _⟩
      case round =>
        obtain ⟨k, j, hk, rfl, rfl, hj, hg⟩ := hrel
        have HJ := Lib.hid hj
        have HG := Lib.hid hg
        clear hj hg
        have r3 : (k : Int) < 60 → IntKind.i64.wrap ((k : Int) + 1) = (k : Int) + 1 := by intro h; rw [IntKind.wrap_i64]; omega
        by_cases hlt : k < n
        · have HK : Hid (k < l.length) := Lib.hid (by rw [HN.out]; exact hlt)
          have hk60 : k < 60 := by have := HN6.out; omega
          replace r3 := r3 (by omega)
          obtain ⟨x, hx⟩ : ∃ x, l[k]? = some x := ⟨_, List.getElem?_eq_getElem HK.out⟩
          have HX : Hid (∀ hk : k < l.length, l[k] = x) := Lib.hid (fun hk => by rw [List.getElem?_eq_getElem hk] at hx; exact Option.some.inj hx)
          obtain ⟨g, off, rfl, hat⟩ := HAT.out k x hx
          obtain ⟨c0, c1, c2, c3⟩ := hat.later HG.out
          have ad2 : ∀ j, (⟨g, off, none⟩ : Addr).add j = ⟨g, off + j, none⟩ := Addr.add_mid g off
          clear hx c2 hat
          have hkz : (k : Int) < (n : Int) := by omega
          by_cases t1 : t < x.f
          · have HV := Lib.hid (bi_out l t k j HK.out HJ.out (by rw [HX.out]; exact .inl t1))
            go_wp2
            go_roundw
            case rel => exact ⟨k + 1, j, by omega, rfl, by go_num, HV.out, HG.out⟩
            case measure => simp [intOf]; omega
          · by_cases t2 : t ≥ x.t
            · have HV := Lib.hid (bi_out l t k j HK.out HJ.out (by rw [HX.out]; exact .inr t2))
              go_wp2
              go_roundw
              case rel => exact ⟨k + 1, j, by omega, rfl, by go_num, HV.out, HG.out⟩
              case measure => simp [intOf]; omega
            · have HI : Hid (∀ hk : k < l.length, l[k].f ≤ t ∧ t < l[k].t) := Lib.hid (fun hk => by rw [HX.out]; omega)
              by_cases t3 : j < 0
              · have HV : Hid (Bi l t (k + 1) k) := Lib.hid (by
                  have hb := HJ.out
                  have ej : j = -1 := by
                    unfold Bi at hb
                    cases e : best (l.take k) t with
                    | none => rw [e] at hb; exact hb
                    | some s => rw [e] at hb; have := hb.1; omega
                  rw [ej] at hb
                  exact bi_first l t k HK.out hb (HI.out HK.out))
                have d3 : decide (j < 0) = true := decide_eq_true t3
                go_wp2_with fail
                go_quiet (fail)
                go_wp2_with fail
                go_roundw
                case rel => exact ⟨k + 1, k, by omega, rfl, by go_num, HV.out, gtrans HG.out (later_drewN _ _)⟩
                case measure => simp [intOf]; omega
              · obtain ⟨m, hm, ej, hmk, hbb⟩ := bi_best HJ.out (by omega)
                clear hbb
                have HM := Lib.hid hm
                obtain ⟨y, hy⟩ : ∃ y, l[m]? = some y := ⟨_, List.getElem?_eq_getElem hm⟩
                have HY : Hid (∀ hm : m < l.length, l[m] = y) := Lib.hid (fun hm => by rw [List.getElem?_eq_getElem hm] at hy; exact Option.some.inj hy)
                obtain ⟨g', off', e', hat'⟩ := HAT.out m y hy
                simp only [Option.some.injEq, Addr.mk.injEq, and_true] at e'
                obtain ⟨rfl, rfl⟩ := e'
                obtain ⟨d0, d1, d2, d3⟩ := hat'.later HG.out
                subst ej
                have hmz : (m : Int) < (n : Int) := by omega
                clear hy hm d1 d2 hat'
                have s1 : decide ((m : Int) < 0) = false := decide_eq_false (by omega)
                have HVy : Hid (ov x y = true → Bi l t (k + 1) k) := Lib.hid (fun ho => bi_over l t k m HK.out HM.out HJ.out (HI.out HK.out) (by rw [HX.out, HY.out]; exact ho))
                have HVn : Hid (ov x y = false → Bi l t (k + 1) m) := Lib.hid (fun ho => bi_stay l t k m HK.out HM.out HJ.out (HI.out HK.out) (by rw [HX.out, HY.out]; exact ho))
                by_cases p1 : x.p > y.p
                · have s2 : decide (x.p > y.p) = true := decide_eq_true p1
                  have HV := Lib.hid (HVy.out (by unfold ov; rw [if_pos (by omega)]; exact s2))
                  clear p1
                  go_wp2_with fail
                  go_quiet (fail)
                  go_wp2_with fail
                  go_roundw
                  case rel => exact ⟨k + 1, k, by omega, rfl, by go_num, HV.out, gtrans HG.out (later_drewN _ _)⟩
                  case measure => simp [intOf]; omega
                · have s2 : decide (x.p > y.p) = false := decide_eq_false p1
                  by_cases p2 : x.p = y.p
                  · have s3 : (x.p == y.p) = true := by simpa using p2
                    by_cases p3 : x.f ≥ y.f
                    · have s4 : decide (x.f ≥ y.f) = true := decide_eq_true p3
                      have HV := Lib.hid (HVy.out (by unfold ov; rw [if_neg (by omega)]; exact s4))
                      clear p1 p2 p3
                      go_wp2_with fail
                      go_quiet (fail)
                      go_wp2_with fail
                      go_roundw
                      case rel => exact ⟨k + 1, k, by omega, rfl, by go_num, HV.out, gtrans HG.out (later_drewN _ _)⟩
                      case measure => simp [intOf]; omega
                    · have s4 : decide (x.f ≥ y.f) = false := decide_eq_false p3
                      have HV := Lib.hid (HVn.out (by unfold ov; rw [if_neg (by omega)]; exact s4))
                      clear p1 p2 p3
                      go_wp2_with fail
                      go_quiet (fail)
                      go_wp2_with fail
                      go_roundw
                      case rel => exact ⟨k + 1, m, by omega, rfl, by go_num, HV.out, gtrans HG.out (later_drewN _ _)⟩
                      case measure => simp [intOf]; omega
                  · have s3 : (x.p == y.p) = false := by simpa using p2
                    have HV := Lib.hid (HVn.out (by unfold ov; rw [if_pos p2]; exact s2))
                    clear p1 p2
                    go_wp2_with fail
                    go_quiet (fail)
                    go_wp2_with fail
                    go_roundw
                    case rel => exact ⟨k + 1, m, by omega, rfl, by go_num, HV.out, gtrans HG.out (later_drewN _ _)⟩
                    case measure => simp [intOf]; omega
        · have hkz : ¬ (k : Int) < (n : Int) := by omega
          have HB1 : Hid (Bi l t l.length j) := Lib.hid (by have := HJ.out; rwa [show k = l.length by rw [HN.out]; omega] at this)
          have HQ := Lib.hid (HQ0.out.later HG.out)
          have HG3 := Lib.hid (gtrans HG2.out HG.out)
          clear r3
          rcases bi_all HB1.out with ⟨rfl, hbest⟩ | ⟨m, hm, rfl, hbest⟩
          · obtain rfl : B = false := by
              rw [← HBB.out]
              have := (each HR.out t).1
              cases e : fi R t with
              | none => unfold ab; rw [e]; rfl
              | some s => obtain ⟨u, h1, _⟩ := this s e; rw [hbest] at h1; cases h1
            clear hbest
            have X2 : ∀ z : Gw wr, z.w'.cell? ⟨w3.heap.size, 2, none⟩ = some (.int .i64 q.m) := gw_cell (HQ.out.cell 2 (.int .i64 q.m) rfl)
            have X3 : ∀ z : Gw wr, z.w'.cell? ⟨w3.heap.size, 3, none⟩ = some (.int .i64 q.p) := gw_cell (HQ.out.cell 3 (.int .i64 q.p) rfl)
            have s5 : decide ((-1 : Int) ≥ 0) = false := rfl
            go_wp2_with fail
            refine region_grown (by kernel_rfl) (by kernel_rfl) ?_
            repeat (go_big_quiet_step (first | (go_at_call 9; exact in_grown (A.out _))))
            refine wpQuiet_nil (grown_end ?_)
            intro w8 hg8
            go_wp2_with fail
            go_ret
            exact ⟨rfl, gtrans HG3.out hg8⟩
          · obtain ⟨y, hy⟩ : ∃ y, l[m]? = some y := ⟨_, List.getElem?_eq_getElem hm⟩
            have hye : l[m] = y := by rw [List.getElem?_eq_getElem hm] at hy; exact Option.some.inj hy
            rw [hye] at hbest
            have hB : B = true ∧ q.m = y.m ∧ q.p = 0 := by
              rw [← HBB.out, ← HQQ.out]
              cases e : fi R t with
              | none => have := (each HR.out t).2 e; rw [this] at hbest; cases hbest
              | some s =>
                obtain ⟨u, h1, h2, h3⟩ := (each HR.out t).1 s e
                rw [hbest] at h1
                obtain rfl := Option.some.inj h1
                unfold ab av
                rw [e]
                exact ⟨rfl, h2, h3⟩
            obtain ⟨rfl, qm, qp⟩ := hB
            obtain ⟨g, off, rfl, hat⟩ := HAT.out m y hy
            have ad2 : ∀ j, (⟨g, off, none⟩ : Addr).add j = ⟨g, off + j, none⟩ := Addr.add_mid g off
            have hmz : (m : Int) < (n : Int) := by have := HN.out; omega
            have Y2 : ∀ z : Gw wr, z.w'.cell? ⟨g, off + m * 4 + 2, none⟩ = some (.int .i64 y.m) := gw_cell (hat.later HG.out).2.2.1
            have X2 : ∀ z : Gw wr, z.w'.cell? ⟨w3.heap.size, 2, none⟩ = some (.int .i64 q.m) := gw_cell (HQ.out.cell 2 (.int .i64 q.m) rfl)
            have X3 : ∀ z : Gw wr, z.w'.cell? ⟨w3.heap.size, 3, none⟩ = some (.int .i64 q.p) := gw_cell (HQ.out.cell 3 (.int .i64 q.p) rfl)
            have s5 : decide ((m : Int) ≥ 0) = true := decide_eq_true (by omega)
            have s6 : (q.m == y.m) = true := by simpa using qm
            have s7 : (q.p == 0) = true := by simpa using qp
            clear hy hye hbest qm qp hat hm
            go_wp2_with fail
            refine region_grown (by kernel_rfl) (by kernel_rfl) ?_
            repeat (go_big_quiet_step (first | (go_at_call 9; exact in_grown (A.out _))))
            refine wpQuiet_nil (grown_end ?_)
            intro w8 hg8
            go_wp2_with fail
            go_ret
            exact ⟨rfl, gtrans HG3.out hg8⟩

end Go.Proofs.Ytmjedpaiccaddaa.Span
