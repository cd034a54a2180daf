/-
  Whether a flash has few bytes, and a flash in memory of its own, by the laws' text. Conditions: at most 20000 bytes each, where a theorem says so.
-/
import Derived.Test.YtdljmpaabpkmkaaDoorGa
import Derived.Test.YtdljmpaabpkmkaaDoorFw
import Derived.Deep.RegionLawGrows
namespace Go.Proofs.YtdljmpaabpkmkaaDoor.Fls
set_option maxRecDepth 100000
open Go.ChangeShapes Go.WideShapes Go.ChangeAt Go.RowKit
open Go.Proofs.YtdljmpaabpkmkaaDoor.Divs Go.Proofs.YtdljmpaabpkmkaaDoor.Grow Go.Proofs.YtdljmpaabpkmkaaDoor.By Go.Proofs.YtdljmpaabpkmkaaDoor.Wi Go.Proofs.YtdljmpaabpkmkaaDoor.Fa Go.Proofs.YtdljmpaabpkmkaaDoor.Each

theorem few_any (a b : List Int) (v : Value) (w : World) (hs : Fv w v a b) : Calls Tryd.prog 9 #[v] w fun e w' => e = .returned (.bool (decide (a.length ≤ 5000) && decide (b.length ≤ 5000))) ∧ Later w w' := by
  obtain ⟨x, y, rfl, hx, hy⟩ := hs
  obtain ⟨a1, k1, rfl, _⟩ := hx.len
  obtain ⟨a2, k2, rfl, _⟩ := hy.len
  clear hx hy
  generalize a.length = la at *
  generalize b.length = lb at *
  by_cases h1 : la ≤ 5000
  · by_cases h2 : lb ≤ 5000
    · have e : (decide (la ≤ 5000) && decide (lb ≤ 5000)) = true := by simp [h1, h2]
      have k1 : (la : Int) ≤ 5000 := by omega
      have k2 : (lb : Int) ≤ 5000 := by omega
      rw [e]
      clear e h1 h2
      go_enter Tryd.func9, Tryd.ntmps9
      go_wp2
      go_ret
      exact ⟨rfl, (Later.refl w).put _⟩
    · have e : (decide (la ≤ 5000) && decide (lb ≤ 5000)) = false := by simp [h2]
      have k1 : (la : Int) ≤ 5000 := by omega
      have k2 : ¬ (lb : Int) ≤ 5000 := by omega
      rw [e]
      clear e h1 h2
      go_enter Tryd.func9, Tryd.ntmps9
      go_wp2
      go_ret
      exact ⟨rfl, (Later.refl w).put _⟩
  · have e : (decide (la ≤ 5000) && decide (lb ≤ 5000)) = false := by simp [h1]
    have k1 : ¬ (la : Int) ≤ 5000 := by omega
    rw [e]
    clear e h1
    go_enter Tryd.func9, Tryd.ntmps9
    go_wp2
    go_ret
    exact ⟨rfl, (Later.refl w).put _⟩

/-- Bytes appended to an empty slice that was just made: new memory, or nothing. -/
theorem wp_own {o : Oper} {a : Act} {W : World} {K : Act → World → Prop} {Q : Exit → Act → World → Prop} (s x : Operand) (ho : o.op = .call { callee := .builtin .append, args := #[s, x], argTypes := #[22, 22] })
    (g : Nat) (hs : a.eval s = .slice (some ⟨g, 0, none⟩) 0 0) (hR : RA W g #[] 5) (u : Value) (ys : List Int) (hx : a.eval x = u) (hy : Sk .u8 W u ys) (hb : ys.length ≤ 100000)
    (h : ∀ v' w', Sk .u8 w' v' ys → Later W w' → K (a.put o.dst v') w') : Oper.wp Tryd.prog o a W K Q := by
  obtain ⟨i0, hi, hz0, hz1, hz2⟩ := info_parts info_byte
  have hown : SL .u8 5 W 0 (.slice (some ⟨g, 0, none⟩) 0 0) [] := ⟨rfl, .inr ⟨g, 0, #[], rfl, Nat.zero_le _, hR, by simp, by simp, by simp, by simp⟩⟩
  have hE : ∀ w', Sk .u8 w' (.slice (some ⟨g, 0, none⟩) 0 0) [] := fun w' => ⟨_, 0, rfl, by simp, by omega, by simp, by simp⟩
  rcases hy.src with ⟨rfl, rfl⟩ | ⟨ad, cap, rfl, hc⟩
  · have hrun := run_append_owned_none (P := Tryd.prog) (w := W) 0 22 o.type 5 i0 1 Tryd.underlying22 hi _ _ _ hown
    unfold Oper.wp
    simp [execOp, ho, resolve, invoke, builtin, hs, hx, hrun, Result.andThen]
    exact h _ _ (hE _) (Later.refl _)
  · rcases Nat.eq_zero_or_pos ys.length with h0 | h0
    · obtain rfl := List.length_eq_zero_iff.1 h0
      have hrun := run_append_room (P := Tryd.prog) (w := W) 22 o.type 5 i0 Tryd.underlying22 hi g 0 0 #[] hR ad 0 cap [] (by simp) (by simp) (by simp) (by simp) (by simp)
      unfold Oper.wp
      simp only [List.length_nil] at hx
      simp [execOp, ho, resolve, invoke, builtin, hs, hx, hrun, Result.andThen]
      refine h _ _ (hE _) ⟨⟨rfl, rfl⟩, rfl, by simp [World.setRow], fun k hk => ?_⟩
      by_cases e : k = g
      · subst e
        exact (setRow_heap W k #[] _ 5 _ hR).trans hR.symm
      · exact setRow_other W g k #[] e
    · have key := step_append_grows (P := Tryd.prog) (ops := #[]) (o := { o with guard := none }) (E := True) (K := K) (Q := Q) (w := W) (a := a) rfl s x 22 ho 5 i0 (.int .u8 0) 1 1 Tryd.underlying22 hi hz0 hz1 hz2 rfl (by decide) (some ⟨g, 0, none⟩) 0 0 [] hs (by simp) (by simp) (by intro b e j u hu; simp at hu) ad ys.length cap (ys.map (Value.int .u8)) hx (by simp) hc (by intro u hu; obtain ⟨y, _, rfl⟩ := List.mem_map.1 hu; rfl) (by omega) (by simp only [maxLen]; omega) (by omega) (fun v' w' h1 h2 => h v' w' (by
        have : SL .u8 5 w' W.heap.size v' ys := by
          unfold SL
          rw [Nat.zero_add, List.nil_append] at h1
          exact h1
        exact this.sk) (Later.of_grownBy h2))
      rwa [if_pos (by simp [Region.wanted])] at key

def OV (G : Nat) (a1 a2 : Option Addr) (la lb k1 k2 : Nat) (xa xb : List Int) : Nat → Value → World → Prop
  | 0, v, W => ∃ g, v = .slice (some ⟨g, 0, none⟩) 0 0 ∧ RA W g #[] 5
  | 1, v, _ => v = .pointer (some ⟨G, 0, none⟩)
  | 2, v, _ => v = .slice a1 la k1
  | 3, v, W => ∃ p q, v = .slice p xa.length q ∧ Sk .u8 W v xa
  | 4, v, W => ∃ g, v = .slice (some ⟨g, 0, none⟩) 0 0 ∧ RA W g #[] 5
  | 5, v, _ => v = .pointer (some ⟨G, 1, none⟩)
  | 6, v, _ => v = .slice a2 lb k2
  | 7, v, W => ∃ p q, v = .slice p xb.length q ∧ Sk .u8 W v xb
  | 8, v, W => ∃ p1 p2 q1 q2, v = .agg #[.slice p1 xa.length q1, .slice p2 xb.length q2] ∧ Sk .u8 W (.slice p1 xa.length q1) xa ∧ Sk .u8 W (.slice p2 xb.length q2) xb
  | _, _, _ => True

theorem OV.later (G : Nat) (a1 a2 : Option Addr) (la lb k1 k2 : Nat) (xa xb : List Int) (i : Nat) (v : Value) (W W' : World) (h : OV G a1 a2 la lb k1 k2 xa xb i v W) (g : Later W W') : OV G a1 a2 la lb k1 k2 xa xb i v W' := by
  unfold OV at *
  split at h <;> try exact h
  · exact (let ⟨g0, e, r⟩ := h; ⟨g0, e, r.later g⟩)
  · exact (let ⟨p, q, e, s⟩ := h; ⟨p, q, e, s.later g⟩)
  · exact (let ⟨g0, e, r⟩ := h; ⟨g0, e, r.later g⟩)
  · exact (let ⟨p, q, e, s⟩ := h; ⟨p, q, e, s.later g⟩)
  · exact (let ⟨p1, p2, q1, q2, e, s, t⟩ := h; ⟨p1, p2, q1, q2, e, s.later g, t.later g⟩)

set_option maxHeartbeats 1000000 in
theorem own_any (xa xb : List Int) (na : xa.length ≤ 20000) (nb : xb.length ≤ 20000) (v : Value) (w : World) (hs : Fv w v xa xb) : Calls Tryd.prog 12 #[v] w fun e w' => ∃ u, e = .returned u ∧ Fv w' u xa xb ∧ Later w w' := by
  obtain ⟨x, y, rfl, hx, hy⟩ := hs
  obtain ⟨a1, k1, rfl, _⟩ := hx.len
  obtain ⟨a2, k2, rfl, _⟩ := hy.len
  have HX := Lib.hid hx
  have HY := Lib.hid hy
  have Hxa : Hid (xa.length ≤ 100000) := Lib.hid (by omega)
  have Hxb : Hid (xb.length ≤ 100000) := Lib.hid (by omega)
  clear hx hy na nb
  obtain ⟨la, hla⟩ : ∃ n, xa.length = n := ⟨_, rfl⟩
  obtain ⟨lb, hlb⟩ : ∃ n, xb.length = n := ⟨_, rfl⟩
  rw [hla] at HX ⊢
  rw [hlb] at HY ⊢
  have HLA := Lib.hid hla
  have HLB := Lib.hid hlb
  clear hla hlb
  have HL0 : Hid (Later w ((w.alloc (.cells #[.slice a1 la k1, .slice a2 lb k2] 24)).alloc (.cells #[.slice none 0 0, .slice none 0 0] 24))) := Lib.hid (((Later.refl w).put _).put _)
  have HF0 : Hid (RA ((w.alloc (.cells #[.slice a1 la k1, .slice a2 lb k2] 24)).alloc (.cells #[.slice none 0 0, .slice none 0 0] 24)) w.heap.size #[.slice a1 la k1, .slice a2 lb k2] 24) := Lib.hid ((RA.new w _ _).later ((Later.refl _).put _))
  have HR0 : Hid (RA ((w.alloc (.cells #[.slice a1 la k1, .slice a2 lb k2] 24)).alloc (.cells #[.slice none 0 0, .slice none 0 0] 24)) (w.heap.size + 1) #[.slice none 0 0, .slice none 0 0] 24) := Lib.hid (by
    have := RA.new (w.alloc (.cells #[.slice a1 la k1, .slice a2 lb k2] 24)) #[.slice none 0 0, .slice none 0 0] 24
    rwa [World.size_alloc] at this)
  go_enter Tryd.func12, Tryd.ntmps12
  go_wp2_with fail
  refine region_tail 9 (OV w.heap.size a1 a2 la lb k1 k2 xa xb) (by kernel_rfl) (by kernel_rfl) (by kernel_rfl) (by kernel_rfl) (by decide) (by kernel_rfl) (by kernel_rfl) (OV.later w.heap.size a1 a2 la lb k1 k2 xa xb) ?_ ?_
  · intro i hi
    match i with
    | 0 =>
      intro o ho
      simp only [List.getElem?_toArray, List.getElem?_cons_zero, Option.some.injEq] at ho
      subst ho
      intro a W hl hold hdep
      refine ite_yes rfl ?_
      clear hold hdep
      unfold Oper.wp
      go_simp
      exact ⟨_, rfl, ⟨_, rfl, RA.new _ _ _⟩, (Later.refl _).put _⟩
    | 1 =>
      intro o ho
      simp only [List.getElem?_toArray, List.getElem?_cons_zero, List.getElem?_cons_succ, Option.some.injEq] at ho
      subst ho
      intro a W hl hold hdep
      refine ite_yes rfl ?_
      have h1 : a.tmps[1]? = some (.pointer (some ⟨w.heap.size, 0, none⟩)) := hold 1 (free_of (by kernel_rfl))
      clear hold hdep
      unfold Oper.wp
      go_simp
      exact ⟨_, rfl, rfl, Later.refl _⟩
    | 2 =>
      intro o ho
      simp only [List.getElem?_toArray, List.getElem?_cons_zero, List.getElem?_cons_succ, Option.some.injEq] at ho
      subst ho
      intro a W hl hold hdep
      refine ite_yes rfl ?_
      obtain ⟨_, h4, rfl⟩ := hdep 1 (by decide) _ _ rfl rfl
      have e0 := (HF0.out.later hl).cell 0 _ rfl
      clear hold hdep
      unfold Oper.wp
      go_simp
      exact ⟨_, rfl, rfl, Later.refl _⟩
    | 3 =>
      intro o ho
      simp only [List.getElem?_toArray, List.getElem?_cons_zero, List.getElem?_cons_succ, Option.some.injEq] at ho
      subst ho
      intro a W hl hold hdep
      refine ite_yes rfl ?_
      obtain ⟨_, h3, ⟨g3, rfl, r3⟩⟩ := hdep 0 (by decide) _ _ rfl rfl
      obtain ⟨_, h5, rfl⟩ := hdep 2 (by decide) _ _ rfl rfl
      clear hold hdep
      refine wp_own (.tmp 3) (.tmp 5) rfl g3 (ev h3) r3 _ xa (ev h5) (HX.out.later (gtrans HL0.out hl)) Hxa.out ?_
      intro v1 w1 h1 h2
      obtain ⟨p1, p2, e1, _⟩ := h1.len
      exact ⟨_, rfl, ⟨p1, p2, e1, h1⟩, h2⟩
    | 4 =>
      intro o ho
      simp only [List.getElem?_toArray, List.getElem?_cons_zero, List.getElem?_cons_succ, Option.some.injEq] at ho
      subst ho
      intro a W hl hold hdep
      refine ite_yes rfl ?_
      clear hold hdep
      unfold Oper.wp
      go_simp
      exact ⟨_, rfl, ⟨_, rfl, RA.new _ _ _⟩, (Later.refl _).put _⟩
    | 5 =>
      intro o ho
      simp only [List.getElem?_toArray, List.getElem?_cons_zero, List.getElem?_cons_succ, Option.some.injEq] at ho
      subst ho
      intro a W hl hold hdep
      refine ite_yes rfl ?_
      have h1 : a.tmps[1]? = some (.pointer (some ⟨w.heap.size, 0, none⟩)) := hold 1 (free_of (by kernel_rfl))
      clear hold hdep
      unfold Oper.wp
      go_simp
      exact ⟨_, rfl, rfl, Later.refl _⟩
    | 6 =>
      intro o ho
      simp only [List.getElem?_toArray, List.getElem?_cons_zero, List.getElem?_cons_succ, Option.some.injEq] at ho
      subst ho
      intro a W hl hold hdep
      refine ite_yes rfl ?_
      obtain ⟨_, h8, rfl⟩ := hdep 5 (by decide) _ _ rfl rfl
      have e1 := (HF0.out.later hl).cell 1 _ rfl
      clear hold hdep
      unfold Oper.wp
      go_simp
      exact ⟨_, rfl, rfl, Later.refl _⟩
    | 7 =>
      intro o ho
      simp only [List.getElem?_toArray, List.getElem?_cons_zero, List.getElem?_cons_succ, Option.some.injEq] at ho
      subst ho
      intro a W hl hold hdep
      refine ite_yes rfl ?_
      obtain ⟨_, h7, ⟨g7, rfl, r7⟩⟩ := hdep 4 (by decide) _ _ rfl rfl
      obtain ⟨_, h9, rfl⟩ := hdep 6 (by decide) _ _ rfl rfl
      clear hold hdep
      refine wp_own (.tmp 7) (.tmp 9) rfl g7 (ev h7) r7 _ xb (ev h9) (HY.out.later (gtrans HL0.out hl)) Hxb.out ?_
      intro v1 w1 h1 h2
      obtain ⟨p1, p2, e1, _⟩ := h1.len
      exact ⟨_, rfl, ⟨p1, p2, e1, h1⟩, h2⟩
    | 8 =>
      intro o ho
      simp only [List.getElem?_toArray, List.getElem?_cons_zero, List.getElem?_cons_succ, Option.some.injEq] at ho
      subst ho
      intro a W hl hold hdep
      refine ite_yes rfl ?_
      obtain ⟨_, h6, ⟨p6, q6, rfl, s6⟩⟩ := hdep 3 (by decide) _ _ rfl rfl
      obtain ⟨_, h10, ⟨p10, q10, rfl, s10⟩⟩ := hdep 7 (by decide) _ _ rfl rfl
      clear hold hdep
      unfold Oper.wp
      go_simp
      exact ⟨_, rfl, ⟨p6, p10, q6, q10, rfl, s6, s10⟩, Later.refl _⟩
    | k + 9 => exact absurd hi (by simp)
  · intro a W hl hd hz hold hall
    have k0 : a.tmps[0]? = some (.agg #[.slice a1 la k1, .slice a2 lb k2]) := hold 0 (fun j q _ => free_of (by kernel_rfl) j q)
    have k1 : a.tmps[1]? = some (.pointer (some ⟨w.heap.size, 0, none⟩)) := hold 1 (fun j q _ => free_of (by kernel_rfl) j q)
    have k2 : a.tmps[2]? = some (.pointer (some ⟨w.heap.size + 1, 0, none⟩)) := hold 2 (fun j q _ => free_of (by kernel_rfl) j q)
    obtain ⟨_, k11, ⟨p1, p2, q1, q2, rfl, s1, s2⟩⟩ := hall 8 _ _ (by decide) rfl rfl
    have ha := act_eta a 12 [] hz hd
    rw [show (List.range 12).map (fun s => a.tmps.getD s undef) = [a.tmps.getD 0 undef, a.tmps.getD 1 undef, a.tmps.getD 2 undef, a.tmps.getD 3 undef, a.tmps.getD 4 undef, a.tmps.getD 5 undef, a.tmps.getD 6 undef, a.tmps.getD 7 undef, a.tmps.getD 8 undef, a.tmps.getD 9 undef, a.tmps.getD 10 undef, a.tmps.getD 11 undef] from rfl, getD_of k0, getD_of k1, getD_of k2, getD_of k11] at ha
    rw [ha]
    clear hall hold hz hd ha k0 k1 k2 k11
    generalize a.tmps.getD 3 undef = x3
    generalize a.tmps.getD 4 undef = x4
    generalize a.tmps.getD 5 undef = x5
    generalize a.tmps.getD 6 undef = x6
    generalize a.tmps.getD 7 undef = x7
    generalize a.tmps.getD 8 undef = x8
    generalize a.tmps.getD 9 undef = x9
    generalize a.tmps.getD 10 undef = x10
    simp only [List.drop_succ_cons, List.drop_zero]
    have HG := Lib.hid (gtrans HL0.out hl)
    have HR1 := Lib.hid (HR0.out.later hl)
    have HS1 := Lib.hid s1
    have HS2 := Lib.hid s2
    have c0 := HR1.out.cell 0 _ rfl
    have c1 := HR1.out.cell 1 _ rfl
    have f0 := HR1.out.froz 0
    have f1 := HR1.out.froz 1
    clear hl s1 s2
    go_wp2_with fail
    refine bodyPost_ret (results_r (P := Tryd.prog) (fn := Tryd.f12) Tryd.results12 _ _ (w.heap.size + 1) 24 _ _ rfl (HR1.out.set2 _ _) Tryd.underlying24 rfl (by kernel_rfl)) rfl ?_
    exact ⟨_, rfl, ⟨_, _, rfl, sk_out HS1.out HR1.out (nb2 _ _ _ _ _ _) (Out.set2 _ _ _ _), sk_out HS2.out HR1.out (nb2 _ _ _ _ _ _) (Out.set2 _ _ _ _)⟩, later_set2 HG.out (by omega) _ _⟩

end Go.Proofs.YtdljmpaabpkmkaaDoor.Fls
