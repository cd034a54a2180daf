/-
  The flash in which a slot that is chosen has bytes up to a cut, by the program. Conditions: at most 20000 bytes each.
-/
import Derived.Test.YtdljmpaabpkmkaaDoorFt
import Derived.Test.YtdljmpaabpkmkaaDoorEb
import Derived.Laws.Cover1
namespace Go.Proofs.YtdljmpaabpkmkaaDoor.Fls
set_option maxRecDepth 100000
open Go.ChangeShapes Go.WideShapes Go.ChangeAt Go.RowKit
open Go.Proofs.YtdljmpaabpkmkaaDoor.Divs Go.Proofs.YtdljmpaabpkmkaaDoor.Grow Go.Proofs.YtdljmpaabpkmkaaDoor.By Go.Proofs.YtdljmpaabpkmkaaDoor.Wi Go.Proofs.YtdljmpaabpkmkaaDoor.Fa Go.Proofs.YtdljmpaabpkmkaaDoor.Each
open Go.Proofs.YtdljmpaabpkmkaaDoor.Crc (Laid clone_any)

def SV (G : Nat) (a1 a2 : Option Addr) (la lb k1 k2 : Nat) (xa xb : List Int) : Nat → Value → World → Prop
  | 0, v, _ => v = .pointer (some ⟨G, 0, none⟩)
  | 1, v, _ => v = .slice a1 la k1
  | 2, v, W => ∃ p1 p2, v = .slice p1 xa.length p2 ∧ Sk .u8 W v xa
  | 3, v, _ => v = .pointer (some ⟨G, 1, none⟩)
  | 4, v, _ => v = .slice a2 lb k2
  | 5, v, W => ∃ p1 p2, v = .slice p1 xb.length p2 ∧ Sk .u8 W v xb
  | 6, v, W => ∃ p1 p2 q1 q2, v = .agg #[.slice p1 xa.length q1, .slice p2 xb.length q2] ∧ Sk .u8 W (.slice p1 xa.length q1) xa ∧ Sk .u8 W (.slice p2 xb.length q2) xb
  | 7, v, W => ∃ g, v = .pointer (some ⟨g, 0, none⟩) ∧ G < g ∧ G + 1 < g ∧ RA W g #[.slice none 0 0, .slice none 0 0] 75
  | _, _, _ => True

theorem SV.later (G : Nat) (a1 a2 : Option Addr) (la lb k1 k2 : Nat) (xa xb : List Int) (i : Nat) (v : Value) (W W' : World) (h : SV G a1 a2 la lb k1 k2 xa xb i v W) (g : Later W W') : SV G a1 a2 la lb k1 k2 xa xb i v W' := by
  unfold SV at *
  split at h <;> try exact h
  · exact (let ⟨p, q, e, s⟩ := h; ⟨p, q, e, s.later g⟩)
  · exact (let ⟨p, q, e, s⟩ := h; ⟨p, q, e, s.later g⟩)
  · exact (let ⟨p1, p2, q1, q2, e, s, t⟩ := h; ⟨p1, p2, q1, q2, e, s.later g, t.later g⟩)
  · exact (let ⟨g0, e, i, j, r⟩ := h; ⟨g0, e, i, j, r.later g⟩)

set_option maxHeartbeats 2000000 in
theorem writeslot_any (k : FuncId) (o : Nat) (hk : Chose k o) (xa xb xs : List Int) (cut : Int) (na : xa.length ≤ 20000) (nb : xb.length ≤ 20000) (nx : xs.length ≤ 20000) (u v : Value) (w : World) (hs : Fv w u xa xb) (hx : Sk .u8 w v xs) (ho : o = 0 ∨ o = 1) :
    Calls Tryd.prog 24 #[u, .func (.func k) #[] #[], v, .int .i64 cut] w fun e w' => ∃ r, e = .returned (.tuple #[r, .int .i64 ((xs.take cut.toNat).length : Int)]) ∧ Fv w' r (if o = 0 then xs.take cut.toNat else xa) (if o = 0 then xb else xs.take cut.toNat) ∧ Later w w' := by
  obtain ⟨ek, hk⟩ := hk
  have HK := Lib.hid hk
  obtain ⟨x, y, rfl, hx1, hy1⟩ := hs
  obtain ⟨a1, k1, rfl, _⟩ := hx1.len
  obtain ⟨a2, k2, rfl, _⟩ := hy1.len
  obtain ⟨a3, k3, rfl, _⟩ := hx.len
  have KA := Lib.hid (fun W (g : Later w W) => clone_any xa _ W (hx1.later g) na)
  have KB := Lib.hid (fun W (g : Later w W) => clone_any xb _ W (hy1.later g) nb)
  have HX := Lib.hid hx
  have HNX := Lib.hid nx
  clear hk hx1 hy1 na nb hx nx
  obtain ⟨la, hla⟩ : ∃ n, xa.length = n := ⟨_, rfl⟩
  obtain ⟨lb, hlb⟩ : ∃ n, xb.length = n := ⟨_, rfl⟩
  obtain ⟨lc, hlc⟩ : ∃ n, xs.length = n := ⟨_, rfl⟩
  rw [hla] at KA ⊢
  rw [hlb] at KB ⊢
  rw [hlc] at HX HNX ⊢
  have HLC := Lib.hid hlc
  have HLA := Lib.hid hla
  have HLB := Lib.hid hlb
  obtain ⟨M, hM⟩ : ∃ M, (xs.take cut.toNat).length = M := ⟨_, rfl⟩
  have hM' : M = min cut.toNat lc := by rw [← hM, List.length_take, hlc]
  have HM := Lib.hid hM
  have HML : Hid (M ≤ lc) := Lib.hid (by omega)
  rw [hM]
  obtain ⟨C0, hC0⟩ : ∃ C0 : Int, C0 = if 0 > cut then 0 else cut := ⟨_, rfl⟩
  have mx : ∀ W : World, (Builtin.max_ #[3, 3] 3 #[.int .i64 cut, .int .i64 0]).run Tryd.prog W = .ok (.int .i64 C0) W := by
    intro W
    simp [Builtin.max_, Builtin.max2, hC0]
  have mn : ∀ W : World, (Builtin.min_ #[3, 3] 3 #[.int .i64 C0, .int .i64 (lc : Int)]).run Tryd.prog W = .ok (.int .i64 (M : Int)) W := by
    intro W
    have q : (if (lc : Int) < C0 then (lc : Int) else C0) = (M : Int) := by
      rw [hC0]
      split <;> split at * <;> omega
    simp [Builtin.min_, Builtin.min2, q]
  have mk := make_any M (by have := HNX.out; omega)
  clear hla hlb hlc hM hM' hC0
  have HL0 : Hid (Later w ((w.alloc (.cells #[.slice a1 la k1, .slice a2 lb k2] 24)).alloc (.cells #[.slice none 0 0, .slice none 0 0] 24))) := Lib.hid (((Later.refl w).put _).put _)
  have HF0 : Hid (RA ((w.alloc (.cells #[.slice a1 la k1, .slice a2 lb k2] 24)).alloc (.cells #[.slice none 0 0, .slice none 0 0] 24)) w.heap.size #[.slice a1 la k1, .slice a2 lb k2] 24) := Lib.hid ((RA.new w _ _).later ((Later.refl _).put _))
  have HR0 : Hid (RA ((w.alloc (.cells #[.slice a1 la k1, .slice a2 lb k2] 24)).alloc (.cells #[.slice none 0 0, .slice none 0 0] 24)) (w.heap.size + 1) #[.slice none 0 0, .slice none 0 0] 24) := Lib.hid (by
    have := RA.new (w.alloc (.cells #[.slice a1 la k1, .slice a2 lb k2] 24)) #[.slice none 0 0, .slice none 0 0] 24
    rwa [World.size_alloc] at this)
  go_enter Tryd.func24, Tryd.ntmps24
  go_wp2_with fail
  refine region_tail 8 (SV w.heap.size a1 a2 la lb k1 k2 xa xb) (by kernel_rfl) (by kernel_rfl) (by kernel_rfl) (by kernel_rfl) (by decide) (by kernel_rfl) (by kernel_rfl) (SV.later w.heap.size a1 a2 la lb k1 k2 xa xb) ?_ ?_
  · intro i hi
    match i with
    | 0 =>
      intro o ho
      simp only [List.getElem?_toArray, List.getElem?_cons_zero, Option.some.injEq] at ho
      subst ho
      intro a W hl hold hdep
      refine ite_yes rfl ?_
      have h4 : a.tmps[4]? = some (.pointer (some ⟨w.heap.size, 0, none⟩)) := hold 4 (free_of (by kernel_rfl))
      clear hold hdep
      unfold Oper.wp
      go_simp
      exact ⟨_, rfl, rfl, Later.refl _⟩
    | 1 =>
      intro o ho
      simp only [List.getElem?_toArray, List.getElem?_cons_zero, List.getElem?_cons_succ, Option.some.injEq] at ho
      subst ho
      intro a W hl hold hdep
      refine ite_yes rfl ?_
      obtain ⟨_, h13, rfl⟩ := hdep 0 (by decide) _ _ rfl rfl
      have e0 := (HF0.out.later hl).cell 0 _ rfl
      clear hold hdep
      unfold Oper.wp
      go_simp
      exact ⟨_, rfl, rfl, Later.refl _⟩
    | 2 =>
      intro o ho
      simp only [List.getElem?_toArray, List.getElem?_cons_zero, List.getElem?_cons_succ, Option.some.injEq] at ho
      subst ho
      intro a W hl hold hdep
      refine ite_yes rfl ?_
      obtain ⟨_, h14, rfl⟩ := hdep 1 (by decide) _ _ rfl rfl
      clear hold hdep
      unfold Oper.wp
      go_simp
      refine (KA.out _ (gtrans HL0.out hl)).mono ?_
      rintro e w1 ⟨p, rfl, hp, hg1⟩
      obtain ⟨p1, p2, rfl, _⟩ := hp.len
      exact ⟨_, rfl, ⟨p1, p2, rfl, hp⟩, hg1⟩
    | 3 =>
      intro o ho
      simp only [List.getElem?_toArray, List.getElem?_cons_zero, List.getElem?_cons_succ, Option.some.injEq] at ho
      subst ho
      intro a W hl hold hdep
      refine ite_yes rfl ?_
      have h4 : a.tmps[4]? = some (.pointer (some ⟨w.heap.size, 0, none⟩)) := hold 4 (free_of (by kernel_rfl))
      clear hold hdep
      unfold Oper.wp
      go_simp
      exact ⟨_, rfl, rfl, Later.refl _⟩
    | 4 =>
      intro o ho
      simp only [List.getElem?_toArray, List.getElem?_cons_zero, List.getElem?_cons_succ, Option.some.injEq] at ho
      subst ho
      intro a W hl hold hdep
      refine ite_yes rfl ?_
      obtain ⟨_, h16, rfl⟩ := hdep 3 (by decide) _ _ rfl rfl
      have e1 := (HF0.out.later hl).cell 1 _ rfl
      clear hold hdep
      unfold Oper.wp
      go_simp
      exact ⟨_, rfl, rfl, Later.refl _⟩
    | 5 =>
      intro o ho
      simp only [List.getElem?_toArray, List.getElem?_cons_zero, List.getElem?_cons_succ, Option.some.injEq] at ho
      subst ho
      intro a W hl hold hdep
      refine ite_yes rfl ?_
      obtain ⟨_, h17, rfl⟩ := hdep 4 (by decide) _ _ rfl rfl
      clear hold hdep
      unfold Oper.wp
      go_simp
      refine (KB.out _ (gtrans HL0.out hl)).mono ?_
      rintro e w1 ⟨p, rfl, hp, hg1⟩
      obtain ⟨p1, p2, rfl, _⟩ := hp.len
      exact ⟨_, rfl, ⟨p1, p2, rfl, hp⟩, hg1⟩
    | 6 =>
      intro o ho
      simp only [List.getElem?_toArray, List.getElem?_cons_zero, List.getElem?_cons_succ, Option.some.injEq] at ho
      subst ho
      intro a W hl hold hdep
      refine ite_yes rfl ?_
      obtain ⟨_, h15, ⟨p15, q15, rfl, s15⟩⟩ := hdep 2 (by decide) _ _ rfl rfl
      obtain ⟨_, h18, ⟨p18, q18, rfl, s18⟩⟩ := hdep 5 (by decide) _ _ rfl rfl
      clear hold hdep
      unfold Oper.wp
      go_simp
      exact ⟨_, rfl, ⟨p15, p18, q15, q18, rfl, s15, s18⟩, Later.refl _⟩
    | 7 =>
      intro o ho
      simp only [List.getElem?_toArray, List.getElem?_cons_zero, List.getElem?_cons_succ, Option.some.injEq] at ho
      subst ho
      intro a W hl hold hdep
      refine ite_yes rfl ?_
      clear hold hdep
      unfold Oper.wp
      go_simp
      have hz := (gtrans HL0.out hl).size
      have hz2 := hl.size
      simp only [World.size_alloc] at hz2
      exact ⟨_, rfl, ⟨_, rfl, by omega, by omega, RA.new _ _ _⟩, (Later.refl _).put _⟩
    | k + 8 => exact absurd hi (by simp)
  · intro a W hl hd hz hold hall
    have k0 : a.tmps[0]? = some (.agg #[.slice a1 la k1, .slice a2 lb k2]) := hold 0 (fun j q _ => free_of (by kernel_rfl) j q)
    have k1 : a.tmps[1]? = some (.func (.func k) #[] #[]) := hold 1 (fun j q _ => free_of (by kernel_rfl) j q)
    have k2 : a.tmps[2]? = some (.slice a3 lc k3) := hold 2 (fun j q _ => free_of (by kernel_rfl) j q)
    have k3 : a.tmps[3]? = some (.int .i64 cut) := hold 3 (fun j q _ => free_of (by kernel_rfl) j q)
    have k4 : a.tmps[4]? = some (.pointer (some ⟨w.heap.size, 0, none⟩)) := hold 4 (fun j q _ => free_of (by kernel_rfl) j q)
    have k8 : a.tmps[8]? = some (.pointer (some ⟨w.heap.size + 1, 0, none⟩)) := hold 8 (fun j q _ => free_of (by kernel_rfl) j q)
    have k9 : a.tmps[9]? = some (.int .i64 0) := hold 9 (fun j q _ => free_of (by kernel_rfl) j q)
    obtain ⟨_, k10, ⟨g10, rfl, i10, j10, r10⟩⟩ := hall 7 _ _ (by decide) rfl rfl
    obtain ⟨_, k19, ⟨p1, p2, q1, q2, rfl, s1, s2⟩⟩ := hall 6 _ _ (by decide) rfl rfl
    have ha := act_eta a 35 [] hz hd
    rw [show (List.range 35).map (fun s => a.tmps.getD s undef) = [a.tmps.getD 0 undef, a.tmps.getD 1 undef, a.tmps.getD 2 undef, a.tmps.getD 3 undef, a.tmps.getD 4 undef, a.tmps.getD 5 undef, a.tmps.getD 6 undef, a.tmps.getD 7 undef, a.tmps.getD 8 undef, a.tmps.getD 9 undef, a.tmps.getD 10 undef, a.tmps.getD 11 undef, a.tmps.getD 12 undef, a.tmps.getD 13 undef, a.tmps.getD 14 undef, a.tmps.getD 15 undef, a.tmps.getD 16 undef, a.tmps.getD 17 undef, a.tmps.getD 18 undef, a.tmps.getD 19 undef, a.tmps.getD 20 undef, a.tmps.getD 21 undef, a.tmps.getD 22 undef, a.tmps.getD 23 undef, a.tmps.getD 24 undef, a.tmps.getD 25 undef, a.tmps.getD 26 undef, a.tmps.getD 27 undef, a.tmps.getD 28 undef, a.tmps.getD 29 undef, a.tmps.getD 30 undef, a.tmps.getD 31 undef, a.tmps.getD 32 undef, a.tmps.getD 33 undef, a.tmps.getD 34 undef] from rfl, getD_of k0, getD_of k1, getD_of k2, getD_of k3, getD_of k4, getD_of k8, getD_of k9, getD_of k10, getD_of k19] at ha
    rw [ha]
    clear hall hold hz hd ha k0 k1 k2 k3 k4 k8 k9 k10 k19
    generalize a.tmps.getD 5 undef = x5
    generalize a.tmps.getD 6 undef = x6
    generalize a.tmps.getD 7 undef = x7
    generalize a.tmps.getD 11 undef = x11
    generalize a.tmps.getD 12 undef = x12
    generalize a.tmps.getD 13 undef = x13
    generalize a.tmps.getD 14 undef = x14
    generalize a.tmps.getD 15 undef = x15
    generalize a.tmps.getD 16 undef = x16
    generalize a.tmps.getD 17 undef = x17
    generalize a.tmps.getD 18 undef = x18
    generalize a.tmps.getD 20 undef = x20
    generalize a.tmps.getD 21 undef = x21
    generalize a.tmps.getD 22 undef = x22
    generalize a.tmps.getD 23 undef = x23
    generalize a.tmps.getD 24 undef = x24
    generalize a.tmps.getD 25 undef = x25
    generalize a.tmps.getD 26 undef = x26
    generalize a.tmps.getD 27 undef = x27
    generalize a.tmps.getD 28 undef = x28
    generalize a.tmps.getD 29 undef = x29
    generalize a.tmps.getD 30 undef = x30
    generalize a.tmps.getD 31 undef = x31
    generalize a.tmps.getD 32 undef = x32
    generalize a.tmps.getD 33 undef = x33
    generalize a.tmps.getD 34 undef = x34
    simp only [List.drop_succ_cons, List.drop_zero]
    rw [HLA.out] at s1
    rw [HLB.out] at s2
    rw [HLA.out, HLB.out]
    have HGa := Lib.hid (gtrans HL0.out hl)
    have HR1 := Lib.hid (HR0.out.later hl)
    have HS1 := Lib.hid s1
    have HS2 := Lib.hid s2
    have HR10 := Lib.hid r10
    have HI := Lib.hid i10
    have HJ := Lib.hid j10
    have c0 := r10.cell 0 _ rfl
    have c1 := r10.cell 1 _ rfl
    have f0 := r10.froz 0
    have f1 := r10.froz 1
    have hS : ((W.setCell ⟨g10, 0, none⟩ (.slice p1 la q1)).setCell ⟨g10, 1, none⟩ (.slice p2 lb q2)).heap.size = W.heap.size := by simp [World.setCell]
    have HLS : Hid (Later w ((W.setCell ⟨g10, 0, none⟩ (.slice p1 la q1)).setCell ⟨g10, 1, none⟩ (.slice p2 lb q2))) := Lib.hid (later_set2 HGa.out (by omega) _ _)
    have HLA1 : Hid (Later ((W.setCell ⟨g10, 0, none⟩ (.slice p1 la q1)).setCell ⟨g10, 1, none⟩ (.slice p2 lb q2)) (((W.setCell ⟨g10, 0, none⟩ (.slice p1 la q1)).setCell ⟨g10, 1, none⟩ (.slice p2 lb q2)).alloc (.cells (zb M).toArray 5))) := Lib.hid ((Later.refl _).put _)
    have HP : Hid ((((W.setCell ⟨g10, 0, none⟩ (.slice p1 la q1)).setCell ⟨g10, 1, none⟩ (.slice p2 lb q2)).alloc (.cells (zb M).toArray 5)).heap[W.heap.size]? = some (.cells (zb M).toArray 5 (0, 0))) := Lib.hid (by rw [← hS]; exact heap_alloc_new _ _)
    have HRS : Hid (RA ((W.setCell ⟨g10, 0, none⟩ (.slice p1 la q1)).setCell ⟨g10, 1, none⟩ (.slice p2 lb q2)) g10 #[.slice p1 la q1, .slice p2 lb q2] 75) := Lib.hid (HR10.out.set2 _ _)
    have HT1 : Hid (Sk .u8 ((W.setCell ⟨g10, 0, none⟩ (.slice p1 la q1)).setCell ⟨g10, 1, none⟩ (.slice p2 lb q2)) (.slice p1 la q1) xa) := Lib.hid (sk_out HS1.out HR10.out (nb2 _ _ _ _ _ _) (Out.set2 _ _ _ _))
    have HT2 : Hid (Sk .u8 ((W.setCell ⟨g10, 0, none⟩ (.slice p1 la q1)).setCell ⟨g10, 1, none⟩ (.slice p2 lb q2)) (.slice p2 lb q2) xb) := Lib.hid (sk_out HS2.out HR10.out (nb2 _ _ _ _ _ _) (Out.set2 _ _ _ _))
    have HRR : Hid (RA ((W.setCell ⟨g10, 0, none⟩ (.slice p1 la q1)).setCell ⟨g10, 1, none⟩ (.slice p2 lb q2)) (w.heap.size + 1) #[.slice none 0 0, .slice none 0 0] 24) := Lib.hid ((HR1.out.other (by omega) 0 _).other (by omega) 1 _)
    have HSZ := Lib.hid hS
    obtain ⟨cs, hcs⟩ : ∃ cs, cs = (xs.take cut.toNat).map (Value.int .u8) := ⟨_, rfl⟩
    have HCL : Hid (cs.length = M) := Lib.hid (by rw [hcs, List.length_map, HM.out])
    have HCO : Hid (∀ v ∈ cs, v.oneCell' = true) := Lib.hid (by
      intro v hv
      rw [hcs] at hv
      obtain ⟨x, _, rfl⟩ := List.mem_map.1 hv
      rfl)
    have HPOS : Hid (0 < cs.length → ∃ ad, a3 = some ad ∧ ∀ j v, cs[j]? = some v → (((W.setCell ⟨g10, 0, none⟩ (.slice p1 la q1)).setCell ⟨g10, 1, none⟩ (.slice p2 lb q2)).alloc (.cells (zb M).toArray 5)).cell? (ad.add j) = some v) := Lib.hid (by
      intro h0
      have hk := HX.out.later (gtrans HLS.out HLA1.out)
      rw [HCL.out] at h0
      rcases hk.src with ⟨e, rfl⟩ | ⟨ad, cap, e, hc⟩
      · have := HM.out
        simp at this
        omega
      · simp only [Value.slice.injEq] at e
        refine ⟨ad, e.1, fun j v hv => hc j v ?_⟩
        rw [hcs] at hv
        rw [List.getElem?_map] at hv ⊢
        have hj : j < cut.toNat := by
          rcases Nat.lt_or_ge j cut.toNat with h | h
          · exact h
          · rw [List.getElem?_eq_none (by rw [List.length_take]; omega)] at hv
            simp at hv
        rwa [List.getElem?_take_of_lt hj] at hv)
    have HC := Lib.hid hcs
    have HNE : Hid (w.heap.size + 1 ≠ g10) := Lib.hid (by omega)
    clear hl s1 s2 r10 hS hcs
    go_wp2_with (with_reducible refine wpList_copy_splice rfl (.tmp 26) (.tmp 27) 22 22 rfl 5 Tryd.underlying22 (by kernel_rfl) _ _ _ _ _ _ rfl rfl W.heap.size 0 (zb M) 5 HP.out cs (by rw [HCL.out]; have := HML.out; exact (Nat.min_eq_right this).symm) (fun h => ⟨rfl, HPOS.out h⟩) (by rw [HCL.out]; simp [zb]) HCO.out ((W.setCell ⟨g10, 0, none⟩ (.slice p1 la q1)).setCell ⟨g10, 1, none⟩ (.slice p2 lb q2)).heap.size ((W.setCell ⟨g10, 0, none⟩ (.slice p1 la q1)).setCell ⟨g10, 1, none⟩ (.slice p2 lb q2)) HLA1.out.below (by rw [HSZ.out]; exact Nat.le_refl _) ?_; intro w2 HG2 hB2)
    rw [HCL.out]
    have HL2 := Lib.hid (Later.of_below hB2)
    have HR102 := Lib.hid (HRS.out.later HL2.out)
    have HR2 := Lib.hid (HRR.out.later HL2.out)
    have HT1 := Lib.hid (HT1.out.later HL2.out)
    have HT2 := Lib.hid (HT2.out.later HL2.out)
    have HG2a := Lib.hid (gtrans HLS.out HL2.out)
    have HNW : Hid (Sk .u8 w2 (.slice (some ⟨W.heap.size, 0, none⟩) M M) (xs.take cut.toNat)) := Lib.hid (by
      have h := Sk.row (k := .u8) (xs := xs.take cut.toNat) (cap := M) HG2.out (fun i x hx => by
        rw [Wire.splice_all M cs HCL.out, HC.out]
        simp only [List.getElem?_toArray]
        rw [List.getElem?_map, hx]
        rfl) (by rw [HM.out]; exact Nat.le_refl _) (by have := HML.out; have := HNX.out; omega)
      rwa [HM.out] at h)
    clear hB2
    refine (HK.out _ _).mono ?_
    rintro e w3 ⟨rfl, rfl⟩
    rcases ho with rfl | rfl
    · have hne := HNE.out
      have c0 := HR102.out.cell 0 _ rfl
      have c1 := HR102.out.cell 1 _ rfl
      have f0 := HR102.out.froz 0
      have f1 := HR102.out.froz 1
      have qc0 := HR2.out.cell 0 _ rfl
      have qc1 := HR2.out.cell 1 _ rfl
      have qf0 := HR2.out.froz 0
      have qf1 := HR2.out.froz 1
      go_wp2_with fail
      have N1 := sk_out HNW.out HR102.out (nb2 _ _ _ _ _ _) ((Out.refl _ w2).set 0 (.slice (some ⟨W.heap.size, 0, none⟩) M M))
      have N2 := sk_out HT2.out HR102.out (nb2 _ _ _ _ _ _) ((Out.refl _ w2).set 0 (.slice (some ⟨W.heap.size, 0, none⟩) M M))
      have R3 := HR2.out.other HNE.out 0 (.slice (some ⟨W.heap.size, 0, none⟩) M M)
      refine bodyPost_ret (results_rt (P := Tryd.prog) (fn := Tryd.f24) Tryd.results24 _ _ (w.heap.size + 1) 24 _ _ _ rfl rfl (R3.set2 _ _) Tryd.underlying24 rfl (by kernel_rfl)) rfl ?_
      exact ⟨_, rfl, ⟨_, _, rfl, sk_out N1 R3 (nb2 _ _ _ _ _ _) (Out.set2 _ _ _ _), sk_out N2 R3 (nb2 _ _ _ _ _ _) (Out.set2 _ _ _ _)⟩, later_set2 (later_set HG2a.out (by omega) _ _) (by omega) _ _⟩
    · have hne := HNE.out
      have c0 := HR102.out.cell 0 _ rfl
      have c1 := HR102.out.cell 1 _ rfl
      have f0 := HR102.out.froz 0
      have f1 := HR102.out.froz 1
      have qc0 := HR2.out.cell 0 _ rfl
      have qc1 := HR2.out.cell 1 _ rfl
      have qf0 := HR2.out.froz 0
      have qf1 := HR2.out.froz 1
      go_wp2_with fail
      have N1 := sk_out HNW.out HR102.out (nb2 _ _ _ _ _ _) ((Out.refl _ w2).set 1 (.slice (some ⟨W.heap.size, 0, none⟩) M M))
      have N2 := sk_out HT1.out HR102.out (nb2 _ _ _ _ _ _) ((Out.refl _ w2).set 1 (.slice (some ⟨W.heap.size, 0, none⟩) M M))
      have R3 := HR2.out.other HNE.out 1 (.slice (some ⟨W.heap.size, 0, none⟩) M M)
      refine bodyPost_ret (results_rt (P := Tryd.prog) (fn := Tryd.f24) Tryd.results24 _ _ (w.heap.size + 1) 24 _ _ _ rfl rfl (R3.set2 _ _) Tryd.underlying24 rfl (by kernel_rfl)) rfl ?_
      exact ⟨_, rfl, ⟨_, _, rfl, sk_out N2 R3 (nb2 _ _ _ _ _ _) (Out.set2 _ _ _ _), sk_out N1 R3 (nb2 _ _ _ _ _ _) (Out.set2 _ _ _ _)⟩, later_set2 (later_set HG2a.out (by omega) _ _) (by omega) _ _⟩

end Go.Proofs.YtdljmpaabpkmkaaDoor.Fls
