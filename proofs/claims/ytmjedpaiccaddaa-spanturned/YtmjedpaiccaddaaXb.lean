/-
  Blocks whose cells are known, results that lie in one; what the calls on single spans and on slices of them answer: a copy, the first span that an instant is in, whether spans may be, whether two rows are the same.  Conditions: as each theorem states.
-/
import Derived.Test.YtmjedpaiccaddaaXa
namespace Go.Proofs.Ytmjedpaiccaddaa.Span
set_option maxRecDepth 100000
open Go.ChangeShapes Go.WideShapes Go.ChangeAt Go.RowKit
open Go.Proofs.Ytmjedpaiccaddaa.Divs Go.Proofs.Ytmjedpaiccaddaa.Grow
open Go.Proofs.Ytmjedpaiccaddaa.By (Sk SL bool_no bool_yes)
open Go.Proofs.Ytmjedpaiccaddaa.Sp

/-- The block g has these cells. -/
def RA (W : World) (g : Nat) (cs : Array Value) (t : TypeId) : Prop := W.heap[g]? = some (.cells cs t (0, 0))

theorem RA.lt {W : World} {g : Nat} {cs : Array Value} {t : TypeId} (h : RA W g cs t) : g < W.heap.size := by
  rcases Nat.lt_or_ge g W.heap.size with k | k
  · exact k
  · unfold RA at h
    rw [Array.getElem?_eq_none k] at h
    simp at h

theorem RA.later {W W' : World} {g : Nat} {cs : Array Value} {t : TypeId} (h : RA W g cs t) (k : Later W W') : RA W' g cs t := (k.2.2.2 g h.lt).trans h

theorem RA.new (W : World) (cs : Array Value) (t : TypeId) : RA (W.alloc (.cells cs t)) W.heap.size cs t := heap_alloc_new _ _

theorem RA.cell {W : World} {g : Nat} {cs : Array Value} {t : TypeId} (h : RA W g cs t) (i : Nat) (v : Value) (hv : cs[i]? = some v) : W.cell? ⟨g, i, none⟩ = some v := by
  unfold RA at h
  simp [World.cell?, h, hv]

theorem RA.froz {W : World} {g : Nat} {cs : Array Value} {t : TypeId} (h : RA W g cs t) (i : Nat) : W.frozen? ⟨g, i, none⟩ = false := by
  unfold RA at h
  simp [World.frozen?, h]

theorem RA.set {W : World} {g : Nat} {cs : Array Value} {t : TypeId} (h : RA W g cs t) (k : Nat) (v : Value) : RA (W.setCell ⟨g, k, none⟩ v) g (cs.setIfInBounds k v) t := by
  unfold RA at *
  simp [World.setCell, Array.getElem?_modify, h]

theorem RA.set4 {W : World} {g : Nat} {t : TypeId} {u0 u1 u2 u3 : Value} (h : RA W g #[u0, u1, u2, u3] t) (v0 v1 v2 v3 : Value) :
    RA ((((W.setCell ⟨g, 0, none⟩ v0).setCell ⟨g, 1, none⟩ v1).setCell ⟨g, 2, none⟩ v2).setCell ⟨g, 3, none⟩ v3) g #[v0, v1, v2, v3] t := by
  have := (((h.set 0 v0).set 1 v1).set 2 v2).set 3 v3
  simpa using this

theorem RA.set2 {W : World} {g : Nat} {t : TypeId} {u0 u1 : Value} (h : RA W g #[u0, u1] t) (v0 v1 : Value) :
    RA ((W.setCell ⟨g, 0, none⟩ v0).setCell ⟨g, 1, none⟩ v1) g #[v0, v1] t := by
  have := (h.set 0 v0).set 1 v1
  simpa using this

/-- A new block's cells may be set. -/
theorem later_set {w W : World} (h : Later w W) {g : Nat} (hg : w.heap.size ≤ g) (k : Nat) (v : Value) : Later w (W.setCell ⟨g, k, none⟩ v) := h.setCell (by exact hg) v

theorem later_set4 {w W : World} (h : Later w W) {g : Nat} (hg : w.heap.size ≤ g) (v0 v1 v2 v3 : Value) : Later w ((((W.setCell ⟨g, 0, none⟩ v0).setCell ⟨g, 1, none⟩ v1).setCell ⟨g, 2, none⟩ v2).setCell ⟨g, 3, none⟩ v3) :=
  later_set (later_set (later_set (later_set h hg _ _) hg _ _) hg _ _) hg _ _

theorem later_set2 {w W : World} (h : Later w W) {g : Nat} (hg : w.heap.size ≤ g) (v0 v1 : Value) : Later w ((W.setCell ⟨g, 0, none⟩ v0).setCell ⟨g, 1, none⟩ v1) :=
  later_set (later_set h hg _ _) hg _ _

/-- Results: a struct in a block; with a slot behind it; with two. -/
theorem results_r {P : Program} {fn : Func} {p : Tmp} {ty : TypeId} (h : fn.results = #[.cell p ty]) (tmps : Array Value) (w : World) (g : Nat) (t : TypeId) (cs : Array Value) (d : TypeDesc)
    (hp : tmps.getD p undef = .pointer (some ⟨g, 0, none⟩)) (hg : RA w g cs t)
    (hu : P.underlying ty = some d) (hd : (match d with | .struct _ | .array _ _ => true | _ => false) = true) (hi : (P.info? ty).map (·.size) = some cs.size) :
    (results fn tmps).run P w = .ok (.agg cs) w := by
  have hp' : tmps[p]?.getD undef = .pointer (some ⟨g, 0, none⟩) := by simpa using hp
  simp [results, h, hp', asAddr, run_loadVar_row w g t ty cs (0, 0) d hg hu hd hi]

theorem results_rt {P : Program} {fn : Func} {p q : Tmp} {ty : TypeId} (h : fn.results = #[.cell p ty, .tmp q]) (tmps : Array Value) (w : World) (g : Nat) (t : TypeId) (cs : Array Value) (d : TypeDesc) (v : Value)
    (hp : tmps.getD p undef = .pointer (some ⟨g, 0, none⟩)) (hq : tmps.getD q undef = v) (hg : RA w g cs t)
    (hu : P.underlying ty = some d) (hd : (match d with | .struct _ | .array _ _ => true | _ => false) = true) (hi : (P.info? ty).map (·.size) = some cs.size) :
    (results fn tmps).run P w = .ok (.tuple #[.agg cs, v]) w := by
  have hp' : tmps[p]?.getD undef = .pointer (some ⟨g, 0, none⟩) := by simpa using hp
  have hq' : tmps[q]?.getD undef = v := by simpa using hq
  simp [results, h, hp', hq', asAddr, run_loadVar_row w g t ty cs (0, 0) d hg hu hd hi]

theorem results_rtt {P : Program} {fn : Func} {p q s : Tmp} {ty : TypeId} (h : fn.results = #[.cell p ty, .tmp q, .tmp s]) (tmps : Array Value) (w : World) (g : Nat) (t : TypeId) (cs : Array Value) (d : TypeDesc) (v u : Value)
    (hp : tmps.getD p undef = .pointer (some ⟨g, 0, none⟩)) (hq : tmps.getD q undef = v) (hs : tmps.getD s undef = u) (hg : RA w g cs t)
    (hu : P.underlying ty = some d) (hd : (match d with | .struct _ | .array _ _ => true | _ => false) = true) (hi : (P.info? ty).map (·.size) = some cs.size) :
    (results fn tmps).run P w = .ok (.tuple #[.agg cs, v, u]) w := by
  have hp' : tmps[p]?.getD undef = .pointer (some ⟨g, 0, none⟩) := by simpa using hp
  have hq' : tmps[q]?.getD undef = v := by simpa using hq
  have hs' : tmps[s]?.getD undef = u := by simpa using hs
  simp [results, h, hp', hq', hs', asAddr, run_loadVar_row w g t ty cs (0, 0) d hg hu hd hi]

/-- No span. -/
def z4 : Sp := ⟨0, 0, 0, 0⟩

/-- The first one that an instant is in, and whether there is one. -/
def av (l : List Sp) (t : Int) : Sp := (fi l t).getD z4
def ab (l : List Sp) (t : Int) : Bool := (fi l t).isSome

theorem take_at {l : List Sp} {k : Nat} {x : Sp} (h : l[k]? = some x) : l.take (k + 1) = l.take k ++ [x] := by
  obtain ⟨hk, rfl⟩ := List.getElem?_eq_some_iff.1 h
  exact take_more l k hk

theorem fi_out {l : List Sp} {t : Int} {k : Nat} {x : Sp} (hk : l[k]? = some x) (h : fi (l.take k) t = none) (hx : t < x.f ∨ x.t ≤ t) : fi (l.take (k + 1)) t = none := by
  rw [take_at hk, fi_snoc, h, if_neg (by omega)]; rfl

theorem fi_hit {l : List Sp} {t : Int} {k : Nat} {x : Sp} (hk : l[k]? = some x) (h : fi (l.take k) t = none) (hx : x.f ≤ t ∧ t < x.t) : fi l t = some x := by
  have e : l = l.take (k + 1) ++ l.drop (k + 1) := (List.take_append_drop _ _).symm
  have h1 : fi (l.take (k + 1)) t = some x := by rw [take_at hk, fi_snoc, h, if_pos hx]; rfl
  conv => lhs; rw [e]
  unfold fi at *
  rw [List.find?_append, h1]; rfl

theorem fi_miss {l : List Sp} {t : Int} {k : Nat} (hk : l.length ≤ k) (h : fi (l.take k) t = none) : fi l t = none := by rwa [List.take_of_length_le hk] at h

theorem at_post {l : List Sp} {t : Int} {o : Option Sp} (h : fi l t = o) : av l t = o.getD z4 ∧ ab l t = o.isSome := by unfold av ab; rw [h]; exact ⟨rfl, rfl⟩

theorem own_any (v : Value) (l : List Sp) (w : World) (h : Ws w v l) (hb : l.length ≤ 100000) :
    Calls Try.prog 11 #[v] w fun e w' => ∃ v', e = .returned v' ∧ WL w' w.heap.size v' l ∧ Later w w' := by
  have HS := Lib.hid (h.later ((Later.refl w).alloc #[] 31))
  clear h
  go_enter Try.func11, Try.ntmps11
  go_wp2_with (refine append_spans rfl (.tmp 3) (.tmp 4) rfl w ((Later.refl w).alloc _ _) _ [] rfl (WL.made w w (Later.refl w)) v l rfl HS.out (by simpa using hb) ?_; intro v' w1 hw hl _; have HW := Lib.hid hw; have HL := Lib.hid hl; clear hw hl)
  go_ret
  exact ⟨_, rfl, by simpa using HW.out, HL.out⟩

set_option maxHeartbeats 2000000 in
theorem at_any (v : Value) (l : List Sp) (t : Int) (w : World) (h : Ws w v l) :
    Calls Try.prog 15 #[v, .int .i64 t] w fun e w' => e = .returned (.tuple #[.agg (sc (av l t)).toArray, .bool (ab l t)]) ∧ Later w w' := by
  obtain ⟨S, hS⟩ : ∃ S, S = av l t := ⟨_, rfl⟩
  obtain ⟨B, hB⟩ : ∃ B, B = ab l t := ⟨_, rfl⟩
  rw [← hS, ← hB]
  have HP : Hid (∀ o, fi l t = o → S = o.getD z4 ∧ B = o.isSome) := Lib.hid (fun o ho => by rw [hS, hB]; exact at_post ho)
  clear hS hB
  have HR0 := Lib.hid (RA.new w #[.int .i64 0, .int .i64 0, .int .i64 0, .int .i64 0] 31)
  have HG0 := Lib.hid ((Later.refl w).alloc #[.int .i64 0, .int .i64 0, .int .i64 0, .int .i64 0] 31)
  obtain ⟨n, hn⟩ : ∃ n, l.length = n := ⟨_, rfl⟩
  have HN := Lib.hid hn
  rcases Nat.eq_zero_or_pos n with h0 | h0
  · obtain ⟨ad, cap, rfl, hm⟩ := h.len
    rw [hn] at hm ⊢
    subst h0
    have HV := Lib.hid (HP.out none (fi_miss (k := 0) (by omega) rfl))
    clear h hn
    go_enter Try.func15, Try.ntmps15
    go_wp2_with fail
    refine wp_loop_rounds 1 ?_
    rw [rounds_succ]
    go_wp2
    refine bodyPost_ret (results_rt (P := Try.prog) (fn := Try.f15) Try.results15 _ _ w.heap.size 31 _ _ _ rfl rfl HR0.out Try.underlying31 rfl (by kernel_rfl)) rfl ?_
    rw [HV.out.1, HV.out.2]
    exact ⟨rfl, HG0.out⟩
  · obtain ⟨b, off, cap, rfl, hm1, hm2, hb, hc⟩ := h.has (by omega)
    rw [hn] at hm1 ⊢
    have HC := Lib.hid hc
    clear h hn hc
    have ad : ∀ j, (⟨b, off, none⟩ : Addr).add j = ⟨b, off + j, none⟩ := Addr.add_mid b off
    go_enter Try.func15, Try.ntmps15
    go_wp2_with fail
    go_loopw [10] (fun i wr => ∃ k : Nat, k ≤ n ∧ i = .int .i64 (k : Int) ∧ fi (l.take k) t = none ∧ RA wr w.heap.size #[.int .i64 0, .int .i64 0, .int .i64 0, .int .i64 0] 31 ∧ Later w wr) (fun i _ => n - (intOf i).toNat)
    case atStart => exact ⟨0, by omega, rfl, rfl, HR0.out, HG0.out⟩
    case round =>
      obtain ⟨k, hk, rfl, hj, hr, hg⟩ := hrel
      have HR := Lib.hid hr
      have HG := Lib.hid hg
      have HJ := Lib.hid hj
      clear hr hg hj
      by_cases hlt : k < n
      · obtain ⟨x, hx⟩ : ∃ x, l[k]? = some x := ⟨_, List.getElem?_eq_getElem (by rw [HN.out]; exact hlt)⟩
        have HX := Lib.hid hx
        obtain ⟨c0, c1, c2, c3⟩ := (HC.out k x hx).later HG.out
        clear hx
        have hkz : (k : Int) < (n : Int) := by omega
        have HR1 := Lib.hid (HR.out.later ((Later.refl wr).alloc #[.int .i64 x.f, .int .i64 x.t, .int .i64 x.m, .int .i64 x.p] 31))
        have HG1 := Lib.hid (HG.out.alloc #[.int .i64 x.f, .int .i64 x.t, .int .i64 x.m, .int .i64 x.p] 31)
        by_cases t1 : x.f ≤ t
        · by_cases t2 : t < x.t
          · have HV := Lib.hid (HP.out (some x) (fi_hit HX.out HJ.out ⟨t1, t2⟩))
            have r0 := HR1.out.cell 0 _ rfl
            have r1 := HR1.out.cell 1 _ rfl
            have r2 := HR1.out.cell 2 _ rfl
            have r3 := HR1.out.cell 3 _ rfl
            have f0 := HR1.out.froz 0
            have f1 := HR1.out.froz 1
            have f2 := HR1.out.froz 2
            have f3 := HR1.out.froz 3
            go_wp2
            refine bodyPost_ret (results_rt (P := Try.prog) (fn := Try.f15) Try.results15 _ _ w.heap.size 31 _ _ _ rfl rfl (HR1.out.set4 _ _ _ _) Try.underlying31 rfl (by kernel_rfl)) rfl ?_
            rw [HV.out.1, HV.out.2]
            exact ⟨rfl, later_set4 HG1.out (Nat.le_refl _) _ _ _ _⟩
          · have HV := Lib.hid (fi_out HX.out HJ.out (by omega))
            go_wp2
            go_roundw
            case rel => exact ⟨k + 1, by omega, by go_num, HV.out, HR1.out, HG1.out⟩
            case measure => simp [intOf]; omega
        · have HV := Lib.hid (fi_out HX.out HJ.out (by omega))
          go_wp2
          go_roundw
          case rel => exact ⟨k + 1, by omega, by go_num, HV.out, HR1.out, HG1.out⟩
          case measure => simp [intOf]; omega
      · have HV := Lib.hid (HP.out none (fi_miss (by rw [HN.out]; omega) HJ.out))
        have hkz : ¬ (k : Int) < (n : Int) := by omega
        have r0 := HR.out.cell 0 _ rfl
        have r1 := HR.out.cell 1 _ rfl
        have r2 := HR.out.cell 2 _ rfl
        have r3 := HR.out.cell 3 _ rfl
        have f0 := HR.out.froz 0
        have f1 := HR.out.froz 1
        have f2 := HR.out.froz 2
        have f3 := HR.out.froz 3
        go_wp2
        refine bodyPost_ret (results_rt (P := Try.prog) (fn := Try.f15) Try.results15 _ _ w.heap.size 31 _ _ _ rfl rfl (HR.out.set4 _ _ _ _) Try.underlying31 rfl (by kernel_rfl)) rfl ?_
        rw [HV.out.1, HV.out.2]
        exact ⟨rfl, later_set4 HG.out (Nat.le_refl _) _ _ _ _⟩

end Go.Proofs.Ytmjedpaiccaddaa.Span
