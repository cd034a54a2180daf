/-
  Texts of mine, merged: each part says what it holds. Conditions: as each theorem states.
-/
import Derived.RegionTactic
import Derived.StillTail
import Derived.Test.YtihdijkplmfhfaaGreatDoorM12

/- On which days windows begin, and from when up to when they are, by the program's kinds. Conditions: the table of months lies where the program lays it; the numbers are those of a window that may be, as each theorem says. -/
namespace Go.Proofs.YtihdijkplmfhfaaGreatDoor.Window
set_option maxRecDepth 100000
set_option maxRecDepth 100000
open Go.ChangeShapes Go.WideShapes Go.ChangeAt Go.RowKit
open Go.Proofs.YtihdijkplmfhfaaGreatDoor.Divs Go.Proofs.YtihdijkplmfhfaaGreatDoor.Grow
open Go.Proofs.YtihdijkplmfhfaaGreatDoor.Greg (Laid)
open Go.Proofs.YtihdijkplmfhfaaGreatDoor.Zo Go.Proofs.YtihdijkplmfhfaaGreatDoor.Zone Go.Proofs.YtihdijkplmfhfaaGreatDoor.Win
open Go.Proofs.YtihdijkplmfhfaaGreatDoor.Cf (Cg Wn)
open Go.Proofs.YtihdijkplmfhfaaGreatDoor.Conf (wc cc Is)
open Go.Proofs.YtihdijkplmfhfaaGreatDoor.Fe (kd rst)
open Go.Proofs.YtihdijkplmfhfaaGreatDoor.Su (mV mE sk sa)

theorem i64_and_one (n : Int) : bits .and .i64 n 1 = n % 2 := by
  have h1 : (BitVec.ofInt 64 1).toNat = 2 ^ 1 - 1 := by decide
  have key : (BitVec.ofInt 64 n &&& BitVec.ofInt 64 1).toNat = (n % ((2 ^ 64 : Nat) : Int)).toNat % 2 ^ 1 := by
    rw [BitVec.toNat_and, BitVec.toNat_ofInt, h1, Nat.and_two_pow_sub_one_eq_mod]
  show IntKind.i64.wrap ((BitVec.ofInt 64 n &&& BitVec.ofInt 64 1).toNat : Nat) = _
  rw [key, IntKind.wrap_i64]
  omega

theorem weekly_begins (z : Zn) (u l a d : Int) (w : World) (d0 : -9223372036854775808 ≤ d) (d1 : d ≤ 9223372036854775807) : Calls Tryz.prog 197 #[.agg (wk z u l a), .int .i64 d] w fun e w' => e = .returned (.bool (bit a d)) ∧ Later w w' := by
  have W7 := Lib.hid (fun W => drew_g (Feast.weekday_any d W d0 d1))
  have hc := gw_new w (wk z u l a) 165 12 (.int .i64 a) rfl
  have k0 : 0 ≤ d % 7 := by omega
  have k1 : d % 7 ≤ 6 := by omega
  have HV := Lib.hid (show bit a d = (a / 2 ^ (d % 7).toNat % 2 == 1) from rfl)
  have ha := i64_and_one (a / 2 ^ (d % 7).toNat)
  have HG := Lib.hid ((Later.refl w).alloc (wk z u l a) 165)
  generalize hq : d % 7 = q at *
  clear hq d0 d1
  unfold wk at *
  go_enter Tryz.func197, Tryz.ntmps197
  go_wp2_with fail
  refine region_grown (by kernel_rfl) (by kernel_rfl) ?_
  repeat (go_big_quiet_step ((go_at_call 198; exact in_grown (W7.out _))))
  refine wpQuiet_nil (grown_end ?_)
  intro w2 hg2
  go_wp2_with fail
  go_ret
  exact ⟨retb HV.out.symm, gtrans HG.out hg2⟩

theorem dated_begins (z : Zn) (u l a d : Int) (w : World) : Calls Tryz.prog 199 #[.agg (wk z u l a), .int .i64 d] w fun e w' => e = .returned (.bool (d == a)) ∧ Later w w' := by
  have HG := Lib.hid ((Later.refl w).alloc (wk z u l a) 167)
  unfold wk at *
  go_enter Tryz.func199, Tryz.ntmps199
  go_wp2_with fail
  go_ret
  exact ⟨rfl, HG.out⟩

theorem festive_begins (z : Zn) (u l a h d : Int) (ab : Bool) (w : World) (d0 : 0 ≤ d) (d1 : d ≤ 10000000) (h0 : -7 ≤ h) (h1 : h ≤ 7) : Calls Tryz.prog 200 #[.agg (fk z u l a h ab), .int .i64 d] w fun e w' => e = .returned (.bool (kd ab (d - h) == a)) ∧ Later w w' := by
  have K := Lib.hid (fun W => Feast.kind_any (d - h) ab W)
  have HG := Lib.hid ((Later.refl w).alloc (fk z u l a h ab) 169)
  have hc := gw_new w (fk z u l a h ab) 169 12 (.int .i64 a) rfl
  have hc2 := gw_new w (fk z u l a h ab) 169 13 (.int .i64 h) rfl
  have hc3 := gw_new w (fk z u l a h ab) 169 14 (.bool ab) rfl
  have wr : IntKind.i64.wrap (d - h) = d - h := IntWalk.i64_in _ (by omega)
  unfold fk at *
  go_enter Tryz.func200, Tryz.ntmps200
  go_wp2_with fail
  refine region_grown (by kernel_rfl) (by kernel_rfl) ?_
  repeat (go_big_quiet_step ((go_at_call 201; exact in_grown (K.out _))))
  refine wpQuiet_nil (grown_end ?_)
  intro w2 hg2
  go_wp2_with fail
  go_ret
  exact ⟨rfl, gtrans HG.out hg2⟩

theorem restful_begins (z : Zn) (s : Nat → Int) (ab : Bool) (u l d : Int) (w : World) (d0 : 0 ≤ d) (d1 : d ≤ 10000000) : Calls Tryz.prog 229 #[.agg (rk z s ab u l), .int .i64 d] w fun e w' => e = .returned (.bool (!rst ab d && rst ab (d + 1))) ∧ Later w w' := by
  have K := Lib.hid (fun W => Feast.rest_any d ab W (by omega) (by omega))
  have K1 := Lib.hid (fun W => Feast.rest_any (d + 1) ab W (by omega) (by omega))
  have HG := Lib.hid ((Later.refl w).alloc (rk z s ab u l) 171)
  have HC := Lib.hid (fun W (g : Later (w.alloc (.cells (rk z s ab u l) 171)) W) => gsome g (show (w.alloc (.cells (rk z s ab u l) 171)).cell? ⟨w.heap.size, 22, none⟩ = some (.bool ab) by rw [World.cell?_alloc_new]; rfl))
  cases r0 : rst ab d
  · rw [r0] at K
    have HK := Lib.hid K.out
    clear K r0
    unfold rk at *
    go_enter Tryz.func229, Tryz.ntmps229
    go_wp2_with fail
    refine (HK.out _).mono ?_
    rintro e w1 ⟨rfl, hg1⟩
    have HG1 := Lib.hid hg1
    have c1 := HC.out _ hg1
    clear hg1
    go_wp2_with fail
    refine (K1.out _).mono ?_
    rintro e w2 ⟨rfl, hg2⟩
    have HG2 := Lib.hid hg2
    clear hg2
    go_wp2_with fail
    go_ret
    exact ⟨by simp, gtrans (gtrans HG.out HG1.out) HG2.out⟩
  · rw [r0] at K
    have HK := Lib.hid K.out
    clear K r0
    unfold rk at *
    go_enter Tryz.func229, Tryz.ntmps229
    go_wp2_with fail
    refine (HK.out _).mono ?_
    rintro e w1 ⟨rfl, hg1⟩
    have HG1 := Lib.hid hg1
    clear hg1
    go_wp2_with fail
    go_ret
    exact ⟨by simp, gtrans HG.out HG1.out⟩

theorem hours_ends (z : Zn) (u l d : Int) (w : World) (hL : Laid w) (hz : May z) (d0 : 402 ≤ d) (d1 : d ≤ 3651990) (u0 : 0 ≤ u) (u1 : u ≤ 1439) (l0 : 0 ≤ l) (l1 : l ≤ 1000000) :
    Calls Tryz.prog 196 #[.agg (hk z u l), .int .i64 d] w fun e w' => e = .returned (.tuple #[.int .i64 (mv z (d * 1440 + u)), .int .i64 (mv z (d * 1440 + u) + l)]) ∧ Later w w' := by
  have F := Lib.hid (fun W hW => first_any z d u W hW hz d0 d1 u0 u1)
  have HG := Lib.hid ((Later.refl w).alloc (hk z u l) 163)
  have HL := Lib.hid (hL.grown HG.out)
  have HC := Lib.hid (fun W (g : Later (w.alloc (.cells (hk z u l) 163)) W) => gsome g (show (w.alloc (.cells (hk z u l) 163)).cell? ⟨w.heap.size, 11, none⟩ = some (.int .i64 l) by rw [World.cell?_alloc_new]; rfl))
  have hb := mv_bd z hz (d * 1440 + u) (by omega) (by omega)
  have hv : -100000000 ≤ mv z (d * 1440 + u) ∧ mv z (d * 1440 + u) ≤ 10000000000 := by omega
  obtain ⟨v0, v1⟩ := hv
  generalize mv z (d * 1440 + u) = m at *
  clear hL hz hb d0 d1 u0 u1
  have hw : IntKind.i64.wrap (m + l) = m + l := IntWalk.i64_in _ (by omega)
  unfold hk at *
  unfold zc at F
  go_enter Tryz.func196, Tryz.ntmps196
  go_wp2_with fail
  refine (F.out _ HL.out).mono ?_
  rintro e w1 ⟨rfl, hg1⟩
  have HG1 := Lib.hid hg1
  have c1 := HC.out _ hg1
  clear hg1
  go_wp2_with fail
  go_quiet (fail)
  go_wp2_with fail
  go_ret2
  exact ⟨rfl, gtrans HG.out HG1.out⟩

theorem sunset_any (z : Zn) (s : Nat → Int) (ab : Bool) (u l d : Int) (w : World) (hL : Laid w) : Calls Tryz.prog 233 #[.agg (rk z s ab u l), .int .i64 d] w fun e w' => e = .returned (.int .i64 (mV z s d)) ∧ Later w w' := by
  have K := Lib.hid (fun W hW => Sun.moment_any z s d W hW)
  have HG := Lib.hid ((Later.refl w).alloc (rk z s ab u l) 171)
  have HL := Lib.hid (hL.grown HG.out)
  clear hL
  unfold rk at *
  unfold zc Sun.sc at K
  go_enter Tryz.func233, Tryz.ntmps233
  go_wp2_with fail
  refine (K.out _ HL.out).mono ?_
  rintro e w1 ⟨rfl, hg1⟩
  have HG1 := Lib.hid hg1
  clear hg1
  go_wp2_with fail
  go_ret
  exact ⟨rfl, gtrans HG.out HG1.out⟩

end Go.Proofs.YtihdijkplmfhfaaGreatDoor.Window

/- A region that draws its order, operation by operation: what each one yields, in every world that has grown and whatever else has come up, is told by a relation of its own that lasts; then each order is served by one look at each operation. No condition but those that each theorem states. -/
namespace Go.Proofs.YtihdijkplmfhfaaGreatDoor.Eachn
set_option maxRecDepth 100000
open Go.ChangeShapes Go.WideShapes Go.ChangeAt Go.RowKit
open Go.Proofs.YtihdijkplmfhfaaGreatDoor.Divs Go.Proofs.YtihdijkplmfhfaaGreatDoor.Grow

theorem wpAny_inv {P : Program} {md : Region.Mode} {ops : Array Oper} {Q : Exit → Act → World → Prop} (I : Nat → Array Bool → Act → World → Prop)
    (h0 : ∀ fuel listed a w, I fuel listed a w → Region.ready md ops listed = [] → Q .normal a w) (hz : ∀ listed a w, I 0 listed a w → Region.ready md ops listed = [])
    (hs : ∀ fuel listed a w i, I (fuel + 1) listed a w → i ∈ Region.ready md ops listed → wpOp P ops Q i (fun a' w' => I fuel (listed.setIfInBounds i true) a' w') a w) :
    ∀ fuel listed a w, I fuel listed a w → wpAny P md ops Q fuel listed a w := by
  intro fuel
  induction fuel with
  | zero => exact fun listed a w h => ⟨hz listed a w h, h0 _ _ _ _ h (hz listed a w h)⟩
  | succ fuel ih => exact fun listed a w h => ⟨fun e => h0 _ _ _ _ h e, fun i hi => wpOp_mono (fun a' w' h' => ih _ _ _ h') (hs _ _ _ _ i h hi)⟩

/-- What has come up: its slots hold what V says, the others are as they were. -/
structure Up (ops : Array Oper) (V : Nat → Value → World → Prop) (a0 : Act) (w0 : World) (listed : Array Bool) (a : Act) (w : World) : Prop where
  late : Later w0 w
  defers : a.defers = a0.defers
  size : a.tmps.size = a0.tmps.size
  old : ∀ s, (∀ i o, ops[i]? = some o → o.dst = some s → listed.getD i false = false) → a.tmps[s]? = a0.tmps[s]?
  come : ∀ i o s, ops[i]? = some o → listed.getD i false = true → o.dst = some s → ∃ v, a.tmps[s]? = some v ∧ V i v w

/-- No two operations write one slot, each slot is there, and each operation waits for earlier ones alone. -/
def fitB (ops : Array Oper) (n : Nat) : Bool :=
  (List.range ops.size).all fun i => match ops[i]? with
    | none => true
    | some o => o.after.all (fun e => !Region.binds .any e || decide (e.on < i)) && (match o.dst with
      | none => true
      | some s => decide (s < n) && (List.range ops.size).all fun j => decide (j = i) || (match ops[j]? with
        | none => true
        | some q => !(q.dst == some s)))

theorem fit_low {ops : Array Oper} {n : Nat} (h : fitB ops n = true) {i : Nat} {o : Oper} (ho : ops[i]? = some o) {e : Edge} (he : e ∈ o.after) (hb : Region.binds .any e = true) : e.on < i := by
  have hi : i < ops.size := (Array.getElem?_eq_some_iff.1 ho).1
  have := List.all_eq_true.1 h i (List.mem_range.2 hi)
  rw [ho] at this
  simp only [Bool.and_eq_true] at this
  have := Array.all_eq_true_iff_forall_mem.1 this.1 e he
  simpa [hb] using this

theorem fit_dst {ops : Array Oper} {n : Nat} (h : fitB ops n = true) {i j : Nat} {o q : Oper} {s : Tmp} (ho : ops[i]? = some o) (hq : ops[j]? = some q) (hs : o.dst = some s) (ht : q.dst = some s) : j = i := by
  have hi : i < ops.size := (Array.getElem?_eq_some_iff.1 ho).1
  have hj : j < ops.size := (Array.getElem?_eq_some_iff.1 hq).1
  have := List.all_eq_true.1 h i (List.mem_range.2 hi)
  rw [ho] at this
  simp only [Bool.and_eq_true, hs] at this
  have := List.all_eq_true.1 this.2.2 j (List.mem_range.2 hj)
  rw [hq] at this
  simpa [ht] using this

theorem fit_in {ops : Array Oper} {n : Nat} (h : fitB ops n = true) {i : Nat} {o : Oper} {s : Tmp} (ho : ops[i]? = some o) (hs : o.dst = some s) : s < n := by
  have hi : i < ops.size := (Array.getElem?_eq_some_iff.1 ho).1
  have := List.all_eq_true.1 h i (List.mem_range.2 hi)
  rw [ho] at this
  simp only [Bool.and_eq_true, hs] at this
  simpa using this.2.1

theorem getD_set {listed : Array Bool} {i : Nat} (hi : i < listed.size) (j : Nat) : (listed.setIfInBounds i true).getD j false = (decide (j = i) || listed.getD j false) := by
  by_cases e : j = i
  · subst e
    simp [hi]
  · simp [Array.getElem?_setIfInBounds_ne (Ne.symm e), e]

/-- How many have not come up. -/
def leftN (listed : Array Bool) : Nat := listed.toList.countP (fun b => !b)

theorem count_set : ∀ (l : List Bool) (i : Nat), l[i]? = some false → (l.set i true).countP (fun b => !b) + 1 = l.countP (fun b => !b)
  | [], i, h => by simp at h
  | b :: r, 0, h => by
    simp at h
    subst h
    simp
  | b :: r, i + 1, h => by
    have := count_set r i (by simpa using h)
    simp only [List.set_cons_succ, List.countP_cons]
    omega

theorem left_set {listed : Array Bool} {i : Nat} (h : listed.getD i true = false) : leftN (listed.setIfInBounds i true) + 1 = leftN listed := by
  have hi : i < listed.size := by
    rcases Nat.lt_or_ge i listed.size with h' | h'
    · exact h'
    · simp [Array.getElem?_eq_none h'] at h
  unfold leftN
  rw [Array.toList_setIfInBounds]
  refine count_set _ _ ?_
  simp [hi] at h
  simp [hi, h]

theorem left_none {listed : Array Bool} (h : leftN listed = 0) (i : Nat) : listed.getD i true = true := by
  rcases Nat.lt_or_ge i listed.size with hi | hi
  · have := List.countP_eq_zero.1 h (listed[i]) (by simp)
    simpa [hi] using this
  · simp [Array.getElem?_eq_none hi]

/-- Where nothing is ready, all has come up. -/
theorem all_up {ops : Array Oper} {n : Nat} (hf : fitB ops n = true) {listed : Array Bool} (hz : listed.size = ops.size) (h : Region.ready .any ops listed = []) : ∀ i, i < ops.size → listed.getD i false = true := by
  intro i
  induction i using Nat.strongRecOn with
  | _ i ih =>
    intro hi
    cases hb : listed.getD i false with
    | true => rfl
    | false =>
      exfalso
      have hm : i ∈ Region.ready .any ops listed := by
        rw [mem_ready]
        refine ⟨?_, ops[i], by simp [hi], fun e he hbb => ?_⟩
        · have hj : i < listed.size := by omega
          simp [hj] at hb ⊢
          exact hb
        · have := fit_low hf (i := i) (o := ops[i]) (by simp [hi]) he hbb
          exact ih e.on this (by omega)
      rw [h] at hm
      cases hm

/-- The look at one operation. -/
def Step (P : Program) (ops : Array Oper) (Q : Exit → Act → World → Prop) (V : Nat → Value → World → Prop) (a0 : Act) (w0 : World) (i : Nat) : Prop :=
  ∀ o, ops[i]? = some o → ∀ (a : Act) (w : World), Later w0 w → (∀ s, (∀ (j : Nat) (q : Oper), ops[j]? = some q → q.dst ≠ some s) → a.tmps[s]? = a0.tmps[s]?) →
    (∀ j ∈ (o.after.toList.filter (Region.binds .any)).map (·.on), ∀ (q : Oper) (s : Tmp), ops[j]? = some q → q.dst = some s → ∃ v, a.tmps[s]? = some v ∧ V j v w) →
    if Region.wanted o (yielded ops a.tmps) = true then Oper.wp P o a w (fun a' w' => ∃ v, a' = a.put o.dst v ∧ V i v w' ∧ Later w w') Q else V i undef w

theorem region_each {P : Program} {id : Nat} {Q : Exit → Act → World → Prop} {a0 : Act} {w : World} {ops : Array Oper} (V : Nat → Value → World → Prop) (hm : P.follows .mixedOrders = true) (hf : fitB ops a0.tmps.size = true)
    (hV : ∀ i v W W', V i v W → Later W W' → V i v W')
    (hs : ∀ i, i < ops.size → Step P ops Q V a0 w i)
    (hq : ∀ a w', Later w w' → a.defers = a0.defers → a.tmps.size = a0.tmps.size → (∀ s, (∀ (j : Nat) (q : Oper), ops[j]? = some q → q.dst ≠ some s) → a.tmps[s]? = a0.tmps[s]?) → (∀ (i : Nat) (o : Oper) (s : Tmp), ops[i]? = some o → o.dst = some s → ∃ v, a.tmps[s]? = some v ∧ V i v w') → Q .normal a w') :
    (Code.region id ops true).wp P Q a0 w := by
  refine wp_region_any hm ?_
  refine wpAny_inv (fun fuel listed a w' => Up ops V a0 w listed a w' ∧ listed.size = ops.size ∧ leftN listed ≤ fuel) ?_ ?_ ?_ _ _ _ _ ?_
  · rintro fuel listed a w' ⟨u, hz, _⟩ hr
    have hall := all_up hf hz hr
    refine hq a w' u.late u.defers u.size (fun s hn => u.old s (fun i o ho hd => absurd hd (hn i o ho))) (fun i o s ho hd => u.come i o s ho (hall i (Array.getElem?_eq_some_iff.1 ho).1) hd)
  · rintro listed a w' ⟨u, hz, hl⟩
    refine List.eq_nil_iff_forall_not_mem.2 fun i hi => ?_
    have := (mem_ready.1 hi).1
    rw [left_none (by omega) i] at this
    cases this
  · rintro fuel listed a w' i ⟨u, hz, hl⟩ hi
    obtain ⟨hi0, o, ho, hdep⟩ := mem_ready.1 hi
    have hlt : i < listed.size := by
      rw [hz]
      exact (Array.getElem?_eq_some_iff.1 ho).1
    have hlf := left_set hi0
    have hi1 : listed.getD i false = false := by
      simp [hlt] at hi0 ⊢
      exact hi0
    have hst := (show Step P ops Q V a0 w i from hs i (by omega)) o ho a w' u.late (fun s hn => u.old s (fun j q hq hd => absurd hd (hn j q hq))) (by
      intro j hj q s hq hd
      obtain ⟨e, he, rfl⟩ := List.mem_map.1 hj
      obtain ⟨he1, he2⟩ := List.mem_filter.1 he
      exact u.come e.on q s hq (hdep e (Array.mem_toList_iff.1 he1) he2) hd)
    have key : ∀ v w'', V i v w'' → Later w' w'' → Up ops V a0 w (listed.setIfInBounds i true) (a.put o.dst v) w'' := by
      intro v w'' hv hg
      refine ⟨gtrans u.late hg, ?_, ?_, ?_, ?_⟩
      · cases o.dst <;> exact u.defers
      · cases hd : o.dst with
        | none => exact u.size
        | some d => simp [Act.put, u.size]
      · intro s hn
        have h1 : a.tmps[s]? = a0.tmps[s]? := u.old s (fun j q hq hd => by
          have := hn j q hq hd
          rw [getD_set hlt] at this
          simp at this
          simpa using this.2)
        cases hd : o.dst with
        | none => exact h1
        | some d =>
          have hne : d ≠ s := by
            rintro rfl
            have := hn i o ho hd
            rw [getD_set hlt] at this
            simp at this
          simp only [Act.put]
          rw [Array.getElem?_setIfInBounds_ne hne]
          exact h1
      · intro j q s hq hl' hd
        by_cases hji : j = i
        · subst hji
          obtain rfl : q = o := Option.some.inj (hq.symm.trans ho)
          refine ⟨v, ?_, hv⟩
          rw [hd]
          have := fit_in hf ho hd
          rw [← u.size] at this
          simp [Act.put, this]
        · rw [getD_set hlt] at hl'
          simp [hji] at hl'
          obtain ⟨x, hx, hx'⟩ := u.come j q s hq (by simpa using hl') hd
          refine ⟨x, ?_, hV _ _ _ _ hx' hg⟩
          cases hd' : o.dst with
          | none => exact hx
          | some d =>
            have hne : d ≠ s := by
              rintro rfl
              exact hji (fit_dst hf ho hq hd' hd)
            simp only [Act.put]
            rw [Array.getElem?_setIfInBounds_ne hne]
            exact hx
    unfold wpOp
    rw [ho]
    show if Region.wanted o (yielded ops a.tmps) = true then _ else _
    split
    · rename_i hw
      rw [if_pos hw] at hst
      refine .inl (Oper.wp_mono ?_ hst)
      rintro a' w'' ⟨v, rfl, hv, hg⟩
      exact ⟨key v w'' hv hg, by simp [hz], by omega⟩
    · rename_i hw
      rw [if_neg hw] at hst
      exact ⟨key undef w' hst (Later.refl _), by simp [hz], by omega⟩
  · refine ⟨⟨Later.refl w, rfl, rfl, fun _ _ => rfl, fun i o s ho hl _ => ?_⟩, by simp, ?_⟩
    · rw [getD_replicate_false] at hl
      cases hl
    · unfold leftN
      have := List.countP_le_length (p := fun b => !b) (l := (Array.replicate ops.size false).toList)
      simpa using this

theorem ev {a : Act} {k : Tmp} {v : Value} (h : a.tmps[k]? = some v) : a.eval (.tmp k) = v := by
  simp [Act.eval, h]

/-- No operation writes this slot. -/
def freeB (ops : Array Oper) (s : Tmp) : Bool := ops.toList.all fun q => !(q.dst == some s)

theorem free_of {ops : Array Oper} {s : Tmp} (h : freeB ops s = true) : ∀ (j : Nat) (q : Oper), ops[j]? = some q → q.dst ≠ some s := by
  intro j q hq hd
  have := List.all_eq_true.1 h q (by
    rw [Array.mem_toList_iff]
    exact Array.mem_of_getElem? hq)
  simp [hd] at this

theorem want_of {ops : Array Oper} {o : Oper} {a : Act} {j : Nat} {q : Oper} {s : Tmp} {b c : Bool} (hg : o.guard = some (j, c)) (hq : ops[j]? = some q) (hd : q.dst = some s) (h : a.tmps[s]? = some (.bool b)) : Region.wanted o (yielded ops a.tmps) = (b == c) := by
  unfold Region.wanted yielded
  rw [hg]
  simp [hq, hd, h]

theorem ite_yes {c : Prop} [Decidable c] {A B : Prop} (h : c) (ha : A) : if c then A else B := by rw [if_pos h]; exact ha

theorem ite_by {x : Bool} {A B : Prop} {b : Bool} (h : x = b) (h1 : b = true → A) (h2 : b = false → B) : if x = true then A else B := by
  subst h
  split
  · exact h1 (by assumption)
  · exact h2 (by simpa using ‹¬ x = true›)

theorem act_eta (a : Act) (n : Nat) (d : List Deferred) (hz : a.tmps.size = n) (hd : a.defers = d) : a = ⟨((List.range n).map fun s => a.tmps.getD s undef).toArray, d⟩ := by
  obtain ⟨t, e⟩ := a
  subst hd
  simp only [Act.mk.injEq, and_true]
  apply Array.ext
  · simp at hz ⊢
    exact hz
  · intro i h1 h2
    simp [h1]

theorem getD_of {a : Act} {s : Tmp} {v : Value} (h : a.tmps[s]? = some v) : a.tmps.getD s undef = v := by simp [h]

end Go.Proofs.YtihdijkplmfhfaaGreatDoor.Eachn

/- From when up to when a window about days of rest is, by the program. Conditions: the table of months lies where the program lays it; the zone and the table may be, as the theorem says. -/
namespace Go.Proofs.YtihdijkplmfhfaaGreatDoor.Window
set_option maxRecDepth 100000
set_option maxRecDepth 100000
open Go.ChangeShapes Go.WideShapes Go.ChangeAt Go.RowKit
open Go.Proofs.YtihdijkplmfhfaaGreatDoor.Divs Go.Proofs.YtihdijkplmfhfaaGreatDoor.Grow
open Go.Proofs.YtihdijkplmfhfaaGreatDoor.Greg (Laid)
open Go.Proofs.YtihdijkplmfhfaaGreatDoor.Zo Go.Proofs.YtihdijkplmfhfaaGreatDoor.Zone Go.Proofs.YtihdijkplmfhfaaGreatDoor.Win
open Go.Proofs.YtihdijkplmfhfaaGreatDoor.Cf (Cg Wn)
open Go.Proofs.YtihdijkplmfhfaaGreatDoor.Conf (wc cc Is)
open Go.Proofs.YtihdijkplmfhfaaGreatDoor.Fe (kd rst)
open Go.Proofs.YtihdijkplmfhfaaGreatDoor.Su (mV mE sk sa)

open Go.Proofs.YtihdijkplmfhfaaGreatDoor.Eachn
open Go.Proofs.YtihdijkplmfhfaaGreatDoor.Conf (At)

theorem mV_at (z : Zn) (s : Nat → Int) (n : Int) (hz : May z) (hs : sk s = 0) (h0 : 401 ≤ n) (h1 : n ≤ 3651998) : mV z s n = n * 1440 + sa s n - z.b := by
  unfold mV; rw [if_pos ((Su.mE_ok z s n).2 ⟨(ck_may z).2 hz, hs, h0, h1⟩)]

theorem wp_load_rst {o : Oper} {a : Act} {K : Act → World → Prop} {Q : Exit → Act → World → Prop} (C : Array Value) (hC : C.size = 25) (W : World) (g : Nat) (h : At W g C) (x : Operand) (ho : o.op = .load 171 x) (hx : a.eval x = .pointer (some ⟨g, 0, none⟩)) (hK : K (a.put o.dst (.agg C)) W) : o.wp Tryz.prog a W K Q := by
  have hi : (Tryz.prog.info? 171).map (·.size) = some C.toList.length := by
    rw [Array.length_toList, hC]
    kernel_rfl
  refine wp_load_mid (P := Tryz.prog) 171 x ho g 0 hx C.toList _ (fun j v hv => by rw [Nat.zero_add]; exact h j v (by simpa using hv)) Tryz.underlying171 rfl hi ?_
  simpa using hK

def EV (D : Array Value) (g : Nat) (d b m1 m2 u l : Int) : Nat → Value → World → Prop
  | 0, v, _ => v = .agg D
  | 1, v, _ => v = .int .i64 d
  | 2, v, _ => v = .int .i64 m1
  | 3, v, _ => v = .pointer (some ⟨g, 23, none⟩)
  | 4, v, _ => v = .int .i64 u
  | 5, v, _ => v = .int .i64 (m1 - u)
  | 6, v, _ => v = .agg D
  | 7, v, _ => v = .int .i64 b
  | 8, v, _ => v = .int .i64 m2
  | 9, v, _ => v = .pointer (some ⟨g, 24, none⟩)
  | 10, v, _ => v = .int .i64 l
  | 11, v, _ => v = .int .i64 (m2 + l)
  | 12, v, _ => v = .int .i64 (m1 - u)
  | 13, v, _ => v = .int .i64 (m2 + l)
  | _, _, _ => True

theorem EV.later (D : Array Value) (g : Nat) (d b m1 m2 u l : Int) (i : Nat) (v : Value) (W W' : World) (h : EV D g d b m1 m2 u l i v W) (_g : Later W W') : EV D g d b m1 m2 u l i v W' := by
  unfold EV at *
  split at h <;> try exact h

set_option maxHeartbeats 2000000 in
theorem restful_ends (z : Zn) (s : Nat → Int) (ab : Bool) (u l d b : Int) (w : World) (hL : Laid w) (hz : May z) (hs : sk s = 0) (d0 : 402 ≤ d) (d1 : d ≤ 3651990) (hb : Feast.Row ab (d + 1) (d + 1) b) (hb2 : b ≤ d + 3) (u0 : 0 ≤ u) (u1 : u ≤ 180) (l0 : 0 ≤ l) (l1 : l ≤ 180) :
    Calls Tryz.prog 230 #[.agg (rk z s ab u l), .int .i64 d] w fun e w' => e = .returned (.tuple #[.int .i64 (d * 1440 + sa s d - z.b - u), .int .i64 (b * 1440 + sa s b - z.b + l)]) ∧ Later w w' := by
  have R := Lib.hid (fun W => Feast.run_yes (d + 1) (d + 1) b ab W hb)
  have b0 : d + 1 ≤ b := hb.2.1
  have HV1 := mV_at z s d hz hs (by omega) (by omega)
  have HV2 := mV_at z s b hz hs (by omega) (by omega)
  have T1 := Lib.hid (fun W hW => sunset_any z s ab u l d W hW)
  have T2 := Lib.hid (fun W hW => sunset_any z s ab u l b W hW)
  rw [HV1] at T1
  rw [HV2] at T2
  have s1 := sa_in s d hs (by omega) (by omega)
  have s2 := sa_in s b hs (by omega) (by omega)
  have hz' := hz
  unfold May at hz'
  have m10 : -100000000 ≤ d * 1440 + sa s d - z.b ∧ d * 1440 + sa s d - z.b ≤ 10000000000 := by omega
  have m20 : -100000000 ≤ b * 1440 + sa s b - z.b ∧ b * 1440 + sa s b - z.b ≤ 10000000000 := by omega
  generalize d * 1440 + sa s d - z.b = m1 at *
  generalize b * 1440 + sa s b - z.b = m2 at *
  obtain ⟨D, hD⟩ : ∃ D, D = rk z s ab u l := ⟨_, rfl⟩
  rw [← hD] at T1 T2 ⊢
  have K1 : Hid (IntKind.i64.wrap (m1 - u) = m1 - u) := Lib.hid (IntWalk.i64_in _ (by omega))
  have K2 : Hid (IntKind.i64.wrap (m2 + l) = m2 + l) := Lib.hid (IntWalk.i64_in _ (by omega))
  have HZ : Hid (D.size = 25) := Lib.hid (by rw [hD]; rfl)
  have H22 : D[22]? = some (.bool ab) := by rw [hD]; rfl
  have H23 : Hid (D[23]? = some (.int .i64 u)) := Lib.hid (by rw [hD]; rfl)
  have H24 : Hid (D[24]? = some (.int .i64 l)) := Lib.hid (by rw [hD]; rfl)
  have HG := Lib.hid ((Later.refl w).alloc D 171)
  have HL := Lib.hid (hL.grown HG.out)
  have HA := Lib.hid (At.new w D 171)
  have c22 := HA.out 22 _ H22
  clear hL hz hz' hs hb s1 s2 HV1 HV2 b0 u0 u1 l0 l1 hb2 m10 m20 hD H22
  go_enter Tryz.func230, Tryz.ntmps230
  go_wp2_with fail
  refine (R.out _).mono ?_
  rintro e w1 ⟨rfl, hg1⟩
  have HG1 := Lib.hid hg1
  have HL1 := Lib.hid (HL.out.grown hg1)
  have A1 := Lib.hid (HA.out.later hg1)
  clear hg1 c22
  go_wp2_with fail
  refine region_each (EV D w.heap.size d b m1 m2 u l) (by kernel_rfl) (by kernel_rfl) (EV.later D w.heap.size d b m1 m2 u l) ?_ ?_
  · intro i hi
    match i with
    | 0 =>
      intro o ho
      simp only [List.getElem?_toArray, List.getElem?_cons_zero, Option.some.injEq] at ho
      subst ho
      intro a W hl hold hdep
      refine ite_yes rfl ?_
      have h2 : a.tmps[2]? = some (.pointer (some ⟨w.heap.size, 0, none⟩)) := hold 2 (free_of (by kernel_rfl))
      clear hold hdep
      exact wp_load_rst D HZ.out W w.heap.size (A1.out.later hl) (.tmp 2) rfl (ev h2) ⟨_, rfl, rfl, Later.refl _⟩
    | 1 =>
      intro o ho
      simp only [List.getElem?_toArray, List.getElem?_cons_zero, List.getElem?_cons_succ, Option.some.injEq] at ho
      subst ho
      intro a W hl hold hdep
      refine ite_yes rfl ?_
      have h1 : a.tmps[1]? = some (.int .i64 d) := hold 1 (free_of (by kernel_rfl))
      clear hold hdep
      unfold Oper.wp
      go_simp
      exact ⟨_, rfl, rfl, Later.refl _⟩
    | 2 =>
      intro o ho
      simp only [List.getElem?_toArray, List.getElem?_cons_zero, List.getElem?_cons_succ, Option.some.injEq] at ho
      subst ho
      intro a W hl hold hdep
      refine ite_yes rfl ?_
      obtain ⟨_, h18, rfl⟩ := hdep 0 (by decide) _ _ rfl rfl
      obtain ⟨_, h19, rfl⟩ := hdep 1 (by decide) _ _ rfl rfl
      clear hold hdep
      unfold Oper.wp
      go_simp
      refine (T1.out _ (HL1.out.grown hl)).mono ?_
      rintro e w1 ⟨rfl, hg1⟩
      exact ⟨_, rfl, rfl, hg1⟩
    | 3 =>
      intro o ho
      simp only [List.getElem?_toArray, List.getElem?_cons_zero, List.getElem?_cons_succ, Option.some.injEq] at ho
      subst ho
      intro a W hl hold hdep
      refine ite_yes rfl ?_
      have h2 : a.tmps[2]? = some (.pointer (some ⟨w.heap.size, 0, none⟩)) := hold 2 (free_of (by kernel_rfl))
      clear hold hdep
      unfold Oper.wp
      go_simp
      exact ⟨_, rfl, rfl, Later.refl _⟩
    | 4 =>
      intro o ho
      simp only [List.getElem?_toArray, List.getElem?_cons_zero, List.getElem?_cons_succ, Option.some.injEq] at ho
      subst ho
      intro a W hl hold hdep
      refine ite_yes rfl ?_
      obtain ⟨_, h21, rfl⟩ := hdep 3 (by decide) _ _ rfl rfl
      have k := A1.out.later hl 23 _ H23.out
      clear hold hdep
      unfold Oper.wp
      go_simp
      exact ⟨_, rfl, rfl, Later.refl _⟩
    | 5 =>
      intro o ho
      simp only [List.getElem?_toArray, List.getElem?_cons_zero, List.getElem?_cons_succ, Option.some.injEq] at ho
      subst ho
      intro a W hl hold hdep
      refine ite_yes rfl ?_
      obtain ⟨_, h20, rfl⟩ := hdep 2 (by decide) _ _ rfl rfl
      obtain ⟨_, h22, rfl⟩ := hdep 4 (by decide) _ _ rfl rfl
      clear hold hdep
      unfold Oper.wp
      go_simp
      exact ⟨_, rfl, (by rw [K1.out]; rfl), Later.refl _⟩
    | 6 =>
      intro o ho
      simp only [List.getElem?_toArray, List.getElem?_cons_zero, List.getElem?_cons_succ, Option.some.injEq] at ho
      subst ho
      intro a W hl hold hdep
      refine ite_yes rfl ?_
      have h2 : a.tmps[2]? = some (.pointer (some ⟨w.heap.size, 0, none⟩)) := hold 2 (free_of (by kernel_rfl))
      clear hold hdep
      exact wp_load_rst D HZ.out W w.heap.size (A1.out.later hl) (.tmp 2) rfl (ev h2) ⟨_, rfl, rfl, Later.refl _⟩
    | 7 =>
      intro o ho
      simp only [List.getElem?_toArray, List.getElem?_cons_zero, List.getElem?_cons_succ, Option.some.injEq] at ho
      subst ho
      intro a W hl hold hdep
      refine ite_yes rfl ?_
      have h7 : a.tmps[7]? = some (.int .i64 b) := hold 7 (free_of (by kernel_rfl))
      clear hold hdep
      unfold Oper.wp
      go_simp
      exact ⟨_, rfl, rfl, Later.refl _⟩
    | 8 =>
      intro o ho
      simp only [List.getElem?_toArray, List.getElem?_cons_zero, List.getElem?_cons_succ, Option.some.injEq] at ho
      subst ho
      intro a W hl hold hdep
      refine ite_yes rfl ?_
      obtain ⟨_, h24, rfl⟩ := hdep 6 (by decide) _ _ rfl rfl
      obtain ⟨_, h25, rfl⟩ := hdep 7 (by decide) _ _ rfl rfl
      clear hold hdep
      unfold Oper.wp
      go_simp
      refine (T2.out _ (HL1.out.grown hl)).mono ?_
      rintro e w1 ⟨rfl, hg1⟩
      exact ⟨_, rfl, rfl, hg1⟩
    | 9 =>
      intro o ho
      simp only [List.getElem?_toArray, List.getElem?_cons_zero, List.getElem?_cons_succ, Option.some.injEq] at ho
      subst ho
      intro a W hl hold hdep
      refine ite_yes rfl ?_
      have h2 : a.tmps[2]? = some (.pointer (some ⟨w.heap.size, 0, none⟩)) := hold 2 (free_of (by kernel_rfl))
      clear hold hdep
      unfold Oper.wp
      go_simp
      exact ⟨_, rfl, rfl, Later.refl _⟩
    | 10 =>
      intro o ho
      simp only [List.getElem?_toArray, List.getElem?_cons_zero, List.getElem?_cons_succ, Option.some.injEq] at ho
      subst ho
      intro a W hl hold hdep
      refine ite_yes rfl ?_
      obtain ⟨_, h27, rfl⟩ := hdep 9 (by decide) _ _ rfl rfl
      have k := A1.out.later hl 24 _ H24.out
      clear hold hdep
      unfold Oper.wp
      go_simp
      exact ⟨_, rfl, rfl, Later.refl _⟩
    | 11 =>
      intro o ho
      simp only [List.getElem?_toArray, List.getElem?_cons_zero, List.getElem?_cons_succ, Option.some.injEq] at ho
      subst ho
      intro a W hl hold hdep
      refine ite_yes rfl ?_
      obtain ⟨_, h26, rfl⟩ := hdep 8 (by decide) _ _ rfl rfl
      obtain ⟨_, h28, rfl⟩ := hdep 10 (by decide) _ _ rfl rfl
      clear hold hdep
      unfold Oper.wp
      go_simp
      exact ⟨_, rfl, (by rw [K2.out]; rfl), Later.refl _⟩
    | 12 =>
      intro o ho
      simp only [List.getElem?_toArray, List.getElem?_cons_zero, List.getElem?_cons_succ, Option.some.injEq] at ho
      subst ho
      intro a W hl hold hdep
      refine ite_yes rfl ?_
      obtain ⟨_, h23, rfl⟩ := hdep 5 (by decide) _ _ rfl rfl
      clear hold hdep
      unfold Oper.wp
      go_simp
      exact ⟨_, rfl, rfl, Later.refl _⟩
    | 13 =>
      intro o ho
      simp only [List.getElem?_toArray, List.getElem?_cons_zero, List.getElem?_cons_succ, Option.some.injEq] at ho
      subst ho
      intro a W hl hold hdep
      refine ite_yes rfl ?_
      obtain ⟨_, h29, rfl⟩ := hdep 11 (by decide) _ _ rfl rfl
      clear hold hdep
      unfold Oper.wp
      go_simp
      exact ⟨_, rfl, rfl, Later.refl _⟩
    | k + 14 => exact absurd hi (by simp)
  · intro a W hl hd hz hold hall
    obtain ⟨_, k4, rfl⟩ := hall 12 _ _ rfl rfl
    obtain ⟨_, k5, rfl⟩ := hall 13 _ _ rfl rfl
    have ha := act_eta a 30 [] hz hd
    rw [show (List.range 30).map (fun s => a.tmps.getD s undef) = [a.tmps.getD 0 undef, a.tmps.getD 1 undef, a.tmps.getD 2 undef, a.tmps.getD 3 undef, a.tmps.getD 4 undef, a.tmps.getD 5 undef, a.tmps.getD 6 undef, a.tmps.getD 7 undef, a.tmps.getD 8 undef, a.tmps.getD 9 undef, a.tmps.getD 10 undef, a.tmps.getD 11 undef, a.tmps.getD 12 undef, a.tmps.getD 13 undef, a.tmps.getD 14 undef, a.tmps.getD 15 undef, a.tmps.getD 16 undef, a.tmps.getD 17 undef, a.tmps.getD 18 undef, a.tmps.getD 19 undef, a.tmps.getD 20 undef, a.tmps.getD 21 undef, a.tmps.getD 22 undef, a.tmps.getD 23 undef, a.tmps.getD 24 undef, a.tmps.getD 25 undef, a.tmps.getD 26 undef, a.tmps.getD 27 undef, a.tmps.getD 28 undef, a.tmps.getD 29 undef] from rfl, getD_of k4, getD_of k5] at ha
    rw [ha]
    clear hall hold hz hd ha k4 k5
    generalize a.tmps.getD 0 undef = x0
    generalize a.tmps.getD 1 undef = x1
    generalize a.tmps.getD 2 undef = x2
    generalize a.tmps.getD 3 undef = x3
    generalize a.tmps.getD 6 undef = x6
    generalize a.tmps.getD 7 undef = x7
    generalize a.tmps.getD 8 undef = x8
    generalize a.tmps.getD 9 undef = x9
    generalize a.tmps.getD 10 undef = x10
    generalize a.tmps.getD 11 undef = x11
    generalize a.tmps.getD 12 undef = x12
    generalize a.tmps.getD 13 undef = x13
    generalize a.tmps.getD 14 undef = x14
    generalize a.tmps.getD 15 undef = x15
    generalize a.tmps.getD 16 undef = x16
    generalize a.tmps.getD 17 undef = x17
    generalize a.tmps.getD 18 undef = x18
    generalize a.tmps.getD 19 undef = x19
    generalize a.tmps.getD 20 undef = x20
    generalize a.tmps.getD 21 undef = x21
    generalize a.tmps.getD 22 undef = x22
    generalize a.tmps.getD 23 undef = x23
    generalize a.tmps.getD 24 undef = x24
    generalize a.tmps.getD 25 undef = x25
    generalize a.tmps.getD 26 undef = x26
    generalize a.tmps.getD 27 undef = x27
    generalize a.tmps.getD 28 undef = x28
    generalize a.tmps.getD 29 undef = x29
    have HG2 := Lib.hid hl
    clear hl
    go_wp2_with fail
    go_ret2
    exact ⟨rfl, gtrans (gtrans HG.out HG1.out) HG2.out⟩

end Go.Proofs.YtihdijkplmfhfaaGreatDoor.Window
