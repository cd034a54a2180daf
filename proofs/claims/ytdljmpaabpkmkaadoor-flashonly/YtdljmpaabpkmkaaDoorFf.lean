/-
  Blocks whose cells are known, results that lie in one; what readHead and readSize answer, by the program. Conditions: the bytes are bytes.
-/
import Derived.Test.YtdljmpaabpkmkaaDoorFd
namespace Go.Proofs.YtdljmpaabpkmkaaDoor.Fls
set_option maxRecDepth 100000
open Go.ChangeShapes Go.WideShapes Go.ChangeAt Go.RowKit
open Go.Proofs.YtdljmpaabpkmkaaDoor.Divs Go.Proofs.YtdljmpaabpkmkaaDoor.Grow Go.Proofs.YtdljmpaabpkmkaaDoor.By Go.Proofs.YtdljmpaabpkmkaaDoor.Wi Go.Proofs.YtdljmpaabpkmkaaDoor.Fa
open Go.Proofs.YtdljmpaabpkmkaaDoor.Wire (getrow_any get_any)

/-- The block g has these cells. -/
def RA (W : World) (g : Nat) (cs : Array Value) (t : TypeId) : Prop := W.heap[g]? = some (.cells cs t (0, 0))

theorem RA.lt {W : World} {g : Nat} {cs : Array Value} {t : TypeId} (h : RA W g cs t) : g < W.heap.size := by
  rcases Nat.lt_or_ge g W.heap.size with k | k
  · exact k
  · unfold RA at h
    rw [Array.getElem?_eq_none k] at h
    simp at h

theorem RA.later {W W' : World} {g : Nat} {cs : Array Value} {t : TypeId} (h : RA W g cs t) (k : Later W W') : RA W' g cs t := (k.2.2.2 g h.lt).trans h

theorem RA.new (W : World) (cs : Array Value) (t : TypeId) : RA (W.alloc (.cells cs t)) W.heap.size cs t := heap_alloc_new _ _

theorem RA.cell {W : World} {g : Nat} {cs : Array Value} {t : TypeId} (h : RA W g cs t) (i : Nat) (v : Value) (hv : cs[i]? = some v) : W.cell? ⟨g, i, none⟩ = some v := by
  unfold RA at h
  simp [World.cell?, h, hv]

theorem RA.froz {W : World} {g : Nat} {cs : Array Value} {t : TypeId} (h : RA W g cs t) (i : Nat) : W.frozen? ⟨g, i, none⟩ = false := by
  unfold RA at h
  simp [World.frozen?, h]

theorem RA.set {W : World} {g : Nat} {cs : Array Value} {t : TypeId} (h : RA W g cs t) (k : Nat) (v : Value) : RA (W.setCell ⟨g, k, none⟩ v) g (cs.setIfInBounds k v) t := by
  unfold RA at *
  simp [World.setCell, Array.getElem?_modify, h]

theorem RA.set4 {W : World} {g : Nat} {t : TypeId} {u0 u1 u2 u3 : Value} (h : RA W g #[u0, u1, u2, u3] t) (v0 v1 v2 v3 : Value) :
    RA ((((W.setCell ⟨g, 0, none⟩ v0).setCell ⟨g, 1, none⟩ v1).setCell ⟨g, 2, none⟩ v2).setCell ⟨g, 3, none⟩ v3) g #[v0, v1, v2, v3] t := by
  have := (((h.set 0 v0).set 1 v1).set 2 v2).set 3 v3
  simpa using this

theorem RA.set2 {W : World} {g : Nat} {t : TypeId} {u0 u1 : Value} (h : RA W g #[u0, u1] t) (v0 v1 : Value) :
    RA ((W.setCell ⟨g, 0, none⟩ v0).setCell ⟨g, 1, none⟩ v1) g #[v0, v1] t := by
  have := (h.set 0 v0).set 1 v1
  simpa using this

/-- A new block's cells may be set. -/
theorem later_set {w W : World} (h : Later w W) {g : Nat} (hg : w.heap.size ≤ g) (k : Nat) (v : Value) : Later w (W.setCell ⟨g, k, none⟩ v) := h.setCell (by exact hg) v

theorem later_set4 {w W : World} (h : Later w W) {g : Nat} (hg : w.heap.size ≤ g) (v0 v1 v2 v3 : Value) : Later w ((((W.setCell ⟨g, 0, none⟩ v0).setCell ⟨g, 1, none⟩ v1).setCell ⟨g, 2, none⟩ v2).setCell ⟨g, 3, none⟩ v3) :=
  later_set (later_set (later_set (later_set h hg _ _) hg _ _) hg _ _) hg _ _

theorem later_set2 {w W : World} (h : Later w W) {g : Nat} (hg : w.heap.size ≤ g) (v0 v1 : Value) : Later w ((W.setCell ⟨g, 0, none⟩ v0).setCell ⟨g, 1, none⟩ v1) :=
  later_set (later_set h hg _ _) hg _ _

/-- Results: a struct in a block; with a slot behind it; with two. -/
theorem results_r {P : Program} {fn : Func} {p : Tmp} {ty : TypeId} (h : fn.results = #[.cell p ty]) (tmps : Array Value) (w : World) (g : Nat) (t : TypeId) (cs : Array Value) (d : TypeDesc)
    (hp : tmps.getD p undef = .pointer (some ⟨g, 0, none⟩)) (hg : RA w g cs t)
    (hu : P.underlying ty = some d) (hd : (match d with | .struct _ | .array _ _ => true | _ => false) = true) (hi : (P.info? ty).map (·.size) = some cs.size) :
    (results fn tmps).run P w = .ok (.agg cs) w := by
  have hp' : tmps[p]?.getD undef = .pointer (some ⟨g, 0, none⟩) := by simpa using hp
  simp [results, h, hp', asAddr, run_loadVar_row w g t ty cs (0, 0) d hg hu hd hi]

theorem results_rt {P : Program} {fn : Func} {p q : Tmp} {ty : TypeId} (h : fn.results = #[.cell p ty, .tmp q]) (tmps : Array Value) (w : World) (g : Nat) (t : TypeId) (cs : Array Value) (d : TypeDesc) (v : Value)
    (hp : tmps.getD p undef = .pointer (some ⟨g, 0, none⟩)) (hq : tmps.getD q undef = v) (hg : RA w g cs t)
    (hu : P.underlying ty = some d) (hd : (match d with | .struct _ | .array _ _ => true | _ => false) = true) (hi : (P.info? ty).map (·.size) = some cs.size) :
    (results fn tmps).run P w = .ok (.tuple #[.agg cs, v]) w := by
  have hp' : tmps[p]?.getD undef = .pointer (some ⟨g, 0, none⟩) := by simpa using hp
  have hq' : tmps[q]?.getD undef = v := by simpa using hq
  simp [results, h, hp', hq', asAddr, run_loadVar_row w g t ty cs (0, 0) d hg hu hd hi]

theorem results_rtt {P : Program} {fn : Func} {p q s : Tmp} {ty : TypeId} (h : fn.results = #[.cell p ty, .tmp q, .tmp s]) (tmps : Array Value) (w : World) (g : Nat) (t : TypeId) (cs : Array Value) (d : TypeDesc) (v u : Value)
    (hp : tmps.getD p undef = .pointer (some ⟨g, 0, none⟩)) (hq : tmps.getD q undef = v) (hs : tmps.getD s undef = u) (hg : RA w g cs t)
    (hu : P.underlying ty = some d) (hd : (match d with | .struct _ | .array _ _ => true | _ => false) = true) (hi : (P.info? ty).map (·.size) = some cs.size) :
    (results fn tmps).run P w = .ok (.tuple #[.agg cs, v, u]) w := by
  have hp' : tmps[p]?.getD undef = .pointer (some ⟨g, 0, none⟩) := by simpa using hp
  have hq' : tmps[q]?.getD undef = v := by simpa using hq
  have hs' : tmps[s]?.getD undef = u := by simpa using hs
  simp [results, h, hp', hq', hs', asAddr, run_loadVar_row w g t ty cs (0, 0) d hg hu hd hi]

/-- A record without bytes, as cells. -/
def rz (g c m : Int) : Array Value := #[.int .i64 g, .int .i64 c, .int .i64 m, .slice none 0 0]

theorem head_err (bs : List Int) (hb : By bs) (E : Int) (he : (grow bs 0 3).2.2 = E) (h0 : E ≠ 0) (v : Value) (w : World) (hs : Sk .u8 w v bs) :
    Calls Tryd.prog 33 #[v] w fun e w' => e = .returned (.tuple #[.agg (rz 0 0 0), .int .i64 0, .int .i64 E]) ∧ Later w w' := by
  have K := Lib.hid (fun W (g : Later w W) => getrow_any bs 0 3 v W (hs.later g) hb (by omega))
  rw [he] at K
  have t : (E != 0) = true := by simpa using h0
  unfold rz
  obtain ⟨ad, cap, rfl, _⟩ := hs.len
  clear hs hb he h0
  generalize (grow bs 0 3).2.1 = P at *
  go_enter Tryd.func33, Tryd.ntmps33
  go_wp2_with fail
  refine (K.out _ ((Later.refl w).put _)).mono ?_
  rintro e w1 ⟨u, rfl, _, hg1⟩
  have R := (RA.new w _ _).later hg1
  have c0 := R.cell 0 _ rfl
  have c1 := R.cell 1 _ rfl
  have c2 := R.cell 2 _ rfl
  have c3 := R.cell 3 _ rfl
  have f0 := R.froz 0
  have f1 := R.froz 1
  have f2 := R.froz 2
  have f3 := R.froz 3
  go_wp2_with fail
  refine bodyPost_ret (results_rtt (P := Tryd.prog) (fn := Tryd.f33) Tryd.results33 _ _ w.heap.size 26 _ _ _ _ rfl rfl rfl (R.set4 _ _ _ _) Tryd.underlying26 rfl (by kernel_rfl)) rfl ⟨rfl, ?_⟩
  exact later_set4 (gtrans ((Later.refl w).put _) hg1) (Nat.le_refl _) _ _ _ _

theorem head_len (bs : List Int) (hb : By bs) (he : (grow bs 0 3).2.2 = 0) (hl : (grow bs 0 3).1.length ≠ 3) (v : Value) (w : World) (hs : Sk .u8 w v bs) :
    Calls Tryd.prog 33 #[v] w fun e w' => e = .returned (.tuple #[.agg (rz 0 0 0), .int .i64 0, .int .i64 120]) ∧ Later w w' := by
  have K := Lib.hid (fun W (g : Later w W) => getrow_any bs 0 3 v W (hs.later g) hb (by omega))
  rw [he] at K
  obtain ⟨n, hn⟩ : ∃ n, (grow bs 0 3).1.length = n := ⟨_, rfl⟩
  have t : ((n : Int) != 3) = true := by
    rw [hn] at hl
    simp
    omega
  have HN := Lib.hid hn
  unfold rz
  obtain ⟨ad, cap, rfl, _⟩ := hs.len
  clear hs hb he hl hn
  generalize (grow bs 0 3).2.1 = P at *
  go_enter Tryd.func33, Tryd.ntmps33
  go_wp2_with fail
  refine (K.out _ ((Later.refl w).put _)).mono ?_
  rintro e w1 ⟨u, rfl, hu, hg1⟩
  obtain ⟨a1, k1, rfl, _⟩ := hu.sk.len
  rw [HN.out]
  clear hu
  have R := (RA.new w _ _).later hg1
  have c0 := R.cell 0 _ rfl
  have c1 := R.cell 1 _ rfl
  have c2 := R.cell 2 _ rfl
  have c3 := R.cell 3 _ rfl
  have f0 := R.froz 0
  have f1 := R.froz 1
  have f2 := R.froz 2
  have f3 := R.froz 3
  go_wp2_with fail
  refine bodyPost_ret (results_rtt (P := Tryd.prog) (fn := Tryd.f33) Tryd.results33 _ _ w.heap.size 26 _ _ _ _ rfl rfl rfl (R.set4 _ _ _ _) Tryd.underlying26 rfl (by kernel_rfl)) rfl ⟨rfl, ?_⟩
  exact later_set4 (gtrans ((Later.refl w).put _) hg1) (Nat.le_refl _) _ _ _ _

set_option maxHeartbeats 1000000 in
theorem head_may (bs : List Int) (hb : By bs) (g c m p : Int) (hr : grow bs 0 3 = ([g, c, m], p, 0)) (B : Bool) (hm : may ⟨g, c, m, []⟩ = B) (v : Value) (w : World) (hs : Sk .u8 w v bs) :
    Calls Tryd.prog 33 #[v] w fun e w' => e = .returned (.tuple (if B = true then #[.agg (rz g c m), .int .i64 p, .int .i64 0] else #[.agg (rz 0 0 0), .int .i64 0, .int .i64 120])) ∧ Later w w' := by
  have K := Lib.hid (fun W (g : Later w W) => getrow_any bs 0 3 v W (hs.later g) hb (by omega))
  rw [hr] at K
  have M := Lib.hid (fun W => pmay_any ⟨g, c, m, []⟩ (.agg #[.int .i64 g, .int .i64 c, .int .i64 m, .slice none 0 0]) W ⟨_, rfl, sk_nil _ _⟩)
  rw [hm] at M
  unfold rz
  obtain ⟨ad, cap, rfl, _⟩ := hs.len
  clear hs hb hr hm
  go_enter Tryd.func33, Tryd.ntmps33
  go_wp2_with fail
  refine (K.out _ ((Later.refl w).put _)).mono ?_
  rintro e w1 ⟨u, rfl, hu, hg1⟩
  obtain ⟨b, off, k1, rfl, _, _, _, hc⟩ := hu.sk.has (by simp)
  have d0 : w1.cell? ⟨b, off, none⟩ = some (.int .i64 g) := hc 0 (by simp)
  have d1 : w1.cell? ⟨b, off + 1, none⟩ = some (.int .i64 c) := hc 1 (by simp)
  have d2 : w1.cell? ⟨b, off + 2, none⟩ = some (.int .i64 m) := hc 2 (by simp)
  have R := Lib.hid ((RA.new w _ _).later hg1)
  have HG := Lib.hid (gtrans ((Later.refl w).put _) hg1)
  clear hu hc hg1
  go_wp2_with fail
  go_region
  generalize hW : (w1.alloc (Obj.cells #[Value.int IntKind.i64 g, Value.int IntKind.i64 c, Value.int IntKind.i64 m, Value.slice none 0 0] 26)).drew = w2
  have hg2 : Later (w1.alloc (Obj.cells #[Value.int IntKind.i64 g, Value.int IntKind.i64 c, Value.int IntKind.i64 m, Value.slice none 0 0] 26)) w2 := by rw [← hW]; exact later_drewN _ 1
  have S := (RA.new w1 _ _).later hg2
  have HS := Lib.hid S
  have HG2 := Lib.hid (gtrans HG.out (gtrans ((Later.refl w1).put _) hg2))
  have HR2 := Lib.hid (R.out.later (gtrans ((Later.refl w1).put _) hg2))
  have e0 := S.cell 0 _ rfl
  have e1 := S.cell 1 _ rfl
  have e2 := S.cell 2 _ rfl
  have e3 := S.cell 3 _ rfl
  clear hW hg2 d0 d1 d2 S
  go_wp2_with fail
  clear e0 e1 e2 e3
  refine (M.out _).mono ?_
  rintro e w3 ⟨rfl, hg3⟩
  have R3 := HR2.out.later hg3
  have S3 := HS.out.later hg3
  have HG3 := Lib.hid (gtrans HG2.out hg3)
  have HR3 := Lib.hid R3
  have c0 := R3.cell 0 _ rfl
  have c1 := R3.cell 1 _ rfl
  have c2 := R3.cell 2 _ rfl
  have c3 := R3.cell 3 _ rfl
  have f0 := R3.froz 0
  have f1 := R3.froz 1
  have f2 := R3.froz 2
  have f3 := R3.froz 3
  have e0 := S3.cell 0 _ rfl
  have e1 := S3.cell 1 _ rfl
  have e2 := S3.cell 2 _ rfl
  have e3 := S3.cell 3 _ rfl
  clear hg3 R3 S3
  cases B with
  | true =>
    go_wp2_with fail
    refine bodyPost_ret (results_rtt (P := Tryd.prog) (fn := Tryd.f33) Tryd.results33 _ _ w.heap.size 26 _ _ _ _ rfl rfl rfl (HR3.out.set4 _ _ _ _) Tryd.underlying26 rfl (by kernel_rfl)) rfl ⟨rfl, ?_⟩
    exact later_set4 HG3.out (Nat.le_refl _) _ _ _ _
  | false =>
    go_wp2_with fail
    refine bodyPost_ret (results_rtt (P := Tryd.prog) (fn := Tryd.f33) Tryd.results33 _ _ w.heap.size 26 _ _ _ _ rfl rfl rfl (HR3.out.set4 _ _ _ _) Tryd.underlying26 rfl (by kernel_rfl)) rfl ⟨rfl, ?_⟩
    exact later_set4 HG3.out (Nat.le_refl _) _ _ _ _

/-- What readSize answers. -/
def Sz (bs : List Int) (p n q E : Int) : Prop :=
  (gE bs p ≠ 0 ∧ E = gE bs p) ∨ (gE bs p = 0 ∧ ¬ (0 ≤ gN bs p ∧ gN bs p ≤ 4096) ∧ E = 120) ∨ (gE bs p = 0 ∧ 0 ≤ gN bs p ∧ gN bs p ≤ 4096 ∧ E = 0 ∧ n = gN bs p ∧ q = gP bs p)

theorem psize_any (bs : List Int) (hb : By bs) (p : Int) (v : Value) (w : World) (hs : Sk .u8 w v bs) :
    Calls Tryd.prog 34 #[v, .int .i64 p] w fun e w' => ∃ n q E, e = .returned (.tuple #[.int .i64 n, .int .i64 q, .int .i64 E]) ∧ Sz bs p n q E ∧ w = w' := by
  have K := Lib.hid (get_any bs p v w hs hb)
  obtain ⟨ad, cap, rfl, _⟩ := hs.len
  clear hs hb
  have Z1 : gE bs p ≠ 0 → ∀ n q, Sz bs p n q (gE bs p) := fun h n q => .inl ⟨h, rfl⟩
  have Z2 : gE bs p = 0 → ¬ (0 ≤ gN bs p ∧ gN bs p ≤ 4096) → ∀ n q, Sz bs p n q 120 := fun h k n q => .inr (.inl ⟨h, k, rfl⟩)
  have Z3 : gE bs p = 0 → 0 ≤ gN bs p → gN bs p ≤ 4096 → Sz bs p (gN bs p) (gP bs p) 0 := fun h h1 h2 => .inr (.inr ⟨h, h1, h2, rfl, rfl, rfl⟩)
  generalize gE bs p = E at *
  generalize gN bs p = n at *
  generalize gP bs p = q at *
  by_cases h0 : E = 0
  · subst h0
    clear Z1
    by_cases h1 : 0 ≤ n
    · by_cases h2 : n ≤ 4096
      · have Z := Lib.hid (Z3 rfl h1 h2)
        clear Z2 Z3
        go_enter Tryd.func34, Tryd.ntmps34
        go_wp2_with fail
        refine K.out.mono ?_
        rintro e w1 ⟨rfl, rfl⟩
        go_wp2_with fail
        go_ret3
        exact ⟨_, _, _, rfl, Z.out, rfl⟩
      · have Z := Lib.hid (Z2 rfl (fun k => h2 k.2))
        clear Z2 Z3
        go_enter Tryd.func34, Tryd.ntmps34
        go_wp2_with fail
        refine K.out.mono ?_
        rintro e w1 ⟨rfl, rfl⟩
        go_wp2_with fail
        go_ret3
        exact ⟨_, _, _, rfl, Z.out _ _, rfl⟩
    · have Z := Lib.hid (Z2 rfl (fun k => h1 k.1))
      clear Z2 Z3
      go_enter Tryd.func34, Tryd.ntmps34
      go_wp2_with fail
      refine K.out.mono ?_
      rintro e w1 ⟨rfl, rfl⟩
      go_wp2_with fail
      go_ret3
      exact ⟨_, _, _, rfl, Z.out _ _, rfl⟩
  · have t : (E != 0) = true := by simpa using h0
    have Z := Lib.hid (Z1 h0)
    clear Z1 Z2 Z3
    go_enter Tryd.func34, Tryd.ntmps34
    go_wp2_with fail
    refine K.out.mono ?_
    rintro e w1 ⟨rfl, rfl⟩
    go_wp2_with fail
    go_ret3
    exact ⟨_, _, _, rfl, Z.out _ _, rfl⟩

end Go.Proofs.YtdljmpaabpkmkaaDoor.Fls
