/-
  Slices of bytes and of numbers, wherever they lie: cut, appended, made, compared. No condition but those that each theorem states.
-/
import Derived.Test.YtdljmpaabpkmkaaDoorGrow
import Derived.Laws.CopyOwn
import Derived.Laws.AppendOwnNone
import Derived.Laws.OwnMore
import Derived.Maps.AppendAt
import Derived.RangeFuncBox
namespace Go.Proofs.YtdljmpaabpkmkaaDoor.By
open Go.ChangeShapes Go.WideShapes Go.ChangeAt Go.RowKit
open Go.Proofs.YtdljmpaabpkmkaaDoor.Divs Go.Proofs.YtdljmpaabpkmkaaDoor.Grow

theorem info_byte : (Tryd.prog.info? 5).map (fun i => (i.zero, i.size, i.bytes)) = some (some (.int .u8 0), 1, 1) := by kernel_rfl

theorem info_int : (Tryd.prog.info? 3).map (fun i => (i.zero, i.size, i.bytes)) = some (some (.int .i64 0), 1, 8) := by kernel_rfl

/-- v is a slice of these numbers. -/
def Sk (k : IntKind) (W : World) (v : Value) (xs : List Int) : Prop :=
  ∃ (ad : Option Addr) (cap : Nat), v = .slice ad xs.length cap ∧ xs.length ≤ cap ∧ cap ≤ 9223372036854775807 ∧ (ad = none → cap = 0) ∧
    ∀ (i : Nat) (x : Int), xs[i]? = some x → ∃ b off, ad = some ⟨b, off, none⟩ ∧ W.cell? ⟨b, off + i, none⟩ = some (.int k x)

theorem Sk.later {k : IntKind} {W W' : World} {v : Value} {xs : List Int} (h : Sk k W v xs) (g : Later W W') : Sk k W' v xs := by
  obtain ⟨ad, cap, rfl, h1, h2, h3, h4⟩ := h
  refine ⟨ad, cap, rfl, h1, h2, h3, fun i x hx => ?_⟩
  obtain ⟨b, off, e, c⟩ := h4 i x hx
  exact ⟨b, off, e, gsome g c⟩

/-- The cells of a slice that has some. -/
theorem Sk.has {k : IntKind} {W : World} {v : Value} {xs : List Int} (h : Sk k W v xs) (hp : 0 < xs.length) :
    ∃ b off cap, v = .slice (some ⟨b, off, none⟩) xs.length cap ∧ xs.length ≤ cap ∧ cap ≤ 9223372036854775807 ∧ b < W.heap.size ∧ ∀ i, i < xs.length → W.cell? ⟨b, off + i, none⟩ = some (.int k (xs.getD i 0)) := by
  obtain ⟨ad, cap, rfl, h1, h2, h3, h4⟩ := h
  obtain ⟨b, off, rfl, c0⟩ := h4 0 (xs.getD 0 0) (by simp [hp])
  refine ⟨b, off, cap, rfl, h1, h2, World.block_lt_of_cell? _ _ c0, fun i hi => ?_⟩
  obtain ⟨b', off', e, c⟩ := h4 i (xs.getD i 0) (by simp [hi])
  simp at e
  obtain ⟨rfl, rfl⟩ := e
  exact c

theorem Sk.bare {k : IntKind} {W : World} {v : Value} (h : Sk k W v []) : ∃ ad cap, v = .slice ad 0 cap ∧ cap ≤ 9223372036854775807 ∧ (ad = none → cap = 0) := by
  obtain ⟨ad, cap, rfl, _, h2, h3, _⟩ := h
  exact ⟨ad, cap, rfl, h2, h3⟩

theorem Sk.len {k : IntKind} {W : World} {v : Value} {xs : List Int} (h : Sk k W v xs) : ∃ ad cap, v = .slice ad xs.length cap ∧ xs.length ≤ 9223372036854775807 := by
  obtain ⟨ad, cap, rfl, h1, h2, _⟩ := h
  exact ⟨ad, cap, rfl, by omega⟩

/-- A row that lies whole. -/
theorem Sk.row {k : IntKind} {W : World} {g : Nat} {t : TypeId} {fr : Nat × Nat} {xs : List Int} {cap : Nat} {cs : Array Value} (h : W.heap[g]? = some (.cells cs t fr)) (hc : ∀ (i : Nat) (x : Int), xs[i]? = some x → cs[i]? = some (.int k x)) (h1 : xs.length ≤ cap) (h2 : cap ≤ 9223372036854775807) :
    Sk k W (.slice (some ⟨g, 0, none⟩) xs.length cap) xs := by
  refine ⟨_, cap, rfl, h1, h2, by simp, fun i x hx => ⟨g, 0, rfl, ?_⟩⟩
  rw [Nat.zero_add]
  have := hc i x hx
  simp [World.cell?, h, this]

/-- Bytes that are 0. -/
def zb (n : Nat) : List Value := List.replicate n (.int .u8 0)

theorem make_any (n : Nat) (h : n ≤ 100000) : ∀ W : World, (Instr.makeSlice 22 (.int .i64 (n : Int)) (.int .i64 (n : Int))).run Tryd.prog W = .ok (.slice (some ⟨W.heap.size, 0, none⟩) n n) (W.alloc (.cells (zb n).toArray 5)) := by
  intro W
  obtain ⟨i0, hi, hz0, hz1, hz2⟩ := info_parts info_byte
  have := run_make (P := Tryd.prog) W 22 5 i0 (.int .u8 0) Tryd.underlying22 hi hz0 .i64 .i64 n n (by omega) (by omega) (by rw [hz2]; omega) (by omega)
  rw [hz1] at this
  rw [this]
  have e : madeCells (Value.int .u8 0).cells ((n : Int).toNat * 1) = (zb n).toArray := by
    rw [show (n : Int).toNat * 1 = n by simp]
    apply Array.ext'
    rw [show (Value.int .u8 0).cells = #[.int .u8 0] from rfl, toList_madeCells_one]
    rfl
  rw [e]
  simp

theorem add_zero (g j : Nat) : (⟨g, 0, none⟩ : Addr).add j = ⟨g, j, none⟩ := by
  unfold Addr.add
  split
  · rename_i h
    rw [h]
  · simp

/-- v is a slice of these numbers, its cells laid since the world had b blocks. -/
def SL (k : IntKind) (e : TypeId) (W : World) (b : Nat) (v : Value) (xs : List Int) : Prop := W.ownsRow b e 1 v xs.length (xs.map (Value.int k))

theorem SL.later {k : IntKind} {e : TypeId} {W W' : World} {b : Nat} {v : Value} {xs : List Int} (h : SL k e W b v xs) (g : Later W W') : SL k e W' b v xs :=
  World.ownsRow.kept h g.grownBy (by cases v.ownBlock <;> simp)

theorem later_grown {k : IntKind} {e : TypeId} {w a b : World} {v : Value} {xs : List Int} (g : Later w a) (f : SL k e a w.heap.size v xs) (h : a.grownBy b v.ownBlock) : Later w b :=
  Later.of_below (g.below.grown h g.size (fun j e => (World.ownsRow.lt f j e).1))

theorem SL.sk {k : IntKind} {e : TypeId} {W : World} {b : Nat} {v : Value} {xs : List Int} (h : SL k e W b v xs) : Sk k W v xs := by
  rcases h.2 with ⟨hv, h0⟩ | ⟨g, cap, cur, rfl, _, _, h1, h2, _⟩
  · obtain rfl : xs = [] := List.length_eq_zero_iff.1 h0
    exact ⟨none, 0, hv, by simp, by omega, by simp, by simp⟩
  · refine ⟨_, cap, rfl, h1, by simpa [maxLen] using h2, by simp, fun i x hx => ⟨g, 0, rfl, ?_⟩⟩
    have c := World.ownsRow.cells h (g := g) rfl i (.int k x) (by rw [List.getElem?_map, hx]; rfl)
    rw [add_zero] at c
    rw [Nat.zero_add]
    exact c

theorem SL.nil (k : IntKind) (e : TypeId) (W : World) (b : Nat) : SL k e W b (.slice none 0 0) [] := World.ownsRow_nil _ _ _ _

theorem sk_nil (k : IntKind) (W : World) : Sk k W (.slice none 0 0) [] := ⟨none, 0, rfl, by simp, by omega, by simp, by simp⟩

/-- A slice that owns bytes begins somewhere. -/
theorem SL.has {k : IntKind} {e : TypeId} {W : World} {b : Nat} {v : Value} {xs : List Int} (h : SL k e W b v xs) (hp : 0 < xs.length) :
    ∃ g cap, v = .slice (some ⟨g, 0, none⟩) xs.length cap ∧ ∀ j u, (xs.map (Value.int k))[j]? = some u → W.cell? ((⟨g, 0, none⟩ : Addr).add j) = some u := by
  rcases h.2 with ⟨_, h0⟩ | ⟨g, cap, cur, rfl, _⟩
  · omega
  · exact ⟨g, cap, rfl, World.ownsRow.cells h (g := g) rfl⟩

theorem SL.base {k : IntKind} {e : TypeId} {W : World} {b c : Nat} {v : Value} {xs : List Int} (h : SL k e W b v xs) (hb : c ≤ b) : SL k e W c v xs := by
  refine ⟨h.1, ?_⟩
  rcases h.2 with h | ⟨g, cap, cur, hv, h1, h2⟩
  · exact .inl h
  · exact .inr ⟨g, cap, cur, hv, Nat.le_trans hb h1, h2⟩

def IRel (xs ys : List Int) (w : World) (x : Value) (wr : World) : Prop := ∃ i k : Nat, i ≤ xs.length ∧ x = .int .i64 (i : Int) ∧ xs.take i = ys.take i ∧ wr = w.drewN k

theorem take_all (xs ys : List Int) (n : Nat) (hx : n = xs.length) (hl : xs.length = ys.length) (h : xs.take n = ys.take n) : xs = ys := by
  rw [List.take_of_length_le (by omega), List.take_of_length_le (by omega)] at h
  exact h

theorem take_on (xs ys : List Int) (i : Nat) (a : Int) (hx : xs[i]? = some a) (hy : ys[i]? = some a) (h : xs.take i = ys.take i) : xs.take (i + 1) = ys.take (i + 1) := by
  rw [List.take_add_one, List.take_add_one, h, hx, hy]

theorem bool_no {b : Bool} (h : ¬ b = true) : Ending.returned (.bool false) = .returned (.bool b) := by
  cases b
  · rfl
  · exact absurd rfl h

theorem bool_yes {b : Bool} (h : b = true) : Ending.returned (.bool true) = .returned (.bool b) := by rw [h]

set_option maxHeartbeats 1000000 in
theorem bsame_any (xs ys : List Int) (u v : Value) (w : World) (hu : Sk .u8 w u xs) (hv : Sk .u8 w v ys) : Calls Tryd.prog 17 #[u, v] w fun e w' => e = .returned (.bool (decide (xs = ys))) ∧ Later w w' := by
  obtain ⟨B, hB⟩ : ∃ B : Bool, B = decide (xs = ys) := ⟨_, rfl⟩
  rw [← hB]
  have HT : Hid (xs = ys → B = true) := Lib.hid (fun h => by rw [hB]; simpa using h)
  have HF : Hid (¬ xs = ys → ¬ B = true) := Lib.hid (fun h => by rw [hB]; simpa using h)
  clear hB
  by_cases hl : xs.length = ys.length
  · rcases Nat.eq_zero_or_pos xs.length with h0 | h0
    · obtain rfl := List.length_eq_zero_iff.1 h0
      obtain rfl := List.length_eq_zero_iff.1 (hl.symm.trans h0)
      obtain ⟨a, c, rfl, _⟩ := hu.bare
      obtain ⟨a', c', rfl, _⟩ := hv.bare
      clear hu hv hl h0
      go_enter Tryd.func17, Tryd.ntmps17
      go_wp2_with fail
      refine wp_loop_rounds 1 ?_
      rw [rounds_succ]
      go_wp2
      go_ret
      exact ⟨bool_yes (HT.out (by trivial)), Later.refl _⟩
    · obtain ⟨b, off, cap, rfl, _, m1, _, hc⟩ := hu.has h0
      obtain ⟨b', off', cap', rfl, _, m2, _, hc'⟩ := hv.has (by omega)
      have HC := Lib.hid hc
      have HC' := Lib.hid hc'
      have hm : xs.length ≤ 9223372036854775807 := by omega
      have HL := Lib.hid hl
      obtain ⟨n, hn⟩ : ∃ n, ys.length = n := ⟨_, rfl⟩
      rw [hn] at hl ⊢
      rw [hl] at h0 hm ⊢
      have HN := Lib.hid hn
      have HX := Lib.hid hl
      clear hc hc' hu hv hl hn m1 m2
      have t : ((n : Int) != (n : Int)) = false := by simp
      go_enter Tryd.func17, Tryd.ntmps17
      go_wp2_with fail
      clear t
      go_loopw [5] (fun x wr => IRel xs ys w x wr) (fun x _ => (n - intOf x).toNat)
      case atStart => exact ⟨0, 0, by omega, rfl, by simp, rfl⟩
      case round =>
        obtain ⟨i, k, hi, rfl, ht, rfl⟩ := hrel
        rw [HX.out] at hi
        have HE := Lib.hid ht
        clear ht
        by_cases hlt : i < n
        · obtain ⟨a, ha⟩ : ∃ a, xs[i]? = some a := ⟨_, List.getElem?_eq_getElem (by rw [HX.out]; exact hlt)⟩
          obtain ⟨c, hc⟩ : ∃ c, ys[i]? = some c := ⟨_, List.getElem?_eq_getElem (by rw [HN.out]; exact hlt)⟩
          have c1 := HC.out i (by rw [HX.out]; exact hlt)
          rw [List.getD_eq_getElem?_getD, ha, Option.getD_some] at c1
          have c2 := HC'.out i (by rw [HN.out]; exact hlt)
          rw [List.getD_eq_getElem?_getD, hc, Option.getD_some] at c2
          have HA := Lib.hid ha
          have HB := Lib.hid hc
          clear ha hc
          by_cases hac : a = c
          · subst hac
            have t : (a != a) = false := by simp
            have HS := Lib.hid (take_on xs ys i a HA.out HB.out HE.out)
            go_wp2_with fail
            go_quiet (fail)
            go_wp2_with fail
            go_roundw
            case rel => exact ⟨i + 1, _, by rw [HX.out]; omega, by go_num, HS.out, rfl⟩
            case measure => simp [intOf]; omega
          · have t : (a != c) = true := by simpa using hac
            have HV : Hid (¬ xs = ys) := by
              have : ¬ xs = ys := by
                rintro rfl
                have := HA.out.symm.trans HB.out
                simp at this
                exact hac this
              exact this
            clear hac
            go_wp2_with fail
            go_quiet (fail)
            go_wp2_with fail
            go_ret
            exact ⟨bool_no (HF.out HV.out), Later.refl w⟩
        · have hn : ¬ i < n := hlt
          go_wp2_with fail
          go_ret
          exact ⟨bool_yes (HT.out (take_all xs ys i (by rw [HX.out]; omega) HL.out HE.out)), later_drewN w _⟩
  · obtain ⟨a, c, rfl, m1⟩ := hu.len
    obtain ⟨a', c', rfl, m2⟩ := hv.len
    have t : ((xs.length : Int) != (ys.length : Int)) = true := by simpa using fun h => hl (by omega)
    have HV : Hid (¬ xs = ys) := by
      have : ¬ xs = ys := by
        rintro rfl
        exact hl rfl
      exact this
    clear hu hv
    go_enter Tryd.func17, Tryd.ntmps17
    go_wp2_with fail
    go_ret
    exact ⟨bool_no (HF.out HV.out), Later.refl _⟩

/-- A row that has just been laid. -/
theorem sk_new (k : IntKind) (t : TypeId) (xs : List Int) (w : World) (hn : xs.length ≤ 1000) : Sk k (w.alloc (.cells (xs.map (Value.int k)).toArray t)) (.slice (some ⟨w.heap.size, 0, none⟩) xs.length xs.length) xs :=
  Sk.row (heap_alloc_new _ _) (fun i x hx => by simp [hx]) (Nat.le_refl _) (by omega)

theorem bsame_yes (xs : List Int) (u v : Value) (w : World) (hu : Sk .u8 w u xs) (hv : Sk .u8 w v xs) : Calls Tryd.prog 17 #[u, v] w fun e w' => e = .returned (.bool true) ∧ Later w w' := by
  have := bsame_any xs xs u v w hu hv
  rwa [decide_eq_true rfl] at this

theorem bsame_no (xs ys : List Int) (u v : Value) (w : World) (hn : xs ≠ ys) (hu : Sk .u8 w u xs) (hv : Sk .u8 w v ys) : Calls Tryd.prog 17 #[u, v] w fun e w' => e = .returned (.bool false) ∧ Later w w' := by
  have := bsame_any xs ys u v w hu hv
  rwa [decide_eq_false hn] at this

/-- A slice as a source of cells: none, or they lie one behind the other. -/
theorem Sk.src {k : IntKind} {W : World} {v : Value} {xs : List Int} (h : Sk k W v xs) :
    (v = .slice none 0 0 ∧ xs = []) ∨ ∃ a cap, v = .slice (some a) xs.length cap ∧ ∀ j u, (xs.map (Value.int k))[j]? = some u → W.cell? (a.add j) = some u := by
  obtain ⟨ad, cap, rfl, h1, h2, h3, h4⟩ := h
  cases ad with
  | none =>
    obtain rfl := h3 rfl
    obtain rfl := List.length_eq_zero_iff.1 (Nat.le_zero.1 h1)
    exact .inl ⟨rfl, rfl⟩
  | some a =>
    refine .inr ⟨a, cap, rfl, fun j u hu => ?_⟩
    rw [List.getElem?_map] at hu
    cases e : xs[j]? with
    | none => rw [e] at hu; simp at hu
    | some x =>
      obtain ⟨b, off, ea, c⟩ := h4 j x e
      simp only [Option.some.injEq] at ea
      rw [e] at hu
      rw [ea, Go.WideShapes.add_plain, c]
      exact hu

/-- A slice cut at both ends. -/
theorem cut_lh {bs : List Int} {v : Value} {w : World} (hs : Sk .u8 w v bs) (l h : Nat) (hl : l ≤ h) (hh : h ≤ bs.length) :
    ∃ ad cap u, v = .slice ad bs.length cap ∧ (∀ W : World, (Instr.slice 22 (.slice ad bs.length cap) (some (.int .i64 (l : Int))) (some (.int .i64 (h : Int))) none).run Tryd.prog W = .ok u W) ∧ Sk .u8 w u ((bs.drop l).take (h - l)) := by
  obtain ⟨ad, cap, rfl, h1, h2, h3, h4⟩ := hs
  refine ⟨ad, cap, sliced ad l h cap 1, rfl, fun W => ?_, ?_⟩
  · have := run_slice_lh (P := Tryd.prog) W 22 ad bs.length cap (by kernel_rfl) .i64 .i64 l h (by omega) (by omega) (by omega)
    rw [this]
    go_simp
  · unfold sliced
    refine ⟨if cap = l then ad else ad.map (·.add (l * 1)), cap - l, ?_, ?_, by omega, ?_, ?_⟩
    · rw [show ((bs.drop l).take (h - l)).length = h - l by rw [List.length_take, List.length_drop]; omega]
    · rw [List.length_take, List.length_drop]; omega
    · intro hn
      by_cases e : cap = l
      · omega
      · rw [if_neg e] at hn
        have := h3 (by cases ad with
          | none => rfl
          | some a => simp at hn)
        omega
    · intro i x hx
      have hi : i < h - l := by
        have := (List.getElem?_eq_some_iff.1 hx).1
        rw [List.length_take] at this
        omega
      rw [List.getElem?_take_of_lt hi, List.getElem?_drop] at hx
      obtain ⟨b, off, rfl, c⟩ := h4 (l + i) x hx
      refine ⟨b, off + l, ?_, ?_⟩
      · rw [if_neg (by omega)]
        simp [Addr.add]
      · rw [Nat.add_assoc]; exact c

/-- A slice cut at its end. -/
theorem cut_h {bs : List Int} {v : Value} {w : World} (hs : Sk .u8 w v bs) (h : Nat) (hh : h ≤ bs.length) :
    ∃ ad cap u, v = .slice ad bs.length cap ∧ (∀ W : World, (Instr.slice 22 (.slice ad bs.length cap) none (some (.int .i64 (h : Int))) none).run Tryd.prog W = .ok u W) ∧ Sk .u8 w u (bs.take h) := by
  obtain ⟨ad, cap, rfl, h1, h2, h3, h4⟩ := hs
  refine ⟨ad, cap, .slice ad h cap, rfl, fun W => ?_, ?_⟩
  · have := run_slice_h (P := Tryd.prog) W 22 ad bs.length cap (by kernel_rfl) .i64 h (by omega) (by omega)
    rw [this]
    go_simp
  · refine ⟨ad, cap, ?_, by rw [List.length_take]; omega, h2, h3, ?_⟩
    · rw [show (bs.take h).length = h by rw [List.length_take]; omega]
    · intro i x hx
      have hi : i < h := by
        have := (List.getElem?_eq_some_iff.1 hx).1
        rw [List.length_take] at this
        omega
      rw [List.getElem?_take_of_lt hi] at hx
      exact h4 i x hx

/-- Bytes appended to bytes of the call's own; the operation may stand behind a guard that says yes. -/
theorem append_sw {w : World} {ops : Array Oper} {rest : List Oper} {o : Oper} {a : Act} {Q : Exit → Act → World → Prop} (hw : Region.wanted o (yielded ops a.tmps) = true) (s x : Operand)
    (ho : o.op = .call { callee := .builtin .append, args := #[s, x], argTypes := #[22, 22] })
    (W0 : World) (hl : Later W0 w) (v : Value) (xs : List Int) (hs : a.eval s = v) (hown : SL .u8 5 w W0.heap.size v xs)
    (u : Value) (ys : List Int) (hx : a.eval x = u) (hy : Sk .u8 w u ys) (hb : xs.length + ys.length ≤ 100000)
    (h : ∀ v' w', SL .u8 5 w' W0.heap.size v' (xs ++ ys) → Later W0 w' → wpList Tryd.prog ops Q rest (a.put o.dst v') w') : wpList Tryd.prog ops Q (o :: rest) a w := by
  obtain ⟨i0, hi, hz0, hz1, hz2⟩ := info_parts info_byte
  rcases hy.src with ⟨rfl, rfl⟩ | ⟨ad, cap, rfl, hc⟩
  · refine BigFrame.wpList_want hw fun K hK => ?_
    have hrun := run_append_owned_none (P := Tryd.prog) (w := w) W0.heap.size 22 o.type 5 i0 1 Tryd.underlying22 hi v _ _ hown
    unfold Oper.wp
    simp [execOp, ho, resolve, invoke, builtin, hs, hx, hrun, Result.andThen]
    exact hK _ _ (h v w (by rw [List.append_nil]; exact hown) hl)
  · refine BigFrame.wpList_want hw fun K hK => ?_
    refine wp_append_own w s x 22 ho W0.heap.size 5 i0 (.int .u8 0) 1 1 Tryd.underlying22 hi hz0 hz1 hz2 rfl (by decide) v _ _ hs hown ad ys.length cap (ys.map (Value.int .u8)) hx (by simp) hc (by intro u hu; obtain ⟨y, _, rfl⟩ := List.mem_map.1 hu; rfl) (by simp only [maxLen]; omega) (by omega) hl.size ?_
    intro v' w' h1 h2 _
    refine hK _ _ (h v' w' ?_ (later_grown hl hown h2))
    unfold SL
    rw [List.length_append, List.map_append]
    exact h1

theorem append_sk {w : World} {ops : Array Oper} {rest : List Oper} {o : Oper} {a : Act} {Q : Exit → Act → World → Prop} (hgd : o.guard = none) (s x : Operand)
    (ho : o.op = .call { callee := .builtin .append, args := #[s, x], argTypes := #[22, 22] })
    (W0 : World) (hl : Later W0 w) (v : Value) (xs : List Int) (hs : a.eval s = v) (hown : SL .u8 5 w W0.heap.size v xs)
    (u : Value) (ys : List Int) (hx : a.eval x = u) (hy : Sk .u8 w u ys) (hb : xs.length + ys.length ≤ 100000)
    (h : ∀ v' w', SL .u8 5 w' W0.heap.size v' (xs ++ ys) → Later W0 w' → wpList Tryd.prog ops Q rest (a.put o.dst v') w') : wpList Tryd.prog ops Q (o :: rest) a w :=
  append_sw (by simp [Region.wanted, hgd]) s x ho W0 hl v xs hs hown u ys hx hy hb h

/-- An empty slice that has just been made. -/
theorem SL.made (W0 w : World) (h : Later W0 w) : SL .u8 5 (w.alloc (.cells #[] 5)) W0.heap.size (.slice (some ⟨w.heap.size, 0, none⟩) 0 0) [] := by
  refine ⟨rfl, .inr ⟨w.heap.size, 0, #[], rfl, h.size, heap_alloc_new _ _, by simp, by simp, by simp, by simp⟩⟩

/-- A slice that begins its block, one of its numbers turned. -/
theorem Sk.set {k : IntKind} {W : World} {g n cap : Nat} {xs : List Int} (h : Sk k W (.slice (some ⟨g, 0, none⟩) n cap) xs) (i : Nat) (x : Int) (hi : i < xs.length) : Sk k (W.setCell ⟨g, i, none⟩ (.int k x)) (.slice (some ⟨g, 0, none⟩) n cap) (xs.set i x) := by
  obtain ⟨ad, cap', e, h1, h2, h3, h4⟩ := h
  simp only [Value.slice.injEq] at e
  obtain ⟨rfl, rfl, rfl⟩ := e
  refine ⟨_, _, by rw [List.length_set], by rw [List.length_set]; exact h1, h2, by simp, fun j y hy => ?_⟩
  refine ⟨g, 0, rfl, ?_⟩
  rw [Nat.zero_add]
  by_cases hj : j = i
  · subst hj
    obtain ⟨b, off, e, c⟩ := h4 j (xs.getD j 0) (by simp [hi])
    simp only [Option.some.injEq, Addr.mk.injEq, and_true] at e
    obtain ⟨rfl, rfl⟩ := e
    rw [Nat.zero_add] at c
    rw [World.cell?_setCell_same (h := c)]
    rw [List.getElem?_set_self hi] at hy
    simpa using hy
  · rw [List.getElem?_set_ne (by omega)] at hy
    obtain ⟨b, off, e, c⟩ := h4 j y hy
    simp only [Option.some.injEq, Addr.mk.injEq, and_true] at e
    obtain ⟨rfl, rfl⟩ := e
    rw [Nat.zero_add] at c
    rw [World.cell?_setCell_other (h := by intro e; simp only [Addr.mk.injEq, and_true, true_and] at e; omega)]
    exact c

/-- The same as one step of a region that draws its order. -/
theorem step_append_sk {w : World} {ops : Array Oper} {o : Oper} {a : Act} {K : Act → World → Prop} {Q : Exit → Act → World → Prop} {E : Prop} (hg : o.guard = none) (s x : Operand)
    (ho : o.op = .call { callee := .builtin .append, args := #[s, x], argTypes := #[22, 22] })
    (W0 : World) (hl : Later W0 w) (v : Value) (xs : List Int) (hs : a.eval s = v) (hown : SL .u8 5 w W0.heap.size v xs)
    (u : Value) (ys : List Int) (hx : a.eval x = u) (hy : Sk .u8 w u ys) (hp : 0 < ys.length) (hb : xs.length + ys.length ≤ 100000)
    (hK : ∀ v' w', SL .u8 5 w' W0.heap.size v' (xs ++ ys) → Later W0 w' → K (a.put o.dst v') w') : if Region.wanted o (yielded ops a.tmps) = true then Oper.wp Tryd.prog o a w K Q else E := by
  have hw : Region.wanted o (yielded ops a.tmps) = true := by simp [Region.wanted, hg]
  rw [if_pos hw]
  obtain ⟨i0, hi, hz0, hz1, hz2⟩ := info_parts info_byte
  rcases hy.src with ⟨_, rfl⟩ | ⟨ad, cap, rfl, hc⟩
  · simp at hp
  · refine wp_append_own w s x 22 ho W0.heap.size 5 i0 (.int .u8 0) 1 1 Tryd.underlying22 hi hz0 hz1 hz2 rfl (by decide) v _ _ hs hown ad ys.length cap (ys.map (Value.int .u8)) hx (by simp) hc (by intro u hu; obtain ⟨y, _, rfl⟩ := List.mem_map.1 hu; rfl) (by simp only [maxLen]; omega) (by omega) hl.size ?_
    intro v' w' h1 h2 _
    refine hK _ _ ?_ (later_grown hl hown h2)
    unfold SL
    rw [List.length_append, List.map_append]
    exact h1

/-- Bytes that have just been made. -/
theorem sk_made (W : World) (n : Nat) (h : n ≤ 100000) : Sk .u8 (W.alloc (.cells (zb n).toArray 5)) (.slice (some ⟨W.heap.size, 0, none⟩) n n) (List.replicate n 0) := by
  have := Sk.row (k := .u8) (xs := List.replicate n 0) (cap := n) (heap_alloc_new W (.cells (zb n).toArray 5)) (fun i x hx => by
    rw [List.getElem?_replicate] at hx
    split at hx
    · rename_i hi
      simp at hx
      subst hx
      simp [zb, hi]
    · simp at hx) (by simp) (by omega)
  simpa using this

end Go.Proofs.YtdljmpaabpkmkaaDoor.By
