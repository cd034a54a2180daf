/-
  Records as values: whether one may be, whether two are the same, by the program and by the document's reckoning. Conditions: the bytes are bytes.
-/
import Derived.Test.YtdljmpaabpkmkaaDoorWf
import Derived.Test.YtdljmpaabpkmkaaDoorKo
import Derived.Test.YtdljmpaabpkmkaaDoorFa
import Derived.Laws.BytesArg
namespace Go.Proofs.YtdljmpaabpkmkaaDoor.Fls
open Go.ChangeShapes Go.WideShapes Go.ChangeAt Go.RowKit
open Go.Proofs.YtdljmpaabpkmkaaDoor.Divs Go.Proofs.YtdljmpaabpkmkaaDoor.Grow Go.Proofs.YtdljmpaabpkmkaaDoor.By Go.Proofs.YtdljmpaabpkmkaaDoor.Wi Go.Proofs.YtdljmpaabpkmkaaDoor.Fa

/-- v is this record. -/
def Rk (W : World) (v : Value) (r : Rc) : Prop := ∃ u, v = .agg #[.int .i64 r.g, .int .i64 r.c, .int .i64 r.m, u] ∧ Sk .u8 W u r.b

theorem Rk.later {W W' : World} {v : Value} {r : Rc} (h : Rk W v r) (g : Later W W') : Rk W' v r := by
  obtain ⟨u, rfl, hu⟩ := h
  exact ⟨u, rfl, hu.later g⟩

theorem rk_zero (W : World) : Rk W (.agg #[.int .i64 0, .int .i64 0, .int .i64 0, .slice none 0 0]) r0 := ⟨_, rfl, sk_nil _ _⟩

theorem may_split (r : Rc) : (may r = false ∧ ¬ 1 ≤ r.g) ∨ (may r = false ∧ 1 ≤ r.g ∧ ¬ r.g ≤ 1099511627776) ∨ (may r = false ∧ 1 ≤ r.g ∧ r.g ≤ 1099511627776 ∧ ¬ 0 ≤ r.m) ∨ (may r = false ∧ 1 ≤ r.g ∧ r.g ≤ 1099511627776 ∧ 0 ≤ r.m ∧ ¬ r.m ≤ 5) ∨ (may r = false ∧ 1 ≤ r.g ∧ r.g ≤ 1099511627776 ∧ 0 ≤ r.m ∧ r.m ≤ 5 ∧ ¬ (r.b.length : Int) ≤ 4096) ∨ (may r = true ∧ 1 ≤ r.g ∧ r.g ≤ 1099511627776 ∧ 0 ≤ r.m ∧ r.m ≤ 5 ∧ (r.b.length : Int) ≤ 4096) := by
  have h := may_iff r
  by_cases hm : may r = true
  · obtain ⟨a, b, c, d, e⟩ := h.1 hm
    exact .inr (.inr (.inr (.inr (.inr ⟨hm, a, b, c, d, by omega⟩))))
  · have hf : may r = false := by simpa using hm
    by_cases a : 1 ≤ r.g
    · by_cases b : r.g ≤ 1099511627776
      · by_cases c : 0 ≤ r.m
        · by_cases d : r.m ≤ 5
          · exact .inr (.inr (.inr (.inr (.inl ⟨hf, a, b, c, d, fun e => hm (h.2 ⟨a, b, c, d, by omega⟩)⟩))))
          · exact .inr (.inr (.inr (.inl ⟨hf, a, b, c, d⟩)))
        · exact .inr (.inr (.inl ⟨hf, a, b, c⟩))
      · exact .inr (.inl ⟨hf, a, b⟩)
    · exact .inl ⟨hf, a⟩

theorem pmay_any (r : Rc) (v : Value) (w : World) (h : Rk w v r) : Calls Tryd.prog 28 #[v] w fun e w' => e = .returned (.bool (may r)) ∧ Later w w' := by
  obtain ⟨u, rfl, hu⟩ := h
  obtain ⟨ad, cap, rfl, hm⟩ := hu.len
  clear hu
  have HS := may_split r
  obtain ⟨B, hB⟩ : ∃ B, B = may r := ⟨_, rfl⟩
  rw [← hB] at HS ⊢
  clear hB
  obtain ⟨g, c, m, b⟩ := r
  simp only at *
  generalize b.length = n at *
  rcases HS with ⟨rfl, h1⟩ | ⟨rfl, h1, h2⟩ | ⟨rfl, h1, h2, h3⟩ | ⟨rfl, h1, h2, h3, h4⟩ | ⟨rfl, h1, h2, h3, h4, h5⟩ | ⟨rfl, h1, h2, h3, h4, h5⟩
  all_goals
    go_enter Tryd.func28, Tryd.ntmps28
    go_wp2
    go_ret
    exact ⟨rfl, (Later.refl w).put _⟩

theorem rmay_any (r : Rc) (v : Value) (w : World) (h : Rk w v r) : Calls Tryd.prog 21 #[v] w fun e w' => e = .returned (.bool (may r)) ∧ Later w w' := by
  obtain ⟨u, rfl, hu⟩ := h
  obtain ⟨ad, cap, rfl, hm⟩ := hu.len
  clear hu
  have HS := may_split r
  obtain ⟨B, hB⟩ : ∃ B, B = may r := ⟨_, rfl⟩
  rw [← hB] at HS ⊢
  clear hB
  obtain ⟨g, c, m, b⟩ := r
  simp only at *
  generalize b.length = n at *
  rcases HS with ⟨rfl, h1⟩ | ⟨rfl, h1, h2⟩ | ⟨rfl, h1, h2, h3⟩ | ⟨rfl, h1, h2, h3, h4⟩ | ⟨rfl, h1, h2, h3, h4, h5⟩ | ⟨rfl, h1, h2, h3, h4, h5⟩
  all_goals
    go_enter Tryd.func21, Tryd.ntmps21
    go_wp2
    go_ret
    exact ⟨rfl, (Later.refl w).put _⟩

/-- Bytes as a string. -/
theorem conv_any (xs : List Int) (v : Value) (w : World) (hs : Sk .u8 w v xs) : (convert 22 9 v).run Tryd.prog w = .ok (.string (strOfNums xs)) w := by
  rcases Nat.eq_zero_or_pos xs.length with h0 | h0
  · obtain rfl := List.length_eq_zero_iff.1 h0
    obtain ⟨ad, cap, rfl, _⟩ := hs.bare
    cases ad with
    | none => exact run_convert_bytes_nil (P := Tryd.prog) w 22 5 Tryd.underlying22 Tryd.underlying5 0 cap 9 Tryd.underlying9
    | some a =>
      rw [run_convert_bytes_string w 22 9 5 _ 0 cap Tryd.underlying22 Tryd.underlying5 Tryd.underlying9, run_bytesToString w _ 0 cap [] (by
        have := run_loadCells_list (P := Tryd.prog) w a [] (fun j v hj => by simp at hj)
        simpa using this)]
      simp [strOfNums, ByteArray.empty, ByteArray.emptyWithCapacity]
      rfl
  · obtain ⟨b, off, cap, rfl, _, _, _, hc⟩ := hs.has h0
    exact run_convert_bytes_arg (P := Tryd.prog) w 22 5 Tryd.underlying22 Tryd.underlying5 b off xs.length cap xs rfl hc 9 Tryd.underlying9

theorem str_any (xs ys : List Int) (hx : By xs) (hy : By ys) : ((strOfNums xs).toList == (strOfNums ys).toList) = decide (xs = ys) := by
  rw [ByteArray.toList_eq, ByteArray.toList_eq, strOfNums_data, strOfNums_data]
  by_cases h : xs = ys
  · rw [h]
    simp
  · rw [decide_eq_false h]
    apply beq_false_of_ne
    intro e
    apply h
    have hl : xs.length = ys.length := by simpa using congrArg List.length e
    apply List.ext_getElem hl
    intro i h1 h2
    have e1 := congrArg (fun l => l[i]?) e
    simp only [List.getElem?_map, List.getElem?_eq_getElem h1, List.getElem?_eq_getElem h2, Option.map_some, Option.some.injEq] at e1
    have e2 := congrArg UInt8.toNat e1
    obtain ⟨a0, a1⟩ := hx _ (List.getElem_mem h1)
    obtain ⟨b0, b1⟩ := hy _ (List.getElem_mem h2)
    simp at e2
    omega

theorem equal_any (u v : Value) (xs ys : List Int) (w : World) (hu : Sk .u8 w u xs) (hv : Sk .u8 w v ys) (hx : By xs) (hy : By ys) :
    Calls Tryd.prog 36 #[u, v] w fun e w' => e = .returned (.bool (decide (xs = ys))) ∧ Later w w' := by
  have q1 := conv_any xs u w hu
  have q2 := conv_any ys v w hv
  have HE := Lib.hid (str_any xs ys hx hy)
  clear hu hv hx hy
  generalize strOfNums xs = s1 at *
  generalize strOfNums ys = s2 at *
  go_enter Tryd.func36, Tryd.ntmps36
  go_wp2_with fail
  go_ret
  exact ⟨by rw [← HE.out]; rfl, Later.refl w⟩

/-- Are two records the same? -/
def sm (r s : Rc) : Bool := decide (r.g = s.g) && decide (r.c = s.c) && decide (r.m = s.m) && decide (r.b = s.b)

theorem sm_iff (r s : Rc) : sm r s = true ↔ r = s := by
  obtain ⟨g, c, m, b⟩ := r
  obtain ⟨g', c', m', b'⟩ := s
  unfold sm
  simp [and_assoc]

theorem sm_self (r : Rc) : sm r r = true := (sm_iff r r).2 rfl

theorem sm_split (r s : Rc) : (sm r s = false ∧ (r.g == s.g) = false) ∨ (sm r s = false ∧ (r.g == s.g) = true ∧ (r.c == s.c) = false) ∨ (sm r s = false ∧ (r.g == s.g) = true ∧ (r.c == s.c) = true ∧ (r.m == s.m) = false) ∨ (sm r s = decide (r.b = s.b) ∧ (r.g == s.g) = true ∧ (r.c == s.c) = true ∧ (r.m == s.m) = true) := by
  unfold sm
  by_cases h1 : r.g = s.g
  · by_cases h2 : r.c = s.c
    · by_cases h3 : r.m = s.m
      · simp [h1, h2, h3]
      · simp [h1, h2, h3]
    · simp [h1, h2]
  · simp [h1]

set_option maxHeartbeats 1000000 in
theorem psame_any (r s : Rc) (u v : Value) (w : World) (hr : Rk w u r) (hs : Rk w v s) (hx : By r.b) (hy : By s.b) :
    Calls Tryd.prog 20 #[u, v] w fun e w' => e = .returned (.bool (sm r s)) ∧ Later w w' := by
  obtain ⟨u, rfl, hu⟩ := hr
  obtain ⟨v, rfl, hv⟩ := hs
  have E := Lib.hid (fun W (h : Later w W) => equal_any u v r.b s.b W (hu.later h) (hv.later h) hx hy)
  have HS := sm_split r s
  clear hu hv hx hy
  generalize sm r s = B at *
  generalize decide (r.b = s.b) = D at *
  generalize r.g = a1 at *
  generalize r.c = a2 at *
  generalize r.m = a3 at *
  generalize s.g = b1 at *
  generalize s.c = b2 at *
  generalize s.m = b3 at *
  rcases HS with ⟨rfl, h1⟩ | ⟨rfl, h1, h2⟩ | ⟨rfl, h1, h2, h3⟩ | ⟨rfl, h1, h2, h3⟩
  · go_enter Tryd.func20, Tryd.ntmps20
    go_wp2_with fail
    go_ret
    exact ⟨rfl, ((Later.refl w).put _).put _⟩
  · go_enter Tryd.func20, Tryd.ntmps20
    go_wp2_with fail
    go_ret
    exact ⟨rfl, ((Later.refl w).put _).put _⟩
  · go_enter Tryd.func20, Tryd.ntmps20
    go_wp2_with fail
    go_ret
    exact ⟨rfl, ((Later.refl w).put _).put _⟩
  · go_enter Tryd.func20, Tryd.ntmps20
    go_wp2_with fail
    refine (E.out _ (((Later.refl w).put _).put _)).mono ?_
    rintro e w1 ⟨rfl, hg⟩
    go_wp2_with fail
    go_ret
    exact ⟨rfl, gtrans (((Later.refl w).put _).put _) hg⟩

set_option maxHeartbeats 1000000 in
theorem rsame_any (r s : Rc) (u v : Value) (w : World) (hr : Rk w u r) (hs : Rk w v s) :
    Calls Tryd.prog 16 #[u, v] w fun e w' => e = .returned (.bool (sm r s)) ∧ Later w w' := by
  obtain ⟨u, rfl, hu⟩ := hr
  obtain ⟨v, rfl, hv⟩ := hs
  have E := Lib.hid (fun W (h : Later w W) => bsame_any r.b s.b u v W (hu.later h) (hv.later h))
  have HS := sm_split r s
  clear hu hv
  generalize sm r s = B at *
  generalize decide (r.b = s.b) = D at *
  generalize r.g = a1 at *
  generalize r.c = a2 at *
  generalize r.m = a3 at *
  generalize s.g = b1 at *
  generalize s.c = b2 at *
  generalize s.m = b3 at *
  rcases HS with ⟨rfl, h1⟩ | ⟨rfl, h1, h2⟩ | ⟨rfl, h1, h2, h3⟩ | ⟨rfl, h1, h2, h3⟩
  · go_enter Tryd.func16, Tryd.ntmps16
    go_wp2_with fail
    go_ret
    exact ⟨rfl, ((Later.refl w).put _).put _⟩
  · go_enter Tryd.func16, Tryd.ntmps16
    go_wp2_with fail
    go_ret
    exact ⟨rfl, ((Later.refl w).put _).put _⟩
  · go_enter Tryd.func16, Tryd.ntmps16
    go_wp2_with fail
    go_ret
    exact ⟨rfl, ((Later.refl w).put _).put _⟩
  · go_enter Tryd.func16, Tryd.ntmps16
    go_wp2_with fail
    refine (E.out _ (((Later.refl w).put _).put _)).mono ?_
    rintro e w1 ⟨rfl, hg⟩
    go_wp2_with fail
    go_ret
    exact ⟨rfl, gtrans (((Later.refl w).put _).put _) hg⟩

end Go.Proofs.YtdljmpaabpkmkaaDoor.Fls
