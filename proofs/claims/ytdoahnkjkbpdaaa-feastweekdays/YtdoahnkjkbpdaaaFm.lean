/-
  The program's map of the feasts' days: how a look-up at a date answers, behind stores in whatever order. Conditions: as each theorem says.
-/
import Derived.Test.YtdoahnkjkbpdaaaDy
import Derived.Test.YtdoahnkjkbpdaaaFe
import Derived.RegionTactic
import Derived.Laws.StructEq
namespace Go.Proofs.Ytdoahnkjkbpdaaa.Feast
open Go.ChangeShapes Go.WideShapes Go.ChangeAt Go.RowKit
open Go.Proofs.Ytdoahnkjkbpdaaa.Divs Go.Proofs.Ytdoahnkjkbpdaaa.Grow Go.Proofs.Ytdoahnkjkbpdaaa.Mol Go.Proofs.Ytdoahnkjkbpdaaa.Hebrew
open Go.Proofs.Ytdoahnkjkbpdaaa.Year (lh mh pt md mp p1 p2 po dl ny yl)
open Go.Proofs.Ytdoahnkjkbpdaaa.Heb (hd ha ups)
open Go.Proofs.Ytdoahnkjkbpdaaa.Fe

/-- A key of the map. -/
def kv (m d : Int) : Value := .agg #[.int .i64 m, .int .i64 d]

/-- The entries are these, in this order. -/
def Tab (es : List MapEntry) (L : List (Int × Int × Int)) : Prop := es.map (fun e => (e.key, e.val)) = L.map (fun x => (kv x.1 x.2.1, Value.int .i64 x.2.2))

/-- What such a row of entries answers. -/
def look : List (Int × Int × Int) → Int → Int → Int
  | [], _, _ => 0
  | x :: r, m, d => if m = x.1 ∧ d = x.2.1 then x.2.2 else look r m d

theorem look_snoc (L : List (Int × Int × Int)) (m0 d0 k : Int) (h : look L m0 d0 = 0) (hL : ∀ x ∈ L, x.2.2 ≠ 0) (m d : Int) : look (L ++ [(m0, d0, k)]) m d = if m = m0 ∧ d = d0 then k else look L m d := by
  induction L with
  | nil => simp [look]
  | cons x r ih =>
    simp only [look] at h
    simp only [List.cons_append, look]
    by_cases c : m0 = x.1 ∧ d0 = x.2.1
    · rw [if_pos c] at h
      exact absurd h (hL x (by simp))
    · rw [if_neg c] at h
      rw [ih h (fun y hy => hL y (by simp [hy]))]
      by_cases e : m = x.1 ∧ d = x.2.1
      · rw [if_pos e, if_neg (by rintro ⟨rfl, rfl⟩; exact c e), if_pos e]
      · rw [if_neg e, if_neg e]

theorem equal_any (m d m' d' : Int) (w : World) : (Op.equal 68 (kv m d) (kv m' d')).run Try.prog w = .ok (decide (m = m' ∧ d = d')) w := by
  have u3 := Try.underlying3
  have a3 := Try.isAgg3
  have z3 := Try.sizeOf3
  have hS : Try.prog.underlying 68 = some (.struct (Try.prog.fieldsOf 68)) := by kernel_rfl
  have hp : Try.prog.stoodInHeld 68 = false := by kernel_rfl
  unfold Op.equal kv
  rw [show Op.maxDepth = 9999 + 1 from rfl, run_equalIn_agg w 9999 68 _ _ hS hp]
  simp only [Program.fieldsOf, Try.underlying68]
  go_simp
  by_cases h1 : m = m' <;> by_cases h2 : d = d' <;> simp [h1, h2]

theorem check_any (m d : Int) (b : Bool) (w : World) : (Instr.checkKey b 10000 68 (kv m d)).run Try.prog w = .ok () w := by
  have u3 := Try.underlying3
  have a3 := Try.isAgg3
  have z3 := Try.sizeOf3
  have c3 : ∀ (v : Int) (w : World), (Instr.checkKey b 9999 3 (.int .i64 v)).run Try.prog w = .ok () w := fun v w => by
    rw [show (9999 : Nat) = 9998 + 1 from rfl, Instr.checkKey]
    simp only [Sem.run_bind, run_underlying Try.underlying3, Result.andThen_ok, Sem.run_pure]
  unfold kv
  rw [show (10000 : Nat) = 9999 + 1 from rfl, Instr.checkKey]
  simp only [Sem.run_bind, run_underlying Try.underlying68, Result.andThen_ok]
  go_simp

theorem asking_any (m d : Int) (w : World) (es : List MapEntry) (L : List (Int × Int × Int)) (i : Nat) (h : Tab es L) (hL : ∀ x ∈ L, x.2.2 ≠ 0) :
    ∃ r, (Instr.findAsking 68 (kv m d) es i).run Try.prog w = .ok r w ∧ ((look L m d = 0 ∧ r = none) ∨ (look L m d ≠ 0 ∧ ∃ j, r = some (j, .int .i64 (look L m d)))) := by
  induction L generalizing es i with
  | nil =>
    obtain rfl : es = [] := by simpa [Tab] using h
    exact ⟨none, by simp [Instr.findAsking], .inl ⟨rfl, rfl⟩⟩
  | cons x r ih =>
    cases es with
    | nil => simp [Tab] at h
    | cons e es =>
      simp only [Tab, List.map_cons, List.cons.injEq, Prod.mk.injEq] at h
      obtain ⟨⟨hk, hv⟩, hr⟩ := h
      have q := equal_any m d x.1 x.2.1 w
      simp only [look]
      by_cases c : m = x.1 ∧ d = x.2.1
      · rw [if_pos c]
        rw [decide_eq_true c] at q
        exact ⟨some (i, .int .i64 x.2.2), by simp [Instr.findAsking, hk, q, hv], .inr ⟨hL x (by simp), i, rfl⟩⟩
      · rw [if_neg c]
        rw [decide_eq_false c] at q
        obtain ⟨o, ho, hh⟩ := ih es (i + 1) hr (fun y hy => hL y (by simp [hy]))
        exact ⟨o, by simp [Instr.findAsking, hk, q, ho], hh⟩

theorem find_any (m d : Int) (w : World) (es : List MapEntry) (L : List (Int × Int × Int)) (h : Tab es L) (hL : ∀ x ∈ L, x.2.2 ≠ 0) :
    ∃ r, (Instr.findKey 68 (kv m d) es).run Try.prog w = .ok r w ∧ ((look L m d = 0 ∧ r = none) ∨ (look L m d ≠ 0 ∧ ∃ j, r = some (j, .int .i64 (look L m d)))) := by
  obtain ⟨r, h1, h2⟩ := asking_any m d w es L 0 h hL
  unfold Instr.findKey
  simp only [Sem.run_bind, run_underlying Try.underlying68, Result.andThen_ok]
  cases es with
  | nil =>
    refine ⟨r, ?_, h2⟩
    simp [Instr.findAsking] at h1
    simp [Instr.findNow, h1]
  | cons e es =>
    refine ⟨r, ?_, h2⟩
    rw [← h1]
    rfl

/-- Block b is a map that answers by f. -/
def FMap (w : World) (b : Nat) (f : Int → Int → Int) : Prop :=
  ∃ (es : Array MapEntry) (clock : Nat) (L : List (Int × Int × Int)), w.heap[b]? = some (.map es clock) ∧ Tab es.toList L ∧ (∀ x ∈ L, x.2.2 ≠ 0) ∧ ∀ m d, look L m d = f m d

theorem FMap.lt {w : World} {b : Nat} {f : Int → Int → Int} (h : FMap w b f) : b < w.heap.size := by
  obtain ⟨es, clock, L, hb, _⟩ := h
  exact (Array.getElem?_eq_some_iff.1 hb).1

theorem FMap.same {w w' : World} {b : Nat} {f : Int → Int → Int} (h : FMap w b f) (e : w'.heap[b]? = w.heap[b]?) : FMap w' b f := by
  obtain ⟨es, clock, L, hb, h2⟩ := h
  exact ⟨es, clock, L, e.trans hb, h2⟩

theorem FMap.later {w w' : World} {b : Nat} {f : Int → Int → Int} (h : FMap w b f) (g : Later w w') : FMap w' b f := h.same (g.2.2.2 b h.lt)

theorem FMap.new (w : World) : FMap (w.alloc (.map #[] 0)) w.heap.size (fun _ _ => 0) :=
  ⟨#[], 0, [], World.alloc_heap_new w _, by simp [Tab], by simp, fun _ _ => rfl⟩

/-- A look-up. -/
theorem FMap.lookup {w : World} {b : Nat} {f : Int → Int → Int} (h : FMap w b f) (m d : Int) :
    (Instr.lookup 65 (.map (some b)) (.agg #[.int .i64 m, .int .i64 d]) false).run Try.prog w = .ok (.int .i64 (f m d)) w := by
  obtain ⟨es, clock, L, hb, hT, hL, hf⟩ := h
  obtain ⟨r, h1, h2⟩ := find_any m d w es.toList L hT hL
  have hc := check_any m d es.isEmpty w
  have hz := Try.zeroValue3 w
  rw [← hf m d]
  unfold Instr.lookup
  unfold kv at h1 hc
  rcases h2 with ⟨e, rfl⟩ | ⟨e, j, rfl⟩
  · rw [e]
    simp [run_underlying Try.underlying65, MapKept.run_getObj_map hb, hc, h1, hz]
  · simp [run_underlying Try.underlying65, MapKept.run_getObj_map hb, hc, h1]

/-- A store at a date that is not there. -/
theorem FMap.update {w : World} {b : Nat} {f : Int → Int → Int} (h : FMap w b f) (m d k : Int) (h0 : f m d = 0) (k0 : k ≠ 0) :
    ∃ w', (Instr.mapUpdate 65 (.map (some b)) (.agg #[.int .i64 m, .int .i64 d]) (.int .i64 k)).run Try.prog w = .ok () w' ∧ FMap w' b (fun m' d' => if m' = m ∧ d' = d then k else f m' d') ∧ w.grownBy w' (some b) := by
  obtain ⟨es, clock, L, hb, hT, hL, hf⟩ := h
  obtain ⟨r, h1, h2⟩ := find_any m d w es.toList L hT hL
  have hc := check_any m d false w
  have hz : look L m d = 0 := by rw [hf]; exact h0
  obtain ⟨_, rfl⟩ | ⟨e, _⟩ := h2
  · have hb' := (Array.getElem?_eq_some_iff.1 hb).1
    refine ⟨w.putObj b (.map (es.push { key := kv m d, val := .int .i64 k, born := clock }) (clock + 1)), ?_, ⟨_, _, L ++ [(m, d, k)], World.putObj_heap_same hb', ?_, ?_, fun m' d' => ?_⟩, grownBy_putObj' w b _⟩
    · unfold Instr.mapUpdate
      unfold kv at h1 hc
      simp [run_underlying Try.underlying65, MapKept.run_getObj_map hb, MapKept.run_setObj_map _ hb, hc, h1, kv, World.putObj]
    · unfold Tab at hT ⊢
      simp [hT]
    · intro x hx
      rcases List.mem_append.1 hx with hx | hx
      · exact hL x hx
      · obtain rfl : x = (m, d, k) := by simpa using hx
        exact k0
    · rw [look_snoc L m d k hz hL, hf]
  · exact absurd hz e

end Go.Proofs.Ytdoahnkjkbpdaaa.Feast
