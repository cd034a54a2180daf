/-
  The record of a slot that is chosen, and the latest record of both, by the program. Conditions: the table lies where the program lays it; the bytes are bytes, and at most 20000 each.
-/
import Derived.Test.YtdljmpaabpkmkaaDoorFg
import Derived.Shelf.Abstract
namespace Go.Proofs.YtdljmpaabpkmkaaDoor.Fls
set_option maxRecDepth 100000
open Go.ChangeShapes Go.WideShapes Go.ChangeAt Go.RowKit
open Go.Proofs.YtdljmpaabpkmkaaDoor.Divs Go.Proofs.YtdljmpaabpkmkaaDoor.Grow Go.Proofs.YtdljmpaabpkmkaaDoor.By Go.Proofs.YtdljmpaabpkmkaaDoor.Wi Go.Proofs.YtdljmpaabpkmkaaDoor.Fa
open Go.Proofs.YtdljmpaabpkmkaaDoor.Crc (Laid)

/-- v is a flash of these slots. -/
def Fv (W : World) (v : Value) (a b : List Int) : Prop := ∃ u x, v = .agg #[u, x] ∧ Sk .u8 W u a ∧ Sk .u8 W x b

theorem Fv.later {W W' : World} {v : Value} {a b : List Int} (h : Fv W v a b) (g : Later W W') : Fv W' v a b := by
  obtain ⟨u, x, rfl, hu, hx⟩ := h
  exact ⟨u, x, rfl, hu.later g, hx.later g⟩

theorem fv_nil (W : World) : Fv W (.agg #[.slice none 0 0, .slice none 0 0]) [] [] := ⟨_, _, rfl, sk_nil _ _, sk_nil _ _⟩

theorem first_any (g : Nat) (w : World) : Calls Tryd.prog 22 #[.pointer (some ⟨g, 0, none⟩)] w fun e w' => e = .returned (.pointer (some ⟨g, 0, none⟩)) ∧ w = w' := by
  go_enter Tryd.func22, Tryd.ntmps22
  go_wp2
  go_ret
  exact ⟨rfl, rfl⟩

theorem second_any (g : Nat) (w : World) : Calls Tryd.prog 23 #[.pointer (some ⟨g, 0, none⟩)] w fun e w' => e = .returned (.pointer (some ⟨g, 1, none⟩)) ∧ w = w' := by
  go_enter Tryd.func23, Tryd.ntmps23
  go_wp2
  go_ret
  exact ⟨rfl, rfl⟩

/-- The choice k takes the slot o. -/
def Chose (k : FuncId) (o : Nat) : Prop := (∀ args W, (callFunc k args).run Tryd.prog W = .ok (.enter k args) W) ∧ ∀ g W, Calls Tryd.prog k #[.pointer (some ⟨g, 0, none⟩)] W fun e w' => e = .returned (.pointer (some ⟨g, o, none⟩)) ∧ W = w'

theorem chose_first : Chose 22 0 := ⟨enters_of Tryd.func22 (by kernel_rfl) rfl, first_any⟩

theorem chose_second : Chose 23 1 := ⟨enters_of Tryd.func23 (by kernel_rfl) rfl, second_any⟩

set_option maxHeartbeats 1000000 in
theorem recordof_any (k : FuncId) (o : Nat) (hk : Chose k o) (a b xs : List Int) (uo : Value) (a1 a2 : Option Addr) (k1 k2 : Nat) (hxs : #[Value.slice a1 a.length k1, Value.slice a2 b.length k2][o]? = some uo)
    (hb : By xs) (hn : xs.length ≤ 20000) (w : World) (hs : Sk .u8 w uo xs) (hL : Laid w) :
    Calls Tryd.prog 26 #[.agg #[.slice a1 a.length k1, .slice a2 b.length k2], .func (.func k) #[] #[]] w fun e w' => ∃ u, e = .returned (.tuple #[u, .int .i64 (rd xs).2]) ∧ Rk w' u (rd xs).1 ∧ Later w w' := by
  obtain ⟨ek, hk⟩ := hk
  have HK := Lib.hid hk
  have K := Lib.hid (fun W (g : Later w W) => pread_any xs hb hn uo W (hs.later g) (hL.grown g))
  have HL : Hid (Later w (((w.alloc (.cells #[.slice a1 a.length k1, .slice a2 b.length k2] 24)).alloc (.cells #[.int .i64 0, .int .i64 0, .int .i64 0, .slice none 0 0] 26)).alloc (.cells #[.slice a1 a.length k1, .slice a2 b.length k2] 75))) := Lib.hid ((((Later.refl w).put _).put _).put _)
  have R3 : RA (((w.alloc (.cells #[.slice a1 a.length k1, .slice a2 b.length k2] 24)).alloc (.cells #[.int .i64 0, .int .i64 0, .int .i64 0, .slice none 0 0] 26)).alloc (.cells #[.slice a1 a.length k1, .slice a2 b.length k2] 75)) (w.heap.size + 1 + 1) #[.slice a1 a.length k1, .slice a2 b.length k2] 75 := by
    have := RA.new ((w.alloc (.cells #[.slice a1 a.length k1, .slice a2 b.length k2] 24)).alloc (.cells #[.int .i64 0, .int .i64 0, .int .i64 0, .slice none 0 0] 26)) #[.slice a1 a.length k1, .slice a2 b.length k2] 75
    rwa [World.size_alloc, World.size_alloc] at this
  have R2 : RA (((w.alloc (.cells #[.slice a1 a.length k1, .slice a2 b.length k2] 24)).alloc (.cells #[.int .i64 0, .int .i64 0, .int .i64 0, .slice none 0 0] 26)).alloc (.cells #[.slice a1 a.length k1, .slice a2 b.length k2] 75)) (w.heap.size + 1) #[.int .i64 0, .int .i64 0, .int .i64 0, .slice none 0 0] 26 := by
    have := (RA.new (w.alloc (.cells #[.slice a1 a.length k1, .slice a2 b.length k2] 24)) #[.int .i64 0, .int .i64 0, .int .i64 0, .slice none 0 0] 26).later ((Later.refl _).put (.cells #[.slice a1 a.length k1, .slice a2 b.length k2] 75))
    rwa [World.size_alloc] at this
  have HR2 := Lib.hid R2
  have hc := R3.cell o uo hxs
  obtain ⟨a3, k3, rfl, _⟩ := hs.len
  clear hk hs hb hn hL R2 R3 hxs
  go_enter Tryd.func26, Tryd.ntmps26
  go_wp2_with fail
  refine (HK.out _ _).mono ?_
  rintro e w1 ⟨rfl, rfl⟩
  go_wp2_with fail
  refine (K.out _ HL.out).mono ?_
  rintro e w3 ⟨u, rfl, ⟨v, rfl, hv⟩, hg3⟩
  have HG3 := Lib.hid (gtrans HL.out hg3)
  have HR3 := Lib.hid (HR2.out.later hg3)
  have HV := Lib.hid hv
  obtain ⟨a4, k4, rfl, _⟩ := hv.len
  have c0 := HR3.out.cell 0 _ rfl
  have c1 := HR3.out.cell 1 _ rfl
  have c2 := HR3.out.cell 2 _ rfl
  have c3 := HR3.out.cell 3 _ rfl
  have f0 := HR3.out.froz 0
  have f1 := HR3.out.froz 1
  have f2 := HR3.out.froz 2
  have f3 := HR3.out.froz 3
  clear hv hg3 hc
  go_wp2_with fail
  refine bodyPost_ret (results_rt (P := Tryd.prog) (fn := Tryd.f26) Tryd.results26 _ _ (w.heap.size + 1) 26 _ _ _ rfl rfl (HR3.out.set4 _ _ _ _) Tryd.underlying26 rfl (by kernel_rfl)) rfl ?_
  exact ⟨_, rfl, ⟨_, rfl, sk_out HV.out HR3.out (nb4 _ _ _ _ _ _) (Out.set4 _ _ _ _ _ _)⟩, later_set4 HG3.out (by omega) _ _ _ _⟩

end Go.Proofs.YtdljmpaabpkmkaaDoor.Fls
