/-
  How the program makes the question of an instant's weightiest span.  Conditions: the spans are at most 500.
-/
import Derived.Test.YtmjedpaiccaddaaXk
namespace Go.Proofs.Ytmjedpaiccaddaa.Span
set_option maxRecDepth 100000
open Go.ChangeShapes Go.WideShapes Go.ChangeAt Go.RowKit Go.Sort
open Go.Proofs.Ytmjedpaiccaddaa.Divs Go.Proofs.Ytmjedpaiccaddaa.Grow
open Go.Proofs.Ytmjedpaiccaddaa.Sp
open Go.Proofs.Ytmjedpaiccaddaa.Ss (sl)

theorem clone_any (v : Value) (l : List Sp) (w : World) (h : Ws w v l) (hl : l.length ≤ 5000) :
    Calls Try.prog 29 #[v] w fun e w' => ∃ v', e = .returned v' ∧ WL w' w.heap.size v' l ∧ Later w w' := by
  rcases h.src with ⟨rfl, rfl⟩ | ⟨a, cap, rfl, hc⟩
  · refine (AnyE.slices_Clone_nil Ly.LC 0 0 w).mono ?_
    rintro e w' ⟨rfl, rfl⟩
    exact ⟨_, rfl, WL.nil _ _, Later.refl _⟩
  · have q22 : ∀ (W : World) (n c n' c' : Nat), (binOp .eql 22 (.slice (some a) n c) (.slice none n' c')).run Try.prog W = .ok (.bool false) W := fun W n c n' c' => Lib.run_eql_slice_nil W _ _ (some a) n c n' c' Try.underlying22
    have HS := Lib.hid (h.later ((Later.refl w).alloc #[] 31))
    clear h hc
    go_enter Try.func29, Try.ntmps29
    go_wp2_with (refine append_spans rfl (.tmp 5) (.tmp 6) rfl w ((Later.refl w).alloc _ _) _ [] rfl (WL.made w w (Later.refl w)) _ l rfl HS.out (by simp only [List.length_nil]; omega) ?_; intro v' w1 hw hl _; have HW := Lib.hid hw; have HL := Lib.hid hl; clear hw hl)
    go_ret
    exact ⟨_, rfl, by simpa using HW.out, HL.out⟩

theorem reverse_none (ad : Option Addr) (cap : Nat) (w : World) : Calls Try.prog 30 #[.slice ad 0 cap] w fun e w' => e = .returned (.tuple #[]) ∧ w' = w :=
  AnyQ.slices_Reverse_empty Ly.LR ad cap w

theorem ins_none (ad : Option Addr) (cap g : Nat) (w : World) : Calls Try.prog 45 #[.slice ad 0 cap, .int .i64 0, .int .i64 0, .func (.func g) #[] #[]] w fun e w' => e = .returned (.tuple #[]) ∧ w' = w := by
  go_enter Try.func45, Try.ntmps45
  go_wp2
  refine wp_loop_rounds 1 ?_
  rw [rounds_succ]
  go_wp2
  go_end0
  exact ⟨rfl, rfl⟩

theorem stable_none (ad : Option Addr) (cap g : Nat) (w : World) : Calls Try.prog 41 #[.slice ad 0 cap, .int .i64 0, .func (.func g) #[] #[]] w fun e w' => e = .returned (.tuple #[]) ∧ w' = w := by
  have K := Lib.hid (ins_none ad cap g w)
  go_enter Try.func41, Try.ntmps41
  go_wp2_with fail
  refine wp_loop_rounds 1 ?_
  rw [rounds_succ]
  go_wp2_with fail
  refine K.out.mono ?_
  rintro e w' ⟨rfl, rfl⟩
  go_wp2_with fail
  refine wp_loop_rounds 1 ?_
  rw [rounds_succ]
  go_wp2_with fail
  go_end0
  exact ⟨rfl, rfl⟩

theorem sorts_none (ad : Option Addr) (cap g : Nat) (w : World) : Calls Try.prog 31 #[.slice ad 0 cap, .func (.func g) #[] #[]] w fun e w' => e = .returned (.tuple #[]) ∧ w' = w := by
  have K := Lib.hid (stable_none ad cap g w)
  go_enter Try.func31, Try.ntmps31
  go_wp2_with fail
  refine K.out.mono ?_
  rintro e w' ⟨rfl, rfl⟩
  go_wp2_with fail
  go_end0
  exact ⟨rfl, rfl⟩

/-- e hands back the question of the weightiest one of l. -/
def IsAsk (l : List Sp) (w' : World) (e : Ending) : Prop := ∃ p, e = .returned (.func (.func 35) #[] #[.pointer (some ⟨p, 0, none⟩)]) ∧ Wt w' p l

set_option maxHeartbeats 2000000 in
theorem weigh_any (v : Value) (l : List Sp) (w : World) (h : Ws w v l) (hl : l.length ≤ 500) :
    Calls Try.prog 21 #[v] w fun e w' => IsAsk l w' e ∧ Later w w' := by
  have C := Lib.hid (clone_any v l w h (by omega))
  rcases Nat.eq_zero_or_pos l.length with h0 | h0
  · have R := Lib.hid (fun ad cap W => reverse_none ad cap W)
    have S := Lib.hid (fun ad cap W => sorts_none ad cap 32 W)
    have e := List.length_eq_zero_iff.1 h0
    subst e
    clear h hl h0
    go_enter Try.func21, Try.ntmps21
    go_wp2_with fail
    refine C.out.mono ?_
    rintro e w1 ⟨v1, rfl, hw, hg⟩
    obtain ⟨ad, cap, rfl, _, _⟩ := hw.ws.bare
    have HG := Lib.hid (hg.put (.cells #[.slice ad 0 cap] 22))
    have HT : Hid (Wt (w1.alloc (.cells #[.slice ad 0 cap] 22)) w1.heap.size []) := Lib.hid ⟨_, [], (RA.new w1 _ _).cell 0 _ rfl, hw.ws.later ((Later.refl w1).put _), fun x => rfl⟩
    clear hw hg
    go_wp2_with fail
    refine (R.out _ _ _).mono ?_
    rintro e w2 ⟨rfl, rfl⟩
    go_wp2_with fail
    refine (S.out _ _ _).mono ?_
    rintro e w3 ⟨rfl, rfl⟩
    go_wp2_with fail
    go_ret
    exact ⟨⟨_, rfl, HT.out⟩, HG.out⟩
  · go_enter Try.func21, Try.ntmps21
    go_wp2_with fail
    refine C.out.mono ?_
    rintro e w1 ⟨v1, rfl, hw, hg⟩
    rcases hw.2 with ⟨_, h0'⟩ | ⟨g, cap, cur, rfl, hg0, hgh, hg2, hg3, _⟩
    · omega
    have hcap : cap ≤ 9223372036854775807 := by simpa [maxLen] using hg3
    have hlt := (Array.getElem?_eq_some_iff.1 hgh).1
    obtain ⟨wa, hwa⟩ : ∃ wa, w1.alloc (.cells #[.slice (some ⟨g, 0, none⟩) l.length cap] 22) = wa := ⟨_, rfl⟩
    have hka : wa.cell? ⟨w1.heap.size, 0, none⟩ = some (.slice (some ⟨g, 0, none⟩) l.length cap) := by rw [← hwa]; exact (RA.new w1 _ _).cell 0 _ rfl
    have hla : Later w1 wa := by rw [← hwa]; exact (Later.refl w1).put _
    have hown : wa.ownsRow w.heap.size 31 4 (.slice (some ⟨g, 0, none⟩) l.length cap) l.length (sf l) := hw.later hla
    have hH : HoldsK st4 4 wa g 0 (zi l) := holds_own hown (zi_map l)
    have hzs := zi_size l
    have hblk : g < wa.heap.size := Nat.lt_of_lt_of_le hlt hla.size
    have K2 := AnyQ.slices_Reverse Ly.LR 4 Try.isAgg31 Try.sizeOf31 st4 st4_len st4_one g 0 cap (zi l) wa hH (by omega)
    rw [hzs] at K2
    change Calls Try.prog 30 _ _ _ at K2
    have HK2 := Lib.hid K2
    have HL := Lib.hid (gtrans hg hla)
    have HG0 : Hid (w.heap.size ≤ g) := Lib.hid hg0
    have HH := Lib.hid hH
    have HB := Lib.hid hblk
    have HZ := Lib.hid hzs
    have HC := Lib.hid hcap
    have HN : Hid (w1.heap.size ≠ g) := Lib.hid (by omega)
    have HP := Lib.hid hl
    have HCAP := Lib.hid hg2
    clear K2 hw hg hg0 hgh hg3 hH hzs hblk hlt hown hla h C hcap
    go_wp2_with fail
    clear hwa
    refine HK2.out.mono ?_
    rintro e w2 ⟨rfl, m, hw2⟩
    have hS : SWK st4 4 wa g 0 (zi l).reverse w2 := ⟨m, #[], by rw [hw2]; unfold sortWorldK; rw [grow_empty]⟩
    have hz2 : (zi l).reverse.size = l.length := by rw [Array.size_reverse]; exact HZ.out
    have hH2 : HoldsK st4 4 w2 g 0 (zi l).reverse := hS.holds HB.out HH.out (by rw [Array.size_reverse])
    have hk2 := cell_sort hS HN.out hka
    have hb2 : g < w2.heap.size := hS.lt HB.out
    have HL2 := Lib.hid (later_sort HL.out HG0.out hS)
    have K3 := Ss.sorts_any (P := Try.prog) has (⟨st4_len, st4_one, hH2, hb2⟩ : RowK st4 4 w2 g 0 (zi l).reverse) co (by rw [lt_co]; exact swo_hv) (mk l.length) 32 #[] (enters_of Try.func32 (by kernel_rfl) rfl) (co_lays g 0 _ w2)
      (Ss.ins_any Ly.LI Try.isAgg31 Try.sizeOf31 (⟨st4_len, st4_one, hH2, hb2⟩ : RowK st4 4 w2 g 0 (zi l).reverse) co 32 #[] (enters_of Try.func32 (by kernel_rfl) rfl) (co_lays g 0 _ w2))
      cap l.length w2 (SWK.start hH2) hz2.symm (by have := HP.out; omega) (zi_rise l)
    have HK3 := Lib.hid K3
    have HH2 := Lib.hid hH2
    have HB2 := Lib.hid hb2
    have HZ2 := Lib.hid hz2
    clear K3 hS hz2 hH2 hb2 hw2 hka
    go_wp2_with fail
    refine HK3.out.mono ?_
    rintro e w3 ⟨rfl, d', hS, hp, hs⟩
    have hd' : d'.size = l.length := hp.1.trans HZ2.out
    have HL3 := Lib.hid (later_sort HL2.out HG0.out hS)
    have hk3 := cell_sort hS HN.out hk2
    have hH3 : HoldsK st4 4 w3 g 0 d' := hS.holds HB2.out HH2.out (by rw [hd', HZ2.out])
    rw [lt_co] at hs
    have HT : Hid (Wt w3 w1.heap.size l) := Lib.hid ⟨_, d'.toList.map (·.1), hk3, by rw [← hd']; exact ws_holds hH3 (by rw [hd']; exact HCAP.out) HC.out, zi_order hp hs⟩
    clear hS hp hs hd' hk3 hk2 hH3
    go_wp2_with fail
    go_ret
    exact ⟨⟨_, rfl, HT.out⟩, HL3.out⟩

end Go.Proofs.Ytmjedpaiccaddaa.Span
