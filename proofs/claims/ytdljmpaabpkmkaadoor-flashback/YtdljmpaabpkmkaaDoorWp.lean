/-
  What place, rowSize and Row answer, by the program. Conditions: the numbers are ints; a row has at most 1000 of them.
-/
import Derived.Test.YtdljmpaabpkmkaaDoorWr
import Derived.Maps.AppendAt
import Derived.RangeFuncBox
import Derived.Deep.RegionLaw
namespace Go.Proofs.YtdljmpaabpkmkaaDoor.Wire
open Go.ChangeShapes Go.WideShapes Go.ChangeAt Go.RowKit
open Go.Proofs.YtdljmpaabpkmkaaDoor.Divs Go.Proofs.YtdljmpaabpkmkaaDoor.Grow Go.Proofs.YtdljmpaabpkmkaaDoor.By Go.Proofs.YtdljmpaabpkmkaaDoor.Wi

theorem cut_row (g len k : Nat) (hk : k < len) : ∀ W : World, (Instr.slice 22 (.slice (some ⟨g, 0, none⟩) len len) (some (.int .i64 (k : Int))) none none).run Tryd.prog W = .ok (.slice (some ⟨g, k, none⟩) (len - k) (len - k)) W := by
  intro W
  have := cut_in g 0 len len k hk (Nat.le_refl _) W
  rwa [Nat.zero_add] at this

/-- The bytes of a number, as cells. -/
def cl (n : Int) : List Value := (pu n).map (Value.int .u8)

theorem cl_len (n : Int) : (cl n).length = (pu n).length := by unfold cl; rw [List.length_map]

theorem cl_one (n : Int) : ∀ v ∈ cl n, v.oneCell' = true := by
  intro v hv
  unfold cl at hv
  obtain ⟨x, _, rfl⟩ := List.mem_map.1 hv
  rfl

set_option maxHeartbeats 1000000 in
theorem place_any (g len a : Nat) (n : Int) (cur : List Value) (w : World) (h : In n) (hcur : cur.length = len) (hg : w.heap[g]? = some (.cells cur.toArray 5 (0, 0))) (hfit : a + (pu n).length ≤ len) (hlen : len ≤ 100000) :
    Calls Tryd.prog 45 #[.slice (some ⟨g, 0, none⟩) len len, .int .i64 (a : Int), .int .i64 n] w fun e w' => e = .returned (.int .i64 ((a + (pu n).length : Nat) : Int)) ∧ w'.heap[g]? = some (.cells (splice cur a (cl n)).toArray 5 (0, 0)) ∧ Below g w w' := by
  have D := Lib.hid (fun W => digits_any n W h)
  have l0 := pu_pos n
  have l1 := pu_len n
  have hgl : g < w.heap.size := by
    rcases Nat.lt_or_ge g w.heap.size with h | h
    · exact h
    · rw [Array.getElem?_eq_none h] at hg; simp at hg
  have L := Lib.hid l1
  obtain ⟨k, hk⟩ : ∃ k, k = (pu n).length := ⟨_, rfl⟩
  obtain ⟨cs, hcs⟩ : ∃ cs, cs = cl n := ⟨_, rfl⟩
  rw [← hk] at l0 l1 hfit
  have sl := cut_ten k l1
  have sr := cut_row g len a (by omega)
  obtain ⟨y0, y1, y2, y3, y4, y5, y6, y7, y8, y9, hy⟩ := arr_ten (pu n)
  rw [hy, ← hk] at D
  have hlen' : cs.length = k := by rw [hcs, hk, cl_len]
  have HL := Lib.hid hlen'
  have HY := Lib.hid hy
  have HC := Lib.hid hcs
  have HO : Hid (∀ v ∈ cs, v.oneCell' = true) := by
    have : ∀ v ∈ cs, v.oneCell' = true := by rw [hcs]; exact cl_one n
    exact this
  have HH := Lib.hid hg
  have HU := Lib.hid hcur
  rw [← hk, ← hcs]
  clear hk hy hcs hlen' hg hcur
  go_enter Tryd.func45, Tryd.ntmps45
  go_wp2_with fail
  refine (D.out _).mono ?_
  rintro e w1 ⟨rfl, hg1⟩
  have HG := Lib.hid hg1
  clear hg1
  have HS : Hid (∀ j v, cs[j]? = some v → (w1.alloc (.cells #[.int .u8 y0, .int .u8 y1, .int .u8 y2, .int .u8 y3, .int .u8 y4, .int .u8 y5, .int .u8 y6, .int .u8 y7, .int .u8 y8, .int .u8 y9] 88)).cell? ((⟨w1.heap.size, 0, none⟩ : Addr).add j) = some v) := by
    have : ∀ j v, cs[j]? = some v → (w1.alloc (.cells #[.int .u8 y0, .int .u8 y1, .int .u8 y2, .int .u8 y3, .int .u8 y4, .int .u8 y5, .int .u8 y6, .int .u8 y7, .int .u8 y8, .int .u8 y9] 88)).cell? ((⟨w1.heap.size, 0, none⟩ : Addr).add j) = some v := by
      intro j v hv
      rw [HC.out] at hv
      refine src_ten (fr := (0, 0)) (t := 88) (pu n) L.out ?_ j v hv
      rw [HY.out]
      exact heap_alloc_new _ _
    exact this
  have HR : Hid ((w1.alloc (.cells #[.int .u8 y0, .int .u8 y1, .int .u8 y2, .int .u8 y3, .int .u8 y4, .int .u8 y5, .int .u8 y6, .int .u8 y7, .int .u8 y8, .int .u8 y9] 88)).heap[g]? = some (.cells cur.toArray 5 (0, 0))) :=
    Lib.hid (((HG.out.alloc _ _).2.2.2 g hgl).trans HH.out)
  have HB := Lib.hid ((HG.out.alloc #[.int .u8 y0, .int .u8 y1, .int .u8 y2, .int .u8 y3, .int .u8 y4, .int .u8 y5, .int .u8 y6, .int .u8 y7, .int .u8 y8, .int .u8 y9] 88).below.mono (Nat.le_of_lt hgl))
  go_wp2_with fail
  go_region_law (refine step_copy_splice rfl (.tmp 17) (.tmp 19) 22 22 rfl 5 Tryd.underlying22 (by kernel_rfl) (some ⟨g, a, none⟩) (some ⟨w1.heap.size, 0, none⟩) (len - a) (len - a) k 10 (by simp [Act.eval, Act.put]) (by simp [Act.eval, Act.put]) g a cur 5 HR.out cs (by rw [HL.out]; exact (Nat.min_eq_left (by omega)).symm) (fun _ => ⟨rfl, _, rfl, HS.out⟩) (by rw [HL.out, HU.out]; exact hfit) HO.out g w HB.out.drew (Nat.le_refl _) ?_; intro w2 HG2 hB2)
  go_wp2
  go_ret
  refine ⟨?_, HG2.out, hB2⟩
  have E : IntKind.i64.wrap ((a : Int) + (cs.length : Int)) = ((a + k : Nat) : Int) := by rw [HL.out, IntWalk.i64_in _ (by omega)]; omega
  first | exact ret1 E | exact (ret1 (show (a : Int) + (cs.length : Int) = ((a + k : Nat) : Int) by rw [HL.out]; omega)) | (simp [Act.put, Act.eval]; go_show)

/-- How many bytes a row's first numbers have, and the number of them. -/
def rz (l : List Int) (j : Nat) : Nat := (pu l.length).length + ((l.take j).flatMap pu).length

theorem rz_succ (l : List Int) (j : Nat) (x : Int) (h : l[j]? = some x) : rz l (j + 1) = rz l j + (pu x).length := by
  unfold rz
  rw [List.take_add_one, h, List.flatMap_append, List.length_append]
  simp
  omega

theorem rz_zero (l : List Int) : rz l 0 = (pu l.length).length := by simp [rz]

theorem rz_all (l : List Int) : rz l l.length = (ro l).length := by
  unfold rz ro
  rw [List.take_length, List.length_append]

theorem rz_le (l : List Int) (j : Nat) : rz l j ≤ 10 * l.length + 10 := by
  have a := pu_len l.length
  have b := fm_len (l.take j)
  have c : (l.take j).length ≤ l.length := by rw [List.length_take]; omega
  unfold rz
  omega

def ZRel (l : List Int) (w : World) (s i : Value) (wr : World) : Prop := ∃ j : Nat, j ≤ l.length ∧ i = .int .i64 (j : Int) ∧ s = .int .i64 (rz l j : Int) ∧ Later w wr

theorem size_nil (ad : Option Addr) (cap : Nat) (w : World) : Calls Tryd.prog 44 #[.slice ad 0 cap] w fun e w' => e = .returned (.int .i64 ((ro []).length : Int)) ∧ Later w w' := by
  have D := Lib.hid (fun W => digits_any 0 W ⟨by omega, by omega⟩)
  obtain ⟨y0, y1, y2, y3, y4, y5, y6, y7, y8, y9, hy⟩ := arr_ten (pu 0)
  rw [hy] at D
  have e : (ro []).length = (pu 0).length := by simp [ro]
  rw [e]
  clear e hy
  go_enter Tryd.func44, Tryd.ntmps44
  go_wp2_with fail
  refine (D.out _).mono ?_
  rintro e w1 ⟨rfl, hg1⟩
  have HG := Lib.hid hg1
  clear hg1
  go_wp2
  refine wp_loop_rounds 1 ?_
  rw [rounds_succ]
  go_wp2
  go_ret
  exact ⟨rfl, HG.out.alloc _ _⟩

set_option maxHeartbeats 1000000 in
theorem size_some (l : List Int) (b off cap : Nat) (w : World) (hp : 0 < l.length) (hn : l.length ≤ 1000) (hl : ∀ n ∈ l, In n) (hc : ∀ i, i < l.length → w.cell? ⟨b, off + i, none⟩ = some (.int .i64 (l.getD i 0))) :
    Calls Tryd.prog 44 #[.slice (some ⟨b, off, none⟩) l.length cap] w fun e w' => e = .returned (.int .i64 ((ro l).length : Int)) ∧ Later w w' := by
  have D := Lib.hid (fun n W (h : In n) => digits_any n W h)
  have HC := Lib.hid hc
  have HN := Lib.hid hl
  rw [← rz_all]
  clear hc hl
  go_enter Tryd.func44, Tryd.ntmps44
  go_wp2_with fail
  refine (D.out _ _ ⟨by omega, by omega⟩).mono ?_
  rintro e w1 ⟨rfl, hg1⟩
  have HG := Lib.hid hg1
  clear hg1
  obtain ⟨y0, y1, y2, y3, y4, y5, y6, y7, y8, y9, hy⟩ := arr_ten (pu l.length)
  rw [hy]
  clear hy
  go_wp2
  go_loopw [4, 17] (fun s i wr => ZRel l w s i wr) (fun _ i _ => l.length - (intOf i).toNat)
  case atStart => exact ⟨0, by omega, rfl, by rw [rz_zero], HG.out.alloc _ _⟩
  case round =>
    obtain ⟨j, hj, rfl, rfl, hg⟩ := hrel
    have HR := Lib.hid hg
    clear hg
    by_cases hlt : j < l.length
    · obtain ⟨x, hx⟩ : ∃ x, l[j]? = some x := ⟨_, List.getElem?_eq_getElem hlt⟩
      have c : wr.cell? ⟨b, off + j, none⟩ = some (.int .i64 x) := by
        have := gsome HR.out (HC.out j hlt)
        rwa [List.getD_eq_getElem?_getD, hx] at this
      have HI := Lib.hid (HN.out x (List.mem_of_getElem? hx))
      have HZ := Lib.hid (rz_succ l j x hx)
      have z0 := rz_le l j
      have z1 := pu_len x
      clear hx
      go_wp2_with fail
      refine (D.out _ _ HI.out).mono ?_
      rintro e w2 ⟨rfl, hg2⟩
      have HG2 := Lib.hid (gtrans HR.out hg2)
      clear hg2 c
      obtain ⟨x0, x1, x2, x3, x4, x5, x6, x7, x8, x9, hy⟩ := arr_ten (pu x)
      rw [hy]
      clear hy
      go_wp2
      go_roundw
      case rel => exact ⟨j + 1, by omega, by go_num, by rw [HZ.out]; go_num, HG2.out.alloc _ _⟩
      case measure => simp [intOf]; omega
    · obtain rfl : j = l.length := by omega
      go_wp2
      go_ret
      exact ⟨rfl, HR.out⟩

theorem size_any (l : List Int) (v : Value) (w : World) (hs : Sk .i64 w v l) (hn : l.length ≤ 1000) (hl : ∀ n ∈ l, In n) :
    Calls Tryd.prog 44 #[v] w fun e w' => e = .returned (.int .i64 ((ro l).length : Int)) ∧ Later w w' := by
  rcases Nat.eq_zero_or_pos l.length with h | h
  · obtain rfl := List.length_eq_zero_iff.1 h
    obtain ⟨ad, cap, rfl, _⟩ := hs.bare
    exact size_nil ad cap w
  · obtain ⟨b, off, cap, rfl, _, _, _, hc⟩ := hs.has h
    exact size_some l b off cap w h hn hl hc

/-- Bytes so far, and zeros behind them. -/
def bz (xs : List Int) (n : Nat) : List Value := xs.map (Value.int .u8) ++ zb (n - xs.length)

theorem bz_len (xs : List Int) (n : Nat) (h : xs.length ≤ n) : (bz xs n).length = n := by
  unfold bz zb
  simp
  omega

theorem bz_nil (n : Nat) : bz [] n = zb n := by simp [bz]

theorem bz_splice (xs : List Int) (n : Nat) (x : Int) : splice (bz xs n) xs.length (cl x) = bz (xs ++ pu x) n := by
  unfold splice bz cl zb
  rw [List.take_left' (by simp), List.length_map, List.map_append, List.append_assoc, List.drop_append]
  rw [List.drop_of_length_le (by simp), List.length_map, List.nil_append, List.drop_replicate, List.length_append]
  congr 3
  omega

theorem bz_all (xs : List Int) : bz xs xs.length = xs.map (Value.int .u8) := by simp [bz, zb]

/-- A row's bytes so far. -/
def rb (l : List Int) (j : Nat) : List Int := pu l.length ++ (l.take j).flatMap pu

theorem rb_len (l : List Int) (j : Nat) : (rb l j).length = rz l j := by unfold rb rz; rw [List.length_append]

theorem rb_succ (l : List Int) (j : Nat) (x : Int) (h : l[j]? = some x) : rb l (j + 1) = rb l j ++ pu x := by
  unfold rb
  rw [List.take_add_one, h, List.flatMap_append]
  simp

theorem rb_zero (l : List Int) : rb l 0 = pu l.length := by simp [rb]

theorem rb_all (l : List Int) : rb l l.length = ro l := by unfold rb ro; rw [List.take_length]

theorem rz_mono (l : List Int) (j : Nat) : rz l j ≤ (ro l).length := by
  rw [← rb_len, ← rb_all]
  unfold rb
  rw [List.length_append, List.length_append, List.take_length]
  have : l.flatMap pu = (l.take j).flatMap pu ++ (l.drop j).flatMap pu := by rw [← List.flatMap_append, List.take_append_drop]
  rw [this, List.length_append]
  omega

def WRel (l : List Int) (g : Nat) (w : World) (s i : Value) (wr : World) : Prop := ∃ j : Nat, j ≤ l.length ∧ i = .int .i64 (j : Int) ∧ s = .int .i64 (rz l j : Int) ∧ wr.heap[g]? = some (.cells (bz (rb l j) (ro l).length).toArray 5 (0, 0)) ∧ Below g w wr

theorem row_sk (l : List Int) (g : Nat) (W : World) (h : W.heap[g]? = some (.cells (bz (rb l l.length) (ro l).length).toArray 5 (0, 0))) (hn : (ro l).length ≤ 100000) : Sk .u8 W (.slice (some ⟨g, 0, none⟩) (ro l).length (ro l).length) (ro l) := by
  refine Sk.row h (fun i x hx => ?_) (Nat.le_refl _) (by omega)
  rw [rb_all, bz_all]
  simp [hx]

theorem row_start (l : List Int) (g : Nat) (w2 : World) (h : w2.heap[g]? = some (.cells (splice (zb (ro l).length) 0 (cl l.length)).toArray 5 (0, 0))) : w2.heap[g]? = some (.cells (bz (rb l 0) (ro l).length).toArray 5 (0, 0)) := by
  have e := bz_splice [] (ro l).length l.length
  rw [bz_nil, List.nil_append] at e
  rw [rb_zero, ← e]
  exact h

set_option maxHeartbeats 1000000 in
theorem row_nil (ad : Option Addr) (cap : Nat) (w : World) : Calls Tryd.prog 29 #[.slice ad 0 cap] w fun e w' => ∃ v, e = .returned v ∧ Sk .u8 w' v (ro []) ∧ Later w w' := by
  have Z := Lib.hid (fun W => size_nil ad cap W)
  obtain ⟨N, hN⟩ : ∃ N, N = (ro []).length := ⟨_, rfl⟩
  have n0 := rz_mono [] 0
  have n1 := ro_len []
  rw [rz_zero] at n0
  rw [← hN] at Z n0 n1
  have P := Lib.hid (fun g W (h : W.heap[g]? = some (.cells (zb N).toArray 5 (0, 0))) => place_any g N 0 0 (zb N) W ⟨by omega, by omega⟩ (by simp [zb]) h (by simpa using n0) (by simp at n1; omega))
  have mk := make_any N (by simp at n1; omega)
  have HN := Lib.hid hN
  have H0 := Lib.hid n0
  have H1 := Lib.hid n1
  clear hN n0 n1
  go_enter Tryd.func29, Tryd.ntmps29
  go_wp2_with fail
  refine (Z.out _).mono ?_
  rintro e w1 ⟨rfl, hg1⟩
  have HG := Lib.hid hg1
  clear hg1
  go_wp2_with fail
  refine (P.out _ _ (heap_alloc_new _ _)).mono ?_
  rintro e w2 ⟨rfl, hh, hb⟩
  have HH := Lib.hid hh
  have HB := Lib.hid hb
  clear hh hb
  go_wp2
  refine wp_loop_rounds 1 ?_
  rw [rounds_succ]
  go_wp2
  go_ret
  refine ⟨_, rfl, ?_, ?_⟩
  · have := HH.out
    rw [HN.out] at this ⊢
    exact row_sk [] _ _ (row_start [] _ _ this) (by have := H1.out; rw [HN.out] at this; simp at this; omega)
  · exact Later.of_below (((HG.out.alloc _ _).below).trans (HB.out.mono HG.out.size))

set_option maxHeartbeats 1000000 in
theorem row_some (l : List Int) (b off cap : Nat) (w : World) (hp : 0 < l.length) (hn : l.length ≤ 1000) (hl : ∀ n ∈ l, In n) (hc : ∀ i, i < l.length → w.cell? ⟨b, off + i, none⟩ = some (.int .i64 (l.getD i 0))) :
    Calls Tryd.prog 29 #[.slice (some ⟨b, off, none⟩) l.length cap] w fun e w' => ∃ v, e = .returned v ∧ Sk .u8 w' v (ro l) ∧ Later w w' := by
  have hbw : b < w.heap.size := World.block_lt_of_cell? _ _ (hc 0 hp)
  have Z := Lib.hid (size_some l b off cap w hp hn hl hc)
  obtain ⟨N, hN⟩ : ∃ N, N = (ro l).length := ⟨_, rfl⟩
  have n0 := rz_mono l 0
  have n1 := ro_len l
  rw [rz_zero] at n0
  rw [← hN] at Z n0 n1
  have mk := make_any N (by omega)
  have P := Lib.hid (fun g W (h : W.heap[g]? = some (.cells (zb N).toArray 5 (0, 0))) => place_any g N 0 l.length (zb N) W ⟨by omega, by omega⟩ (by simp [zb]) h (by simpa using n0) (by omega))
  have PL := Lib.hid (fun g a x cur W (hx : In x) (hcur : cur.length = N) (h : W.heap[g]? = some (.cells cur.toArray 5 (0, 0))) (hf : a + (pu x).length ≤ N) => place_any g N a x cur W hx hcur h hf (by omega))
  have HN := Lib.hid hN
  have HC := Lib.hid hc
  have HL := Lib.hid hl
  have H1 := Lib.hid n1
  clear hN n0 n1 hc hl
  go_enter Tryd.func29, Tryd.ntmps29
  go_wp2_with fail
  refine Z.out.mono ?_
  rintro e w1 ⟨rfl, hg1⟩
  have HG := Lib.hid hg1
  clear hg1
  go_wp2_with fail
  refine (P.out _ _ (heap_alloc_new _ _)).mono ?_
  rintro e w2 ⟨rfl, hh, hb⟩
  have HS : Hid (w2.heap[w1.heap.size]? = some (.cells (bz (rb l 0) N).toArray 5 (0, 0))) := by
    have : w2.heap[w1.heap.size]? = some (.cells (bz (rb l 0) N).toArray 5 (0, 0)) := by
      rw [HN.out] at hh ⊢
      exact row_start l _ _ hh
    exact this
  have HB : Hid (Below w1.heap.size w1 w2) := Lib.hid ((((Later.refl w1).alloc (zb N).toArray 5).below).trans hb)
  clear hh hb
  go_wp2
  go_loopw [4, 16] (fun s i wr => WRel l w1.heap.size w1 s i wr) (fun _ i _ => l.length - (intOf i).toNat)
  case atStart => exact ⟨0, by omega, rfl, by rw [rz_zero], by rw [← HN.out]; exact HS.out, HB.out⟩
  case round =>
    obtain ⟨j, hj, rfl, rfl, hh, hb⟩ := hrel
    have HH := Lib.hid hh
    have HD := Lib.hid hb
    clear hh hb
    by_cases hlt : j < l.length
    · obtain ⟨x, hx⟩ : ∃ x, l[j]? = some x := ⟨_, List.getElem?_eq_getElem hlt⟩
      have c : wr.cell? ⟨b, off + j, none⟩ = some (.int .i64 x) := by
        have := gsome HG.out (HC.out j hlt)
        rw [List.getD_eq_getElem?_getD, hx] at this
        exact (HD.out.cell (by have := HG.out.size; exact Nat.lt_of_lt_of_le hbw this)).trans this
      have HI := Lib.hid (HL.out x (List.mem_of_getElem? hx))
      have HX := Lib.hid hx
      have hz := rz_succ l j x hx
      have hm := rz_mono l (j + 1)
      rw [hz, ← HN.out] at hm
      have HM := Lib.hid hm
      have HZ := Lib.hid hz
      clear hx hz hm
      go_wp2_with fail
      refine (PL.out _ _ _ (bz (rb l j) N) _ HI.out (bz_len _ _ (by rw [rb_len]; have := HM.out; omega)) (by rw [HN.out]; exact HH.out) HM.out).mono ?_
      rintro e w3 ⟨rfl, hh, hb⟩
      have H3 : Hid (w3.heap[w1.heap.size]? = some (.cells (bz (rb l (j + 1)) N).toArray 5 (0, 0))) := by
        have : w3.heap[w1.heap.size]? = some (.cells (bz (rb l (j + 1)) N).toArray 5 (0, 0)) := by
          rw [← rb_len, bz_splice] at hh
          rw [rb_succ l j x HX.out]
          exact hh
        exact this
      have HB3 := Lib.hid (HD.out.trans hb)
      clear hh hb c
      go_wp2
      go_roundw
      case rel => exact ⟨j + 1, by omega, by go_num, by rw [HZ.out]; go_num, by rw [← HN.out]; exact H3.out, HB3.out⟩
      case measure => simp [intOf]; omega
    · obtain rfl : j = l.length := by omega
      go_wp2
      go_ret
      refine ⟨_, rfl, ?_, ?_⟩
      · rw [HN.out]
        exact row_sk l _ _ HH.out (by have := H1.out; rw [HN.out] at this; omega)
      · exact Later.of_below (HG.out.below.trans (HD.out.mono HG.out.size))

theorem row_any (l : List Int) (v : Value) (w : World) (hs : Sk .i64 w v l) (hn : l.length ≤ 1000) (hl : ∀ n ∈ l, In n) :
    Calls Tryd.prog 29 #[v] w fun e w' => ∃ v, e = .returned v ∧ Sk .u8 w' v (ro l) ∧ Later w w' := by
  rcases Nat.eq_zero_or_pos l.length with h | h
  · obtain rfl := List.length_eq_zero_iff.1 h
    obtain ⟨ad, cap, rfl, _⟩ := hs.bare
    exact row_nil ad cap w
  · obtain ⟨b, off, cap, rfl, _, _, _, hc⟩ := hs.has h
    exact row_some l b off cap w h hn hl hc

end Go.Proofs.YtdljmpaabpkmkaaDoor.Wire
