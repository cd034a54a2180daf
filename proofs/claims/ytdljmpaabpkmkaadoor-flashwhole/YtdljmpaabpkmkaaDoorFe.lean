/-
  A record's bytes, by the document's reckoning. Conditions: the record may be, and its bytes are bytes.
-/
import Derived.Test.YtdljmpaabpkmkaaDoorFd
namespace Go.Proofs.YtdljmpaabpkmkaaDoor.Fls
set_option maxRecDepth 100000
open Go.ChangeShapes Go.WideShapes Go.ChangeAt Go.RowKit
open Go.Proofs.YtdljmpaabpkmkaaDoor.Divs Go.Proofs.YtdljmpaabpkmkaaDoor.Grow Go.Proofs.YtdljmpaabpkmkaaDoor.By Go.Proofs.YtdljmpaabpkmkaaDoor.Wi Go.Proofs.YtdljmpaabpkmkaaDoor.Fa Go.Proofs.YtdljmpaabpkmkaaDoor.Each
open Go.Proofs.YtdljmpaabpkmkaaDoor.Crc (Laid seal_any rseal_any)
open Go.Proofs.YtdljmpaabpkmkaaDoor.Wire (row_any rrow_any rrow_own put_any rput_any)

set_option maxHeartbeats 400000 in
theorem rcode_any (r : Rc) (v : Value) (w : World) (hr : Rk w v r) (hm : may r = true) (hf : Fit r) : Calls Tryd.prog 25 #[v] w fun e w' => ∃ u, e = .returned u ∧ Sk .u8 w' u (co r) ∧ Later w w' := by
  have KR := Lib.hid (fun u W (h : Sk .i64 W u [r.g, r.c, r.m]) => rrow_own [r.g, r.c, r.m] u W h (by simp) (by simp) (nums_in hm hf))
  obtain ⟨m1, m2, m3, m4, m5⟩ := (may_iff r).1 hm
  have hbn : (bo r).length ≤ 20000 := by have := bo_len hm; omega
  have KS := Lib.hid (fun u W (h : Sk .u8 W u (bo r)) => rseal_any (bo r) u W h (bo_byte hm hf) hbn)
  have hrl := ro_len [r.g, r.c, r.m]
  have hpl := pu_len (r.b.length : Int)
  have hin : In (r.b.length : Int) := ⟨by omega, by omega⟩
  have KP := Lib.hid (fun W => rput_any (r.b.length : Int) W hin)
  obtain ⟨u, rfl, hu⟩ := hr
  obtain ⟨ad, cap, rfl, _⟩ := hu.len
  have HU := Lib.hid hu
  have h1 : (ro [r.g, r.c, r.m]).length + (pu (r.b.length : Int)).length ≤ 100000 := by
    simp only [List.length_cons, List.length_nil] at hrl
    omega
  have h2 : (ro [r.g, r.c, r.m] ++ pu (r.b.length : Int)).length + r.b.length ≤ 100000 := by
    simp only [List.length_cons, List.length_nil] at hrl
    rw [List.length_append]
    omega
  have H1 := Lib.hid h1
  have H2 := Lib.hid h2
  have HE : Hid ((ro [r.g, r.c, r.m] ++ pu (r.b.length : Int)) ++ r.b = bo r) := Lib.hid (by rw [List.append_assoc]; rfl)
  clear hu hm hf hbn hrl hpl hin h1 h2 m1 m2 m3 m4 m5
  generalize hnb : r.b.length = n at *
  have HNB := Lib.hid hnb
  clear hnb
  have K0 : Calls Tryd.prog 38 #[.slice (some ⟨w.heap.size + 1, 0, none⟩) 3 3] ((w.alloc (.cells #[.int .i64 r.g, .int .i64 r.c, .int .i64 r.m, .slice ad n cap] 26)).alloc (.cells #[.int .i64 r.g, .int .i64 r.c, .int .i64 r.m] 3)) fun e w' => ∃ v, e = .returned v ∧ SL .u8 5 w' (w.alloc (.cells #[.int .i64 r.g, .int .i64 r.c, .int .i64 r.m, .slice ad n cap] 26)).heap.size v (ro [r.g, r.c, r.m]) ∧ Later (w.alloc (.cells #[.int .i64 r.g, .int .i64 r.c, .int .i64 r.m, .slice ad n cap] 26)) w' := by
    have h := KR.out _ _ (sk_new .i64 3 [r.g, r.c, r.m] (w.alloc (.cells #[.int .i64 r.g, .int .i64 r.c, .int .i64 r.m, .slice ad n cap] 26)) (by simp))
    rw [World.size_alloc _ (.cells #[.int .i64 r.g, .int .i64 r.c, .int .i64 r.m, .slice ad n cap] 26)] at h
    refine h.mono ?_
    rintro e w' ⟨v, h1, h2, h3⟩
    exact ⟨v, h1, h2.base (by simp), gtrans ((Later.refl _).put _) h3⟩
  have K0 := Lib.hid K0
  go_enter Tryd.func25, Tryd.ntmps25
  go_wp2_with fail
  refine K0.out.mono ?_
  rintro e w2 ⟨h, rfl, hh, hg2⟩
  have HG2 := Lib.hid hg2
  have c3 := new_cell hg2 3 (.slice ad n cap) rfl
  have HH := Lib.hid hh
  clear hg2 hh
  go_wp2_with fail
  refine (KP.out _).mono ?_
  rintro e w3 ⟨p, rfl, hp, hg3⟩
  have HG3 := Lib.hid (gtrans HG2.out hg3)
  have HP := Lib.hid hp.sk
  have HH3 := Lib.hid (HH.out.later hg3)
  clear hg3 hp c3
  go_wp2_with (first | (at_builtin; refine append_sk rfl (.tmp 12) (.tmp 16) rfl _ HG3.out _ _ rfl HH3.out _ _ rfl HP.out H1.out ?_; intro v4 w4 ho4 hg4; have HO4 := Lib.hid ho4; have HG4 := Lib.hid hg4; have c5 := new_cell hg4 3 (.slice ad n cap) rfl; clear ho4 hg4) | (at_builtin; refine append_sk rfl (.tmp 18) (.tmp 20) rfl _ HG4.out _ _ rfl HO4.out _ r.b rfl (HU.out.later (gtrans ((Later.refl w).put _) HG4.out)) (by rw [HNB.out]; exact H2.out) ?_; intro v5 w5 ho5 hg5; have HO5 := Lib.hid ho5; have HG5 := Lib.hid hg5; clear ho5 hg5 c5))
  refine (KS.out _ w5 (by have := HO5.out.sk; rwa [HE.out] at this)).mono ?_
  rintro e w6 ⟨q, rfl, hq, hg6⟩
  go_wp2_with fail
  go_ret
  exact ⟨_, rfl, hq, gtrans (gtrans ((Later.refl w).put _) HG5.out) hg6⟩

end Go.Proofs.YtdljmpaabpkmkaaDoor.Fls
