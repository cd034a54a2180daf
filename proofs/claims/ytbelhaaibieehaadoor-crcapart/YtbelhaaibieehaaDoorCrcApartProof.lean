/-
  Layer 9: what differs sums to what the sums differ by (newellaw09.CrcApart answers true for every input, and leaves its arguments as they were). Condition: the table of half bytes starts as the program's text lays it, which the card ties.
-/
import Derived.Test.YtbelhaaibieehaaDoorLift
import Derived.Deep.RegionHeld3
import Derived.Deep.RegionLaw
namespace Go.Proofs.YtbelhaaibieehaaDoor.crcApart
open Go.ChangeShapes Go.WideShapes Go.ChangeAt Go.RowKit Go.Joins
open Go.Proofs.YtbelhaaibieehaaDoor.Divs Go.Proofs.YtbelhaaibieehaaDoor.Grow Go.Proofs.YtbelhaaibieehaaDoor.By Go.Proofs.YtbelhaaibieehaaDoor.Crc
open Go.Proofs.YtbelhaaibieehaaDoor.Cr
set_option linter.unusedVariables false

theorem xor_u8 (x a : Int) (hx : 0 ≤ x ∧ x ≤ 255) (ha : 0 ≤ a ∧ a ≤ 255) : 0 ≤ bits .xor .u8 x a ∧ bits .xor .u8 x a ≤ 255 ∧ up (bits .xor .u8 x a) = up x ^^^ up a := by
  obtain ⟨x0, x1⟩ := hx
  obtain ⟨a0, a1⟩ := ha
  obtain ⟨n, rfl⟩ := Int.eq_ofNat_of_zero_le x0
  obtain ⟨m, rfl⟩ := Int.eq_ofNat_of_zero_le a0
  have hb : n ^^^ m < 2 ^ 8 := Nat.xor_lt_two_pow (by omega) (by omega)
  rw [u8_xor_nat n m (by omega) (by omega)]
  exact ⟨by omega, by omega, up_xor n m⟩

/-- What differs. -/
def zx (xs ys : List Int) : List Int := List.zipWith (fun x y => bits .xor .u8 x y) xs ys

theorem zx_len (xs ys : List Int) (h : xs.length = ys.length) : (zx xs ys).length = xs.length := by simp [zx, h]

theorem zx_get (xs ys : List Int) (i : Nat) (x y : Int) (hx : xs[i]? = some x) (hy : ys[i]? = some y) : (zx xs ys)[i]? = some (bits .xor .u8 x y) := by
  unfold zx
  rw [List.getElem?_zipWith, hx, hy]

theorem zx_byte (xs ys : List Int) (hx : ∀ n ∈ xs, 0 ≤ n ∧ n ≤ 255) (hy : ∀ n ∈ ys, 0 ≤ n ∧ n ≤ 255) : ∀ n ∈ zx xs ys, 0 ≤ n ∧ n ≤ 255 := by
  intro n hn
  obtain ⟨i, hi⟩ := List.mem_iff_getElem?.1 hn
  unfold zx at hi
  rw [List.getElem?_zipWith] at hi
  split at hi
  · rename_i x y e1 e2
    simp at hi
    subst hi
    have := xor_u8 x y (hx x (List.mem_of_getElem? e1)) (hy y (List.mem_of_getElem? e2))
    exact ⟨this.1, this.2.1⟩
  · simp at hi

theorem mo_zx (xs ys : List Int) (h : xs.length = ys.length) (hx : ∀ n ∈ xs, 0 ≤ n ∧ n ≤ 255) (hy : ∀ n ∈ ys, 0 ≤ n ∧ n ≤ 255) (s t : BitVec 16) : mo (s ^^^ t) (zx xs ys) = mo s xs ^^^ mo t ys := by
  refine mo_xor xs ys (zx xs ys) h (zx_len xs ys h) ?_ s t
  intro i x y z e1 e2 e3
  rw [zx_get xs ys i x y e1 e2] at e3
  simp at e3
  subst e3
  exact (xor_u8 x y (hx x (List.mem_of_getElem? e1)) (hy y (List.mem_of_getElem? e2))).2.2

theorem mo_zeros (xs : List Int) (s t : BitVec 16) : mo (s ^^^ t) xs = mo s xs ^^^ mo t (List.replicate xs.length 0) := by
  refine mo_xor xs (List.replicate xs.length 0) xs (by simp) rfl ?_ s t
  intro i x y z e1 e2 e3
  rw [e1] at e3
  simp at e3
  subst e3
  rw [List.getElem?_replicate] at e2
  split at e2
  · simp at e2
    subst e2
    rw [up_zero, BitVec.xor_zero]
  · simp at e2

def ZRel (zs : List Int) (n : Nat) (w : World) (v i : Value) (wr : World) : Prop := ∃ j : Nat, j ≤ n ∧ i = .int .i64 (j : Int) ∧ SL .u8 5 wr w.heap.size v (zs.take j) ∧ Later w wr

set_option maxHeartbeats 2000000 in
theorem core (w : World) (hL : Laid w) (l0 : List Int) (v0 : Value) (hs0 : Sk .u8 w v0 l0) (hl0 : ∀ n ∈ l0, 0 ≤ n ∧ n ≤ 255) (l1 : List Int) (v1 : Value) (hs1 : Sk .u8 w v1 l1) (hl1 : ∀ n ∈ l1, 0 ≤ n ∧ n ≤ 255) :
    Calls Tryd.prog 8 #[v0, v1] w fun e w' => e = .returned (.bool true) ∧ Later w w' := by
  have A := Lib.hid (fun W (h : Later w W) => awake_any W (hL.grown h))
  by_cases hlen : 300 < l0.length
  · obtain ⟨ad, cap, rfl, hm⟩ := hs0.len
    clear hs0 hs1
    go_enter Tryd.func8, Tryd.ntmps8
    go_wp2_with fail
    refine (A.out _ (Later.refl w)).mono ?_
    rintro e w1 ⟨rfl, hg1⟩
    go_wp2_with fail
    go_ret
    exact ⟨rfl, hg1⟩
  · by_cases hne : l0.length = l1.length
    · have e1 := mo_zx l0 l1 hne hl0 hl1 (b16 0) (b16 0)
      rw [BitVec.xor_self, show (0#16 : BitVec 16) = b16 0 by decide] at e1
      have e2 := mo_zeros (zx l0 l1) (b16 0) st
      have e3 := mo_zx l0 l1 hne hl0 hl1 st st
      rw [BitVec.xor_self, show (0#16 : BitVec 16) = b16 0 by decide] at e3
      have e4 := mo_zeros (zx l0 l1) st st
      rw [BitVec.xor_self, show (0#16 : BitVec 16) = b16 0 by decide] at e4
      have x1 : bits .xor .i64 (sn (mo (b16 0) l0)) (sn (mo (b16 0) l1)) = sn (mo (b16 0) (zx l0 l1)) := by rw [i64_xor_sn, e1]
      have x2 : bits .xor .i64 (sn (mo st (zx l0 l1))) (sn (mo st (List.replicate l0.length 0))) = sn (mo (b16 0) (zx l0 l1)) := by rw [i64_xor_sn, e4, zx_len l0 l1 hne]
      have x3 : bits .xor .i64 (sn (mo st l0)) (sn (mo st l1)) = sn (mo (b16 0) (zx l0 l1)) := by rw [i64_xor_sn, e3]
      clear e1 e2 e3 e4
      have hzl := zx_len l0 l1 hne
      have hzb := zx_byte l0 l1 hl0 hl1
      have M := Lib.hid (fun xs v W (h : Later w W) (hb : ∀ x ∈ xs, 0 ≤ x ∧ x ≤ 255) (hv : Sk .u8 W v xs) => more_any 0 xs v W hv hb (hL.grown h))
      have T := Lib.hid (fun xs v W (h : Later w W) (hb : ∀ x ∈ xs, 0 ≤ x ∧ x ≤ 255) (hv : Sk .u8 W v xs) => sum_any xs v W hv hb (hL.grown h))
      have HS0 := Lib.hid hs0
      have HS1 := Lib.hid hs1
      have HB0 := Lib.hid hl0
      have HB1 := Lib.hid hl1
      have HZB := Lib.hid hzb
      have HZL := Lib.hid hzl
      have HG : Hid (∀ (j : Nat) (x y : Int), l0[j]? = some x → l1[j]? = some y → (zx l0 l1)[j]? = some (bits .xor .u8 x y)) := Lib.hid (fun j x y => zx_get l0 l1 j x y)
      generalize zx l0 l1 = zs at *
      have HNE := Lib.hid hne
      obtain ⟨ad, cap, rfl, hm⟩ := hs0.len
      obtain ⟨ad', cap', rfl, hm'⟩ := hs1.len
      have t0 : decide (300 < (l0.length : Int)) = false := by simp; omega
      have t1 : ((l0.length : Int) != (l1.length : Int)) = false := by rw [hne]; simp
      have HX1 := Lib.hid x1
      have HX2 := Lib.hid x2
      have HX3 := Lib.hid x3
      clear hs0 hs1 hl0 hl1 hzb hzl hL x1 x2 x3 hne
      go_enter Tryd.func8, Tryd.ntmps8
      go_wp2_with fail
      go_loopw [5, 6] (fun v i wr => ZRel zs l0.length w v i wr) (fun _ i _ => l0.length - (intOf i).toNat)
      case atStart => exact ⟨0, by omega, rfl, SL.nil _ _ _ _, Later.refl _⟩
      case round =>
        obtain ⟨j, hj, rfl, hs, hr⟩ := hrel
        have HO := Lib.hid hs
        have HR := Lib.hid hr
        clear hs hr
        by_cases hlt : j < l0.length
        · obtain ⟨x, hx⟩ : ∃ x, l0[j]? = some x := ⟨_, List.getElem?_eq_getElem hlt⟩
          obtain ⟨y, hy⟩ : ∃ y, l1[j]? = some y := ⟨_, List.getElem?_eq_getElem (by have := HNE.out; omega)⟩
          obtain ⟨b, off, cp, e0, _, _, _, hc⟩ := HS0.out.has (by omega)
          simp only [Value.slice.injEq] at e0
          obtain ⟨rfl, _, rfl⟩ := e0
          obtain ⟨b', off', cp', e0, _, _, _, hc'⟩ := HS1.out.has (by have := HNE.out; omega)
          simp only [Value.slice.injEq] at e0
          obtain ⟨rfl, _, rfl⟩ := e0
          have c0 := gsome HR.out (hc j hlt)
          rw [List.getD_eq_getElem?_getD, hx, Option.getD_some] at c0
          have c1 := gsome HR.out (hc' j (by have := HNE.out; omega))
          rw [List.getD_eq_getElem?_getD, hy, Option.getD_some] at c1
          have hz := HG.out j x y hx hy
          obtain ⟨z, ez⟩ : ∃ z, bits .xor .u8 x y = z := ⟨_, rfl⟩
          rw [ez] at hz
          have HTk : Hid (zs.take (j + 1) = zs.take j ++ [z]) := Lib.hid (by rw [List.take_add_one, hz]; rfl)
          have HLn : Hid ((zs.take j).length ≤ 300) := Lib.hid (by rw [List.length_take]; omega)
          have hlt1 : j < l1.length := by have := HNE.out; omega
          clear hc hc' hx hy hz
          go_wp2_with fail
          go_region_law (refine step_append_sk rfl (.tmp 24) (.tmp 34) rfl w (HR.out.put (.cells #[.int .u8 z] 5)) _ (zs.take j) (by rfl) (HO.out.later ((Later.refl wr).put _)) _ [z] (by rfl) (sk_new .u8 5 [z] wr.drew (by simp)) (by simp) (by have := HLn.out; simp; omega) ?_; intro v4 w4 ho4 hg4; have HO4 := Lib.hid ho4; have HG4 := Lib.hid hg4; clear ho4 hg4)
          all_goals (go_wp2_with fail; go_roundw)
          all_goals first | exact ⟨j + 1, by omega, by go_num, by rw [HTk.out]; exact HO4.out, HG4.out⟩ | (simp [intOf]; omega)
        · obtain rfl : j = l0.length := by omega
          have hz := HO.out.sk
          rw [List.take_of_length_le (by rw [HZL.out]; omega)] at hz
          have HZ := Lib.hid hz
          clear hz
          have mk := make_any l0.length (by omega)
          have HN := Lib.hid hlen
          have MM : Hid (∀ (v : Value) (n : Int) (W : World), Later wr W → ((v = .slice ad l0.length cap ∧ n = sn (mo (b16 0) l0)) ∨ (v = .slice ad' l1.length cap' ∧ n = sn (mo (b16 0) l1)) ∨ (v = u5 ∧ n = sn (mo (b16 0) zs))) → Calls Tryd.prog 10 #[.int .i64 0, v] W fun e w' => e = .returned (.int .i64 n) ∧ W = w') := by
            refine Lib.hid fun v n W h hv => ?_
            have hw := gtrans HR.out h
            rcases hv with ⟨rfl, rfl⟩ | ⟨rfl, rfl⟩ | ⟨rfl, rfl⟩
            · exact M.out l0 _ W hw HB0.out (HS0.out.later hw)
            · exact M.out l1 _ W hw HB1.out (HS1.out.later hw)
            · exact M.out zs _ W hw HZB.out (HZ.out.later h)
          have TT : Hid (∀ (v : Value) (n : Int) (W : World), Later wr W → ((v = .slice ad l0.length cap ∧ n = sn (mo st l0)) ∨ (v = .slice ad' l1.length cap' ∧ n = sn (mo st l1)) ∨ (v = u5 ∧ n = sn (mo st zs)) ∨ (Sk .u8 W v (List.replicate l0.length 0) ∧ n = sn (mo st (List.replicate l0.length 0)))) → Calls Tryd.prog 12 #[v] W fun e w' => e = .returned (.int .i64 n) ∧ W = w') := by
            refine Lib.hid fun v n W h hv => ?_
            have hw := gtrans HR.out h
            rcases hv with ⟨rfl, rfl⟩ | ⟨rfl, rfl⟩ | ⟨rfl, rfl⟩ | ⟨hv, rfl⟩
            · exact T.out l0 _ W hw HB0.out (HS0.out.later hw)
            · exact T.out l1 _ W hw HB1.out (HS1.out.later hw)
            · exact T.out zs _ W hw HZB.out (HZ.out.later h)
            · exact T.out _ _ W hw (by intro x hx; rw [List.eq_of_mem_replicate hx]; omega) hv
          have x1 := HX1.out
          have x2 := HX2.out
          have x3 := HX3.out
          generalize sn (mo (b16 0) l0) = m0 at *
          generalize sn (mo (b16 0) l1) = m1 at *
          generalize sn (mo (b16 0) zs) = m2 at *
          generalize sn (mo st l0) = s0 at *
          generalize sn (mo st l1) = s1 at *
          generalize sn (mo st zs) = s2 at *
          generalize sn (mo st (List.replicate l0.length 0)) = s3 at *
          have t3 : (m2 == m2) = true := by simp
          clear M T HX1 HX2 HX3 hlen
          go_wp2_with fail
          go_region_held3 (fun W => Later wr W) (first | exact (by assumption : Later wr _).put _ | assumption | exact hg2 | exact Later.refl wr) (first | (go_at_call 9; refine (A.out _ (gtrans HR.out (by assumption))).mono ?_; rintro e w2 ⟨rfl, hg2⟩) | (go_at_call 10; refine (MM.out _ _ _ (by assumption) (by first | exact .inl ⟨rfl, rfl⟩ | exact .inr (.inl ⟨rfl, rfl⟩) | exact .inr (.inr ⟨rfl, rfl⟩))).mono ?_; rintro e w3 ⟨rfl, rfl⟩) | (go_at_call 12; refine (TT.out _ _ _ (by assumption) (by first | exact .inl ⟨rfl, rfl⟩ | exact .inr (.inl ⟨rfl, rfl⟩) | exact .inr (.inr (.inl ⟨rfl, rfl⟩)) | exact .inr (.inr (.inr ⟨sk_made _ _ (by have := HN.out; omega), rfl⟩)))).mono ?_; rintro e w4 ⟨rfl, rfl⟩))
          all_goals (go_wp2_with fail; go_ret)
          all_goals first | exact ⟨rfl, gtrans HR.out (by assumption)⟩ | exact ⟨rfl, gtrans HR.out ((by assumption : Later wr _).put _)⟩
    · obtain ⟨ad, cap, rfl, hm⟩ := hs0.len
      obtain ⟨ad', cap', rfl, hm'⟩ := hs1.len
      have t : ((l0.length : Int) != (l1.length : Int)) = true := by simpa using fun h => hne (by omega)
      clear hs0 hs1 hne
      go_enter Tryd.func8, Tryd.ntmps8
      go_wp2_with fail
      refine (A.out _ (Later.refl w)).mono ?_
      rintro e w1 ⟨rfl, hg1⟩
      go_wp2_with fail
      go_ret
      exact ⟨rfl, hg1⟩

set_option maxHeartbeats 1000000 in
set_option maxRecDepth 100000 in
theorem lifted (os : Os) (started : os.Started) (H : Type) (enc : TypeId × Value → H) :
    ReturnsInHanded {} Tryd.checked os 8 .any (fun w args => (Rows.crcApartSpec.pre enc Tryd.prog Tryd.f8 [] false w args ∧ laidMetH Tryd.prog laidL w) ∧ sizedMet enc Tryd.prog Tryd.f8 (OpenSpec.ofChange Rows.crcApartSpec) false w args)
      (Rows.crcApartSpec.post enc Tryd.prog Tryd.f8 false true false false) := by
  refine returnsInHanded_of_change_and (C := Tryd.checked) (X := fun w _ => laidMetH Tryd.prog laidL w) (fun _ _ _ hh h => h.of_heap hh) own started (by kernel_rfl) Tryd.func8
    (ChangeSpec.witness_shaped (enc := enc) (C := Tryd.checked) (os := os) (X := fun w _ => laidMetH Tryd.prog laidL w) false (World.doorLaid Tryd.prog 400 os) #[.slice none 0 0, .slice none 0 0] 8 rfl (World.shaped_of_RefB (by kernel_rfl) (by kernel_rfl)) (by kernel_rfl) (by kernel_rfl) (by kernel_rfl) (door_met os _)) ?_
  intro W base args ds gs before hval0 hW _ _ hL _
  have hval : ∀ (j : Nat) t v, Tryd.f8.params[j]? = some t → args[j]? = some v → Value.okWide Tryd.prog W .any base t v := hval0
  have hW' := hW
  obtain ⟨p, q, hA0, hV, rfl, hfz, hnd⟩ := hW
  have hA : DataW.TrodAll enc Tryd.prog W 0 (fun _ => true) true Tryd.f8.params.toList args.toList ds p := hA0
  rw [Tryd.params8] at hA hval
  obtain ⟨v0, vs0, d0, ds0, p0, q0, hargs, rfl, rfl, h0, r0⟩ := trodAll_cons hA
  obtain ⟨v1, vs1, d1, ds1, p1, q1, rfl, rfl, rfl, h1, r1⟩ := trodAll_cons r0
  obtain ⟨rfl, rfl, rfl⟩ := trodAll_nil r1
  obtain rfl : args = #[v0, v1] := by cases args; simp_all
  obtain ⟨rfl, rfl⟩ := trodVars_none hV
  obtain ⟨l0, s0, w0⟩ := open_bytes (hval 0 22 v0 rfl rfl) h0
  have lt0 : ∀ x ∈ p0, x.block < W.heap.size := by obtain ⟨m, hm⟩ := h0; exact DataW.trod_lt m _ _ _ hm
  obtain ⟨l1, s1, w1⟩ := open_bytes (hval 1 22 v1 rfl rfl) h1
  have lt1 : ∀ x ∈ p1, x.block < W.heap.size := by obtain ⟨m, hm⟩ := h1; exact DataW.trod_lt m _ _ _ hm
  clear hA0 hval0
  refine (core W (of_laid hL) l0 _ s0 w0 l1 _ s1 w1).mono fun e W' ⟨he, hg⟩ => ?_
  subst he
  have bel := hg.below
  exact ⟨_, rfl, _, _, _, [], _, [], hW', trodAll_mk1 (shut_bool Tryd.underlying4 _), (trodAll_cons_mk (Below.trod laidOut (by kernel_rfl) (of_decide_eq_true (by kernel_rfl)) h0 bel lt0) (trodAll_cons_mk (Below.trod laidOut (by kernel_rfl) (of_decide_eq_true (by kernel_rfl)) h1 bel lt1) trodAll_mk0)), rfl, bel.frame _, fun h => by cases h⟩

theorem over : Rows.crcApartRow.holds Tryd.pinned (OpenSpec.ofChange Rows.crcApartSpec) :=
  OpenClaim.holds_of_wide 8 Tryd.f8 rfl rfl rfl rfl rfl rfl rfl ⟨rfl, rfl, rfl, rfl, rfl⟩ rfl rfl rfl rfl rfl (by kernel_rfl) Tryd.func8 (by kernel_rfl)
    (of_decide_eq_true (by kernel_rfl)) (by unfold Func.isWrapper; first | (rw [if_pos (by decide +kernel)]; kernel_rfl) | (rw [if_neg (by decide +kernel)]; exact ⟨rfl, rfl⟩))
    (fun os started H enc _ => lifted os started H enc)

/-- The statement. -/
theorem proved : Rows.CrcApartCardSaid :=
  Claim7.holds_tied_plain_at .later [] [.data] true (true, "9df2169b39a1313060d4e837afff9edd65b177fdbcba449fe7b46e87d7471214") false
    over (fun _ h => by cases h) (by kernel_rfl) (fun _ h => by cases h) crcApart_row_tie rfl ⟨rfl, rfl⟩ (by kernel_rfl) rfl
    (fun f fn hf hfn => by
      obtain rfl : f = 8 := Option.some.inj ((show Tryd.prog.funcNamed "newel/newellaw09.CrcApart" = some 8 by kernel_rfl).symm.trans hf) |>.symm
      obtain rfl : fn = Tryd.f8 := (Option.some.inj (Tryd.func8.symm.trans hfn)).symm
      exact ⟨by kernel_rfl, fun j t ht => by
        rw [Tryd.params8] at ht
        have hm : t ∈ [22, 22] := by simpa using Array.mem_of_getElem? ht
        have hall : ([22, 22].all fun u => !Tryd.prog.wantsStandIn u) = true := by kernel_rfl
        exact (show Tryd.prog.wantsStandIn t = false by simpa using List.all_eq_true.1 hall t hm)⟩)
    (by kernel_rfl)
#print axioms proved
end Go.Proofs.YtbelhaaibieehaaDoor.crcApart
