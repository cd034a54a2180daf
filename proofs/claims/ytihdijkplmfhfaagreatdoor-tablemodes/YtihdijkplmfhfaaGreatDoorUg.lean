/-
  The mode at any instant, and since when it is, is the document's: the walk. Condition: the table of months lies where the program lays it.
-/
import Derived.Test.YtihdijkplmfhfaaGreatDoorM26
namespace Go.Proofs.YtihdijkplmfhfaaGreatDoor.Table
set_option maxRecDepth 100000
open Go.ChangeShapes Go.WideShapes Go.ChangeAt Go.RowKit
open Go.Proofs.YtihdijkplmfhfaaGreatDoor.Divs Go.Proofs.YtihdijkplmfhfaaGreatDoor.Grow
open Go.Proofs.YtihdijkplmfhfaaGreatDoor.Greg (Laid)
open Go.Proofs.YtihdijkplmfhfaaGreatDoor.Zo Go.Proofs.YtihdijkplmfhfaaGreatDoor.Win Go.Proofs.YtihdijkplmfhfaaGreatDoor.Tab
open Go.Proofs.YtihdijkplmfhfaaGreatDoor.Cal (yr om od)
open Go.Proofs.YtihdijkplmfhfaaGreatDoor.Cf (Cg Wn ce wo)
open Go.Proofs.YtihdijkplmfhfaaGreatDoor.Conf (wc cc Is)
open Go.Proofs.YtihdijkplmfhfaaGreatDoor.Zone (Zat zc lD lM sE sE_ok)
open Go.Proofs.YtihdijkplmfhfaaGreatDoor.Span (Ws WL sc)
open Go.Proofs.YtihdijkplmfhfaaGreatDoor.Window (RA)
open Go.Proofs.YtihdijkplmfhfaaGreatDoor.Sp (cu)
open Go.Proofs.YtihdijkplmfhfaaGreatDoor.Eachn
set_option linter.unusedVariables false

open Go.Proofs.YtihdijkplmfhfaaGreatDoor.Sp (best md)

set_option maxHeartbeats 4000000 in
theorem modes_core (w : World) (hL : Laid w) (D : Array Value) (c : Cg) (hc : Is w D c) (t : Int) (ht : -9223372036854775808 ≤ t ∧ t ≤ 9223372036854775807) : Calls Tryz.prog 4 #[.agg D, .int .i64 t] w fun e w' => e = .returned (.bool true) ∧ Later w w' := by
  have A := Lib.hid (fun W (hW : Laid W) => awake_any W hW)
  have KF := Lib.hid (fun W (g : Later w W) => Conf.few_of (hc.later g))
  have KO := Lib.hid (fun W (g : Later w W) hf => Conf.own_of (hc.later g) hf)
  have KC := Lib.hid (fun W (g : Later w W) => Conf.rcheck_of (hc.later g))
  have HZ := Lib.hid hc.size
  have HG0 := Lib.hid ((Later.refl w).alloc D 33)
  have HA0 := Lib.hid (Conf.At.new w D 33)
  have LL := Lib.hid (fun W (g : Later w W) => hL.grown g)
  by_cases hce : ce c = 0
  · rw [hce] at KC
    have KM := Lib.hid (fun W E (hW : Laid W) (h : Is W E c) => mode_yes E c t W hW h hce)
    have KR := Lib.hid (fun W (g : Later w W) => rmode_any D c t W (hc.later g) hce)
    clear hL hc hce
    generalize mM c t = M at *
    generalize mS c t = S at *
    go_enter Tryz.func4, Tryz.ntmps4
    go_wp2_with (refine Conf.load_at D HZ.out rfl (.tmp 2) rfl w.heap.size rfl HA0.out ?_)
    refine (KF.out _ HG0.out).mono ?_
    rintro e w1 ⟨rfl, hg1⟩
    have HG1 := Lib.hid (gtrans HG0.out hg1)
    have HA1 := Lib.hid (HA0.out.later hg1)
    clear hg1
    cases e1 : Conf.fw c with
    | false =>
      go_wp2_with (fail)
      refine (A.out _ (LL.out _ HG1.out)).mono ?_
      rintro e w2 ⟨rfl, hg2⟩
      have HG2 := Lib.hid (gtrans HG1.out hg2)
      have HA2 := Lib.hid (HA1.out.later hg2)
      clear hg2
      go_wp2_with fail
      go_ret
      exact ⟨rfl, HG2.out⟩
    | true =>
      have KO1 := Lib.hid (fun W (g : Later w W) => KO.out W g e1)
      clear KO
      go_wp2_with (refine Conf.load_at D HZ.out rfl (.tmp 2) rfl w.heap.size rfl HA1.out ?_)
      refine (KO1.out _ HG1.out).mono ?_
      rintro e w2 ⟨E2, rfl, ho, hg2⟩
      have HG2 := Lib.hid (gtrans HG1.out hg2)
      have HA2 := Lib.hid (HA1.out.later hg2)
      have HE2 := Lib.hid ho.is
      clear ho
      clear hg2
      go_wp2_with (fail)
      refine (KM.out _ _ (LL.out _ HG2.out) HE2.out).mono ?_
      rintro e w3 ⟨rfl, hg3⟩
      have HG3 := Lib.hid (gtrans HG2.out hg3)
      have HA3 := Lib.hid (HA2.out.later hg3)
      clear hg3
      go_wp2_with (refine Conf.load_at D HZ.out rfl (.tmp 2) rfl w.heap.size rfl HA3.out ?_)
      refine (KC.out _ HG3.out).mono ?_
      rintro e w4 ⟨rfl, hg4⟩
      have HG4 := Lib.hid (gtrans HG3.out hg4)
      have HA4 := Lib.hid (HA3.out.later hg4)
      clear hg4
      go_wp2_with (refine Conf.load_at D HZ.out rfl (.tmp 2) rfl w.heap.size rfl HA4.out ?_)
      refine (KR.out _ HG4.out).mono ?_
      rintro e w5 ⟨rfl, hg5⟩
      have HG5 := Lib.hid (gtrans HG4.out hg5)
      have HA5 := Lib.hid (HA4.out.later hg5)
      clear hg5
      have HB := Lib.hid (RA.new w5 #[.int .i64 M, .int .i64 S] 51)
      have HG5 := Lib.hid (HG5.out.put (.cells #[.int .i64 M, .int .i64 S] 51))
      have HA5 := Lib.hid (HA5.out.later ((Later.refl w5).put (.cells #[.int .i64 M, .int .i64 S] 51)))
      go_wp2_with (fail)
      refine (A.out _ (LL.out _ HG5.out)).mono ?_
      rintro e w6 ⟨rfl, hg6⟩
      have HG6 := Lib.hid (gtrans HG5.out hg6)
      have HA6 := Lib.hid (HA5.out.later hg6)
      have c0 := (HB.out.later hg6).cell 0 _ rfl
      have c1 := (HB.out.later hg6).cell 1 _ rfl
      clear hg6
      go_wp2_with fail
      go_ret
      exact ⟨rfl, HG6.out⟩
  · have e0 : (ce c != 0) = true := by simpa using hce
    have KM := Lib.hid (fun W E (h : Is W E c) => mode_no E c t W h hce)
    clear hL hc hce
    generalize ce c = k at *
    go_enter Tryz.func4, Tryz.ntmps4
    go_wp2_with (refine Conf.load_at D HZ.out rfl (.tmp 2) rfl w.heap.size rfl HA0.out ?_)
    refine (KF.out _ HG0.out).mono ?_
    rintro e w1 ⟨rfl, hg1⟩
    have HG1 := Lib.hid (gtrans HG0.out hg1)
    have HA1 := Lib.hid (HA0.out.later hg1)
    clear hg1
    cases e1 : Conf.fw c with
    | false =>
      go_wp2_with (fail)
      refine (A.out _ (LL.out _ HG1.out)).mono ?_
      rintro e w2 ⟨rfl, hg2⟩
      have HG2 := Lib.hid (gtrans HG1.out hg2)
      have HA2 := Lib.hid (HA1.out.later hg2)
      clear hg2
      go_wp2_with fail
      go_ret
      exact ⟨rfl, HG2.out⟩
    | true =>
      have KO1 := Lib.hid (fun W (g : Later w W) => KO.out W g e1)
      clear KO
      go_wp2_with (refine Conf.load_at D HZ.out rfl (.tmp 2) rfl w.heap.size rfl HA1.out ?_)
      refine (KO1.out _ HG1.out).mono ?_
      rintro e w2 ⟨E2, rfl, ho, hg2⟩
      have HG2 := Lib.hid (gtrans HG1.out hg2)
      have HA2 := Lib.hid (HA1.out.later hg2)
      have HE2 := Lib.hid ho.is
      clear ho
      clear hg2
      go_wp2_with (fail)
      refine (KM.out _ _ HE2.out).mono ?_
      rintro e w3 ⟨rfl, hg3⟩
      have HG3 := Lib.hid (gtrans HG2.out hg3)
      have HA3 := Lib.hid (HA2.out.later hg3)
      clear hg3
      go_wp2_with (refine Conf.load_at D HZ.out rfl (.tmp 2) rfl w.heap.size rfl HA3.out ?_)
      refine (KC.out _ HG3.out).mono ?_
      rintro e w4 ⟨rfl, hg4⟩
      have HG4 := Lib.hid (gtrans HG3.out hg4)
      have HA4 := Lib.hid (HA3.out.later hg4)
      clear hg4
      go_wp2_with (fail)
      refine (A.out _ (LL.out _ HG4.out)).mono ?_
      rintro e w5 ⟨rfl, hg5⟩
      have HG5 := Lib.hid (gtrans HG4.out hg5)
      have HA5 := Lib.hid (HA4.out.later hg5)
      clear hg5
      go_wp2_with fail
      go_ret
      exact ⟨rfl, HG5.out⟩

end Go.Proofs.YtihdijkplmfhfaaGreatDoor.Table
