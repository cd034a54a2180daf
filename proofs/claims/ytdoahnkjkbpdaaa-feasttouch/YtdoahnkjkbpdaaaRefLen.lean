/-
  What the document's own delays, first days and lengths of years come to. Conditions: the years are from 2 to 10000, as each theorem says.
-/
import Derived.Test.YtdoahnkjkbpdaaaRefMol
namespace Go.Proofs.Ytdoahnkjkbpdaaa.Mol
open Go.ChangeShapes Go.WideShapes Go.ChangeAt Go.RowKit
open Go.Proofs.Ytdoahnkjkbpdaaa.Divs Go.Proofs.Ytdoahnkjkbpdaaa.Grow
open Go.Proofs.Ytdoahnkjkbpdaaa.Year (lh mh pt md mp p1 p2 po dl ny yl)

theorem p2_shift (a x : Int) : p2 (a % 7 + x) = p2 (a + x) := by
  unfold p2
  rw [show (a % 7 + x) % 7 = (a + x) % 7 by omega]

theorem rdelay_any (h : Int) (w : World) (h1 : 2 ≤ h) (h2 : h ≤ 10000) :
    Calls Try.prog 56 #[.int .i64 h] w fun e w' => e = .returned (.int .i64 (dl h)) ∧ Later w w' := by
  have hb := Year.md_bd h (by omega) h2
  have hx := Year.p1_bd (md h % 7) (mp h) (lh h) (lh (h - 1))
  have KM := Lib.hid (fun W => rmolad_any h W h1 h2)
  have kp := fun W => rput_any h (md h) (mp h) (lh h) (lh (h - 1)) W h1 h2 (by omega) (by omega) (fun W => rleap_any h W (by omega) (by omega)) (fun W => rleap_any (h - 1) W (by omega) (by omega))
  have hv : dl h = p1 (md h % 7) (mp h) (lh h) (lh (h - 1)) + p2 (md h + p1 (md h % 7) (mp h) (lh h) (lh (h - 1))) := by
    rw [← p2_shift]
    rfl
  generalize p1 (md h % 7) (mp h) (lh h) (lh (h - 1)) = x at *
  have KP := Lib.hid kp
  have KW := Lib.hid (fun W => rweekday_any (md h + x) W (by omega) (by omega))
  clear kp
  rcases four ((md h + x) % 7) with t1 | ⟨t1, t2⟩ | ⟨t1, t2, t3⟩ | ⟨t1, t2, t3⟩
  · rw [p2_yes _ (Or.inl t1)] at hv
    have HV := Lib.hid hv
    clear hv
    go_enter Try.func56, Try.ntmps56
    go_wp2_with fail
    refine (KM.out _).mono ?_
    rintro e w1 ⟨rfl, hg1⟩
    go_wp2_with fail
    refine (KP.out _).mono ?_
    rintro e w2 ⟨rfl, hg2⟩
    have c0 : w2.cell? ⟨w1.heap.size, 0, none⟩ = some (.int .i64 (md h)) := gsome hg2 (by simp)
    go_wp2_with fail
    refine (KW.out _).mono ?_
    rintro e w3 ⟨rfl, n3, rfl⟩
    go_wp2_with fail
    go_ret
    exact ⟨ret1 (by rw [HV.out]), gtrans (hg1.alloc _ _) hg2⟩
  · rw [p2_yes _ (Or.inr (Or.inl t2))] at hv
    have HV := Lib.hid hv
    clear hv
    go_enter Try.func56, Try.ntmps56
    go_wp2_with fail
    refine (KM.out _).mono ?_
    rintro e w1 ⟨rfl, hg1⟩
    go_wp2_with fail
    refine (KP.out _).mono ?_
    rintro e w2 ⟨rfl, hg2⟩
    have c0 : w2.cell? ⟨w1.heap.size, 0, none⟩ = some (.int .i64 (md h)) := gsome hg2 (by simp)
    go_wp2_with fail
    refine (KW.out _).mono ?_
    rintro e w3 ⟨rfl, n3, rfl⟩
    go_wp2_with fail
    go_ret
    exact ⟨ret1 (by rw [HV.out]), gtrans (hg1.alloc _ _) hg2⟩
  · rw [p2_yes _ (Or.inr (Or.inr t3))] at hv
    have HV := Lib.hid hv
    clear hv
    go_enter Try.func56, Try.ntmps56
    go_wp2_with fail
    refine (KM.out _).mono ?_
    rintro e w1 ⟨rfl, hg1⟩
    go_wp2_with fail
    refine (KP.out _).mono ?_
    rintro e w2 ⟨rfl, hg2⟩
    have c0 : w2.cell? ⟨w1.heap.size, 0, none⟩ = some (.int .i64 (md h)) := gsome hg2 (by simp)
    go_wp2_with fail
    refine (KW.out _).mono ?_
    rintro e w3 ⟨rfl, n3, rfl⟩
    go_wp2_with fail
    go_ret
    exact ⟨ret1 (by rw [HV.out]), gtrans (hg1.alloc _ _) hg2⟩
  · rw [p2_no _ ⟨t1, t2, t3⟩] at hv
    have HV := Lib.hid hv
    clear hv
    go_enter Try.func56, Try.ntmps56
    go_wp2_with fail
    refine (KM.out _).mono ?_
    rintro e w1 ⟨rfl, hg1⟩
    go_wp2_with fail
    refine (KP.out _).mono ?_
    rintro e w2 ⟨rfl, hg2⟩
    have c0 : w2.cell? ⟨w1.heap.size, 0, none⟩ = some (.int .i64 (md h)) := gsome hg2 (by simp)
    go_wp2_with fail
    refine (KW.out _).mono ?_
    rintro e w3 ⟨rfl, n3, rfl⟩
    go_wp2_with fail
    go_ret
    exact ⟨ret1 (by rw [HV.out]; simp), gtrans (hg1.alloc _ _) hg2⟩

theorem rnewyear_any (h : Int) (w : World) (h1 : 2 ≤ h) (h2 : h ≤ 10000) :
    Calls Try.prog 32 #[.int .i64 h] w fun e w' => e = .returned (.int .i64 (ny h)) ∧ Later w w' := by
  have hb := Year.md_bd h (by omega) h2
  have hd := Year.dl_bd h
  have KM := Lib.hid (fun W => rmolad_any h W h1 h2)
  have KD := Lib.hid (fun W => rdelay_any h W h1 h2)
  go_enter Try.func32, Try.ntmps32
  go_wp2_with fail
  refine (KM.out _).mono ?_
  rintro e w1 ⟨rfl, hg1⟩
  go_wp2_with fail
  have x0 := gw_new w1 #[.int .i64 (md h), .int .i64 (mp h)] 72 0 (.int .i64 (md h)) rfl
  refine region_grown (by kernel_rfl) (by kernel_rfl) ?_
  repeat (go_big_quiet_step ((go_at_call 56; exact in_grown (KD.out _))))
  refine wpQuiet_nil (grown_end ?_)
  intro w2 hg2
  clear x0
  go_wp2_with fail
  go_ret
  exact ⟨ret1 rfl, gtrans (hg1.alloc _ _) hg2⟩

theorem rlen_any (h : Int) (w : World) (h1 : 2 ≤ h) (h2 : h ≤ 9999) :
    Calls Try.prog 66 #[.int .i64 h] w fun e w' => e = .returned (.int .i64 (yl h)) ∧ Later w w' := by
  have hb := Year.ny_bd h (by omega) (by omega)
  have hd := Year.ny_bd (h + 1) (by omega) (by omega)
  have K1 := Lib.hid (fun W => rnewyear_any (h + 1) W (by omega) (by omega))
  have K2 := Lib.hid (fun W => rnewyear_any h W (by omega) (by omega))
  go_enter Try.func66, Try.ntmps66
  go_wp2_with fail
  refine (K1.out _).mono ?_
  rintro e w1 ⟨rfl, hg1⟩
  go_wp2_with fail
  refine (K2.out _).mono ?_
  rintro e w2 ⟨rfl, hg2⟩
  go_wp2_with fail
  go_ret
  exact ⟨ret1 rfl, gtrans hg1 hg2⟩

end Go.Proofs.Ytdoahnkjkbpdaaa.Mol
