/-
  DERIVED. GIVEN WITH THE SEED: THE CARDS: each row of YthbgkojmkllagaaDoorRows.lean that lists a variable, with what it lists TIED to the program's text (the seventh form; the later family's looks); each row that meets fmt, with fmt's text TOLD by the authors' own Lean function (tested against real Go, not proved from fmt's source: count such statements apart). THE CARD IS WHAT COUNTS. Prove the row's statement (the work); the ties are given (YthbgkojmkllagaaDoorTie.lean); close each card by the builder's one call (the guide's Derived/Test/ToyasCard.lean, 'card_holds'). Laid BY PROGRAM, IN A SANDBOX (cutbox-door.mjs). By AI agents, Wed Nov 11 2026. No macro, syntax, notation, axiom, sorry.
-/
import Derived.Test.YthbgkojmkllagaaDoorRows
import GoSem.ClaimSeven
namespace Go.Proofs.YthbgkojmkllagaaDoor
namespace Rows

/-- THE TIED CARD OF 'newellaw02.GregTells'. -/
def gregTellsCard : Claim7 := { stood := { row := gregTellsRow, standIns := [], harness := (true, "aacca204a4741e31dc60c47b29a7724d966c80bbda26557ec97b9370967abf46"), looks := false }, kinds := [], alts := [], laidByText := true, laidKinds := [.data], laidTests := true, laidLooks := .later }
def GregTellsCardSaid : Prop := Claim7.holds Tryd.pinned (.plain (OpenSpec.ofChange gregTellsSpec)) gregTellsCard

/-- THE TIED CARD OF 'newellaw02.GregDates'. -/
def gregDatesCard : Claim7 := { stood := { row := gregDatesRow, standIns := [], harness := (true, "aacca204a4741e31dc60c47b29a7724d966c80bbda26557ec97b9370967abf46"), looks := false }, kinds := [], alts := [], laidByText := true, laidKinds := [.data], laidTests := true, laidLooks := .later }
def GregDatesCardSaid : Prop := Claim7.holds Tryd.pinned (.plain (OpenSpec.ofChange gregDatesSpec)) gregDatesCard

/-- THE TIED CARD OF 'newellaw02.GregNths'. -/
def gregNthsCard : Claim7 := { stood := { row := gregNthsRow, standIns := [], harness := (true, "aacca204a4741e31dc60c47b29a7724d966c80bbda26557ec97b9370967abf46"), looks := false }, kinds := [], alts := [], laidByText := true, laidKinds := [.data], laidTests := true, laidLooks := .later }
def GregNthsCardSaid : Prop := Claim7.holds Tryd.pinned (.plain (OpenSpec.ofChange gregNthsSpec)) gregNthsCard

/-- THE TIED CARD OF 'newellaw02.GregBack'. -/
def gregBackCard : Claim7 := { stood := { row := gregBackRow, standIns := [], harness := (true, "aacca204a4741e31dc60c47b29a7724d966c80bbda26557ec97b9370967abf46"), looks := false }, kinds := [], alts := [], laidByText := true, laidKinds := [.data], laidTests := true, laidLooks := .later }
def GregBackCardSaid : Prop := Claim7.holds Tryd.pinned (.plain (OpenSpec.ofChange gregBackSpec)) gregBackCard

/-- THE TIED CARD OF 'newellaw02.GregNext'. -/
def gregNextCard : Claim7 := { stood := { row := gregNextRow, standIns := [], harness := (true, "aacca204a4741e31dc60c47b29a7724d966c80bbda26557ec97b9370967abf46"), looks := false }, kinds := [], alts := [], laidByText := true, laidKinds := [.data], laidTests := true, laidLooks := .later }
def GregNextCardSaid : Prop := Claim7.holds Tryd.pinned (.plain (OpenSpec.ofChange gregNextSpec)) gregNextCard

/-- THE TIED CARD OF 'newellaw02.GregAges'. -/
def gregAgesCard : Claim7 := { stood := { row := gregAgesRow, standIns := [], harness := (true, "aacca204a4741e31dc60c47b29a7724d966c80bbda26557ec97b9370967abf46"), looks := false }, kinds := [], alts := [], laidByText := true, laidKinds := [.data], laidTests := true, laidLooks := .later }
def GregAgesCardSaid : Prop := Claim7.holds Tryd.pinned (.plain (OpenSpec.ofChange gregAgesSpec)) gregAgesCard

/-- THE TIED CARD OF 'newellaw02.GregLast'. -/
def gregLastCard : Claim7 := { stood := { row := gregLastRow, standIns := [], harness := (true, "aacca204a4741e31dc60c47b29a7724d966c80bbda26557ec97b9370967abf46"), looks := false }, kinds := [], alts := [], laidByText := true, laidKinds := [.data], laidTests := true, laidLooks := .later }
def GregLastCardSaid : Prop := Claim7.holds Tryd.pinned (.plain (OpenSpec.ofChange gregLastSpec)) gregLastCard

/-- THE SECOND FORM's CARD OF 'newellaw02.GregTells'. -/
def gregTellsUptoCard : Claim7 := { stood := { row := gregTellsUptoRow, standIns := [], harness := (true, "aacca204a4741e31dc60c47b29a7724d966c80bbda26557ec97b9370967abf46"), looks := false }, kinds := [], alts := [], laidByText := true, laidKinds := [.data], laidTests := true, laidLooks := .later }
def GregTellsUptoCardSaid : Prop := Claim7.holds Tryd.pinned (.plain (OpenSpec.upto gregTellsSpec)) gregTellsUptoCard

/-- THE SECOND FORM's CARD OF 'newellaw02.GregDates'. -/
def gregDatesUptoCard : Claim7 := { stood := { row := gregDatesUptoRow, standIns := [], harness := (true, "aacca204a4741e31dc60c47b29a7724d966c80bbda26557ec97b9370967abf46"), looks := false }, kinds := [], alts := [], laidByText := true, laidKinds := [.data], laidTests := true, laidLooks := .later }
def GregDatesUptoCardSaid : Prop := Claim7.holds Tryd.pinned (.plain (OpenSpec.upto gregDatesSpec)) gregDatesUptoCard

/-- THE SECOND FORM's CARD OF 'newellaw02.GregNths'. -/
def gregNthsUptoCard : Claim7 := { stood := { row := gregNthsUptoRow, standIns := [], harness := (true, "aacca204a4741e31dc60c47b29a7724d966c80bbda26557ec97b9370967abf46"), looks := false }, kinds := [], alts := [], laidByText := true, laidKinds := [.data], laidTests := true, laidLooks := .later }
def GregNthsUptoCardSaid : Prop := Claim7.holds Tryd.pinned (.plain (OpenSpec.upto gregNthsSpec)) gregNthsUptoCard

/-- THE SECOND FORM's CARD OF 'newellaw02.GregBack'. -/
def gregBackUptoCard : Claim7 := { stood := { row := gregBackUptoRow, standIns := [], harness := (true, "aacca204a4741e31dc60c47b29a7724d966c80bbda26557ec97b9370967abf46"), looks := false }, kinds := [], alts := [], laidByText := true, laidKinds := [.data], laidTests := true, laidLooks := .later }
def GregBackUptoCardSaid : Prop := Claim7.holds Tryd.pinned (.plain (OpenSpec.upto gregBackSpec)) gregBackUptoCard

/-- THE SECOND FORM's CARD OF 'newellaw02.GregNext'. -/
def gregNextUptoCard : Claim7 := { stood := { row := gregNextUptoRow, standIns := [], harness := (true, "aacca204a4741e31dc60c47b29a7724d966c80bbda26557ec97b9370967abf46"), looks := false }, kinds := [], alts := [], laidByText := true, laidKinds := [.data], laidTests := true, laidLooks := .later }
def GregNextUptoCardSaid : Prop := Claim7.holds Tryd.pinned (.plain (OpenSpec.upto gregNextSpec)) gregNextUptoCard

/-- THE SECOND FORM's CARD OF 'newellaw02.GregAges'. -/
def gregAgesUptoCard : Claim7 := { stood := { row := gregAgesUptoRow, standIns := [], harness := (true, "aacca204a4741e31dc60c47b29a7724d966c80bbda26557ec97b9370967abf46"), looks := false }, kinds := [], alts := [], laidByText := true, laidKinds := [.data], laidTests := true, laidLooks := .later }
def GregAgesUptoCardSaid : Prop := Claim7.holds Tryd.pinned (.plain (OpenSpec.upto gregAgesSpec)) gregAgesUptoCard

/-- THE SECOND FORM's CARD OF 'newellaw02.GregLast'. -/
def gregLastUptoCard : Claim7 := { stood := { row := gregLastUptoRow, standIns := [], harness := (true, "aacca204a4741e31dc60c47b29a7724d966c80bbda26557ec97b9370967abf46"), looks := false }, kinds := [], alts := [], laidByText := true, laidKinds := [.data], laidTests := true, laidLooks := .later }
def GregLastUptoCardSaid : Prop := Claim7.holds Tryd.pinned (.plain (OpenSpec.upto gregLastSpec)) gregLastUptoCard
end Rows
end Go.Proofs.YthbgkojmkllagaaDoor
