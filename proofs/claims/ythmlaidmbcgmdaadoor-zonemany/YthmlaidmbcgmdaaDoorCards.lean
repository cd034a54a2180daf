/-
  DERIVED. GIVEN WITH THE SEED: THE CARDS: each row of YthmlaidmbcgmdaaDoorRows.lean that lists a variable, with what it lists TIED to the program's text (the seventh form; the later family's looks); each row that meets fmt, with fmt's text TOLD by the authors' own Lean function (tested against real Go, not proved from fmt's source: count such statements apart). THE CARD IS WHAT COUNTS. Prove the row's statement (the work); the ties are given (YthmlaidmbcgmdaaDoorTie.lean); close each card by the builder's one call (the guide's Derived/Test/ToyasCard.lean, 'card_holds'). Laid BY PROGRAM, IN A SANDBOX (cutbox-door.mjs). By AI agents, Wed Nov 11 2026. No macro, syntax, notation, axiom, sorry.
-/
import Derived.Test.YthmlaidmbcgmdaaDoorRows
import GoSem.ClaimSeven
namespace Go.Proofs.YthmlaidmbcgmdaaDoor
namespace Rows

/-- THE TIED CARD OF 'newellaw06.ZoneChecks'. -/
def zoneChecksCard : Claim7 := { stood := { row := zoneChecksRow, standIns := [], harness := (true, "f5e48cc57892619de836986e666817daa5421fbb5699f7094e0e3d8dbc488e05"), looks := false }, kinds := [], alts := [], laidByText := true, laidKinds := [.data], laidTests := true, laidLooks := .later }
def ZoneChecksCardSaid : Prop := Claim7.holds Tryd.pinned (.plain (OpenSpec.ofChange zoneChecksSpec)) zoneChecksCard

/-- THE TIED CARD OF 'newellaw06.ZoneLocals'. -/
def zoneLocalsCard : Claim7 := { stood := { row := zoneLocalsRow, standIns := [], harness := (true, "f5e48cc57892619de836986e666817daa5421fbb5699f7094e0e3d8dbc488e05"), looks := false }, kinds := [], alts := [], laidByText := true, laidKinds := [.data], laidTests := true, laidLooks := .later }
def ZoneLocalsCardSaid : Prop := Claim7.holds Tryd.pinned (.plain (OpenSpec.ofChange zoneLocalsSpec)) zoneLocalsCard

/-- THE TIED CARD OF 'newellaw06.ZoneInstants'. -/
def zoneInstantsCard : Claim7 := { stood := { row := zoneInstantsRow, standIns := [], harness := (true, "f5e48cc57892619de836986e666817daa5421fbb5699f7094e0e3d8dbc488e05"), looks := false }, kinds := [], alts := [], laidByText := true, laidKinds := [.data], laidTests := true, laidLooks := .later }
def ZoneInstantsCardSaid : Prop := Claim7.holds Tryd.pinned (.plain (OpenSpec.ofChange zoneInstantsSpec)) zoneInstantsCard

/-- THE TIED CARD OF 'newellaw06.ZoneBack'. -/
def zoneBackCard : Claim7 := { stood := { row := zoneBackRow, standIns := [], harness := (true, "f5e48cc57892619de836986e666817daa5421fbb5699f7094e0e3d8dbc488e05"), looks := false }, kinds := [], alts := [], laidByText := true, laidKinds := [.data], laidTests := true, laidLooks := .later }
def ZoneBackCardSaid : Prop := Claim7.holds Tryd.pinned (.plain (OpenSpec.ofChange zoneBackSpec)) zoneBackCard

/-- THE TIED CARD OF 'newellaw06.ZoneSteps'. -/
def zoneStepsCard : Claim7 := { stood := { row := zoneStepsRow, standIns := [], harness := (true, "f5e48cc57892619de836986e666817daa5421fbb5699f7094e0e3d8dbc488e05"), looks := false }, kinds := [], alts := [], laidByText := true, laidKinds := [.data], laidTests := true, laidLooks := .later }
def ZoneStepsCardSaid : Prop := Claim7.holds Tryd.pinned (.plain (OpenSpec.ofChange zoneStepsSpec)) zoneStepsCard

/-- THE TIED CARD OF 'newellaw06.ZoneMany'. -/
def zoneManyCard : Claim7 := { stood := { row := zoneManyRow, standIns := [], harness := (true, "f5e48cc57892619de836986e666817daa5421fbb5699f7094e0e3d8dbc488e05"), looks := false }, kinds := [], alts := [], laidByText := true, laidKinds := [.data], laidTests := true, laidLooks := .later }
def ZoneManyCardSaid : Prop := Claim7.holds Tryd.pinned (.plain (OpenSpec.ofChange zoneManySpec)) zoneManyCard

/-- THE TIED CARD OF 'newellaw06.ZoneTurns'. -/
def zoneTurnsCard : Claim7 := { stood := { row := zoneTurnsRow, standIns := [], harness := (true, "f5e48cc57892619de836986e666817daa5421fbb5699f7094e0e3d8dbc488e05"), looks := false }, kinds := [], alts := [], laidByText := true, laidKinds := [.data], laidTests := true, laidLooks := .later }
def ZoneTurnsCardSaid : Prop := Claim7.holds Tryd.pinned (.plain (OpenSpec.ofChange zoneTurnsSpec)) zoneTurnsCard

/-- THE SECOND FORM's CARD OF 'newellaw06.ZoneChecks'. -/
def zoneChecksUptoCard : Claim7 := { stood := { row := zoneChecksUptoRow, standIns := [], harness := (true, "f5e48cc57892619de836986e666817daa5421fbb5699f7094e0e3d8dbc488e05"), looks := false }, kinds := [], alts := [], laidByText := true, laidKinds := [.data], laidTests := true, laidLooks := .later }
def ZoneChecksUptoCardSaid : Prop := Claim7.holds Tryd.pinned (.plain (OpenSpec.upto zoneChecksSpec)) zoneChecksUptoCard

/-- THE SECOND FORM's CARD OF 'newellaw06.ZoneLocals'. -/
def zoneLocalsUptoCard : Claim7 := { stood := { row := zoneLocalsUptoRow, standIns := [], harness := (true, "f5e48cc57892619de836986e666817daa5421fbb5699f7094e0e3d8dbc488e05"), looks := false }, kinds := [], alts := [], laidByText := true, laidKinds := [.data], laidTests := true, laidLooks := .later }
def ZoneLocalsUptoCardSaid : Prop := Claim7.holds Tryd.pinned (.plain (OpenSpec.upto zoneLocalsSpec)) zoneLocalsUptoCard

/-- THE SECOND FORM's CARD OF 'newellaw06.ZoneInstants'. -/
def zoneInstantsUptoCard : Claim7 := { stood := { row := zoneInstantsUptoRow, standIns := [], harness := (true, "f5e48cc57892619de836986e666817daa5421fbb5699f7094e0e3d8dbc488e05"), looks := false }, kinds := [], alts := [], laidByText := true, laidKinds := [.data], laidTests := true, laidLooks := .later }
def ZoneInstantsUptoCardSaid : Prop := Claim7.holds Tryd.pinned (.plain (OpenSpec.upto zoneInstantsSpec)) zoneInstantsUptoCard

/-- THE SECOND FORM's CARD OF 'newellaw06.ZoneBack'. -/
def zoneBackUptoCard : Claim7 := { stood := { row := zoneBackUptoRow, standIns := [], harness := (true, "f5e48cc57892619de836986e666817daa5421fbb5699f7094e0e3d8dbc488e05"), looks := false }, kinds := [], alts := [], laidByText := true, laidKinds := [.data], laidTests := true, laidLooks := .later }
def ZoneBackUptoCardSaid : Prop := Claim7.holds Tryd.pinned (.plain (OpenSpec.upto zoneBackSpec)) zoneBackUptoCard

/-- THE SECOND FORM's CARD OF 'newellaw06.ZoneSteps'. -/
def zoneStepsUptoCard : Claim7 := { stood := { row := zoneStepsUptoRow, standIns := [], harness := (true, "f5e48cc57892619de836986e666817daa5421fbb5699f7094e0e3d8dbc488e05"), looks := false }, kinds := [], alts := [], laidByText := true, laidKinds := [.data], laidTests := true, laidLooks := .later }
def ZoneStepsUptoCardSaid : Prop := Claim7.holds Tryd.pinned (.plain (OpenSpec.upto zoneStepsSpec)) zoneStepsUptoCard

/-- THE SECOND FORM's CARD OF 'newellaw06.ZoneMany'. -/
def zoneManyUptoCard : Claim7 := { stood := { row := zoneManyUptoRow, standIns := [], harness := (true, "f5e48cc57892619de836986e666817daa5421fbb5699f7094e0e3d8dbc488e05"), looks := false }, kinds := [], alts := [], laidByText := true, laidKinds := [.data], laidTests := true, laidLooks := .later }
def ZoneManyUptoCardSaid : Prop := Claim7.holds Tryd.pinned (.plain (OpenSpec.upto zoneManySpec)) zoneManyUptoCard

/-- THE SECOND FORM's CARD OF 'newellaw06.ZoneTurns'. -/
def zoneTurnsUptoCard : Claim7 := { stood := { row := zoneTurnsUptoRow, standIns := [], harness := (true, "f5e48cc57892619de836986e666817daa5421fbb5699f7094e0e3d8dbc488e05"), looks := false }, kinds := [], alts := [], laidByText := true, laidKinds := [.data], laidTests := true, laidLooks := .later }
def ZoneTurnsUptoCardSaid : Prop := Claim7.holds Tryd.pinned (.plain (OpenSpec.upto zoneTurnsSpec)) zoneTurnsUptoCard
end Rows
end Go.Proofs.YthmlaidmbcgmdaaDoor
