/-
  DERIVED. GIVEN WITH THE SEED: THE CARDS: each row of YtepaiolhflpmeaaDoorRows.lean that lists a variable, with what it lists TIED to the program's text (the seventh form; the later family's looks); each row that meets fmt, with fmt's text TOLD by the authors' own Lean function (tested against real Go, not proved from fmt's source: count such statements apart). THE CARD IS WHAT COUNTS. Prove the row's statement (the work); the ties are given (YtepaiolhflpmeaaDoorTie.lean); close each card by the builder's one call (the guide's Derived/Test/ToyasCard.lean, 'card_holds'). Laid BY PROGRAM, IN A SANDBOX (cutbox-door.mjs). By AI agents, Wed Nov 11 2026. No macro, syntax, notation, axiom, sorry.
-/
import Derived.Test.YtepaiolhflpmeaaDoorRows
import GoSem.ClaimSeven
namespace Go.Proofs.YtepaiolhflpmeaaDoor
namespace Rows

/-- THE TIED CARD OF 'newellaw07.SunChecks'. -/
def sunChecksCard : Claim7 := { stood := { row := sunChecksRow, standIns := [], harness := (true, "cda0cf21e3af875b19f88d87297b3dece36d527f926f0c673c6af6d5ca33074c"), looks := false }, kinds := [], alts := [], laidByText := true, laidKinds := [.data], laidTests := true, laidLooks := .later }
def SunChecksCardSaid : Prop := Claim7.holds Tryd.pinned (.plain (OpenSpec.ofChange sunChecksSpec)) sunChecksCard

/-- THE TIED CARD OF 'newellaw07.SunTells'. -/
def sunTellsCard : Claim7 := { stood := { row := sunTellsRow, standIns := [], harness := (true, "cda0cf21e3af875b19f88d87297b3dece36d527f926f0c673c6af6d5ca33074c"), looks := false }, kinds := [], alts := [], laidByText := true, laidKinds := [.data], laidTests := true, laidLooks := .later }
def SunTellsCardSaid : Prop := Claim7.holds Tryd.pinned (.plain (OpenSpec.ofChange sunTellsSpec)) sunTellsCard

/-- THE TIED CARD OF 'newellaw07.SunMoments'. -/
def sunMomentsCard : Claim7 := { stood := { row := sunMomentsRow, standIns := [], harness := (true, "cda0cf21e3af875b19f88d87297b3dece36d527f926f0c673c6af6d5ca33074c"), looks := false }, kinds := [], alts := [], laidByText := true, laidKinds := [.data], laidTests := true, laidLooks := .later }
def SunMomentsCardSaid : Prop := Claim7.holds Tryd.pinned (.plain (OpenSpec.ofChange sunMomentsSpec)) sunMomentsCard

/-- THE TIED CARD OF 'newellaw07.SunLocal'. -/
def sunLocalCard : Claim7 := { stood := { row := sunLocalRow, standIns := [], harness := (true, "cda0cf21e3af875b19f88d87297b3dece36d527f926f0c673c6af6d5ca33074c"), looks := false }, kinds := [], alts := [], laidByText := true, laidKinds := [.data], laidTests := true, laidLooks := .later }
def SunLocalCardSaid : Prop := Claim7.holds Tryd.pinned (.plain (OpenSpec.ofChange sunLocalSpec)) sunLocalCard

/-- THE SECOND FORM's CARD OF 'newellaw07.SunChecks'. -/
def sunChecksUptoCard : Claim7 := { stood := { row := sunChecksUptoRow, standIns := [], harness := (true, "cda0cf21e3af875b19f88d87297b3dece36d527f926f0c673c6af6d5ca33074c"), looks := false }, kinds := [], alts := [], laidByText := true, laidKinds := [.data], laidTests := true, laidLooks := .later }
def SunChecksUptoCardSaid : Prop := Claim7.holds Tryd.pinned (.plain (OpenSpec.upto sunChecksSpec)) sunChecksUptoCard

/-- THE SECOND FORM's CARD OF 'newellaw07.SunTells'. -/
def sunTellsUptoCard : Claim7 := { stood := { row := sunTellsUptoRow, standIns := [], harness := (true, "cda0cf21e3af875b19f88d87297b3dece36d527f926f0c673c6af6d5ca33074c"), looks := false }, kinds := [], alts := [], laidByText := true, laidKinds := [.data], laidTests := true, laidLooks := .later }
def SunTellsUptoCardSaid : Prop := Claim7.holds Tryd.pinned (.plain (OpenSpec.upto sunTellsSpec)) sunTellsUptoCard

/-- THE SECOND FORM's CARD OF 'newellaw07.SunMoments'. -/
def sunMomentsUptoCard : Claim7 := { stood := { row := sunMomentsUptoRow, standIns := [], harness := (true, "cda0cf21e3af875b19f88d87297b3dece36d527f926f0c673c6af6d5ca33074c"), looks := false }, kinds := [], alts := [], laidByText := true, laidKinds := [.data], laidTests := true, laidLooks := .later }
def SunMomentsUptoCardSaid : Prop := Claim7.holds Tryd.pinned (.plain (OpenSpec.upto sunMomentsSpec)) sunMomentsUptoCard

/-- THE SECOND FORM's CARD OF 'newellaw07.SunLocal'. -/
def sunLocalUptoCard : Claim7 := { stood := { row := sunLocalUptoRow, standIns := [], harness := (true, "cda0cf21e3af875b19f88d87297b3dece36d527f926f0c673c6af6d5ca33074c"), looks := false }, kinds := [], alts := [], laidByText := true, laidKinds := [.data], laidTests := true, laidLooks := .later }
def SunLocalUptoCardSaid : Prop := Claim7.holds Tryd.pinned (.plain (OpenSpec.upto sunLocalSpec)) sunLocalUptoCard
end Rows
end Go.Proofs.YtepaiolhflpmeaaDoor
