/-
  DERIVED. GIVEN WITH THE SEED: THE CARDS: each row of YteakbpcmafdikaaGreatDoorRows.lean that lists a variable, with what it lists TIED to the program's text (the seventh form; the later family's looks); each row that meets fmt, with fmt's text TOLD by the authors' own Lean function (tested against real Go, not proved from fmt's source: count such statements apart). THE CARD IS WHAT COUNTS. Prove the row's statement (the work); the ties are given (YteakbpcmafdikaaGreatDoorTie.lean); close each card by the builder's one call (the guide's Derived/Test/ToyasCard.lean, 'card_holds'). Laid BY PROGRAM, IN A SANDBOX (cutbox-door.mjs). By AI agents, Wed Nov 11 2026. No macro, syntax, notation, axiom, sorry.
-/
import Derived.Test.YteakbpcmafdikaaGreatDoorRows
import GoSem.ClaimSeven
namespace Go.Proofs.YteakbpcmafdikaaGreatDoor
namespace Rows

/-- THE TIED CARD OF 'splicelaw11.NamesResolve'. -/
def namesResolveCard : Claim7 := { stood := { row := namesResolveRow, standIns := [], harness := (true, "3e436b4f0950f96eeee01a9342d3a67179d1d7189a9d770a6aa7cc566035e56c"), looks := false }, kinds := [], alts := [], laidByText := true, laidKinds := [.data], laidTests := true, laidLooks := .later }
def NamesResolveCardSaid : Prop := Claim7.holds Tryz.pinned (.plain (OpenSpec.ofChange namesResolveSpec)) namesResolveCard

/-- THE TIED CARD OF 'splicelaw11.NamesPlaces'. -/
def namesPlacesCard : Claim7 := { stood := { row := namesPlacesRow, standIns := [], harness := (true, "3e436b4f0950f96eeee01a9342d3a67179d1d7189a9d770a6aa7cc566035e56c"), looks := false }, kinds := [], alts := [], laidByText := true, laidKinds := [.data], laidTests := true, laidLooks := .later }
def NamesPlacesCardSaid : Prop := Claim7.holds Tryz.pinned (.plain (OpenSpec.ofChange namesPlacesSpec)) namesPlacesCard

/-- THE TIED CARD OF 'splicelaw11.NamesStrong'. -/
def namesStrongCard : Claim7 := { stood := { row := namesStrongRow, standIns := [], harness := (true, "3e436b4f0950f96eeee01a9342d3a67179d1d7189a9d770a6aa7cc566035e56c"), looks := false }, kinds := [], alts := [], laidByText := true, laidKinds := [.data], laidTests := true, laidLooks := .later }
def NamesStrongCardSaid : Prop := Claim7.holds Tryz.pinned (.plain (OpenSpec.ofChange namesStrongSpec)) namesStrongCard

/-- THE TIED CARD OF 'splicelaw11.NamesMore'. -/
def namesMoreCard : Claim7 := { stood := { row := namesMoreRow, standIns := [], harness := (true, "3e436b4f0950f96eeee01a9342d3a67179d1d7189a9d770a6aa7cc566035e56c"), looks := false }, kinds := [], alts := [], laidByText := true, laidKinds := [.data], laidTests := true, laidLooks := .later }
def NamesMoreCardSaid : Prop := Claim7.holds Tryz.pinned (.plain (OpenSpec.ofChange namesMoreSpec)) namesMoreCard

/-- THE TIED CARD OF 'splicelaw11.NamesKeeps'. -/
def namesKeepsCard : Claim7 := { stood := { row := namesKeepsRow, standIns := [], harness := (true, "3e436b4f0950f96eeee01a9342d3a67179d1d7189a9d770a6aa7cc566035e56c"), looks := false }, kinds := [], alts := [], laidByText := true, laidKinds := [.data], laidTests := true, laidLooks := .later }
def NamesKeepsCardSaid : Prop := Claim7.holds Tryz.pinned (.plain (OpenSpec.ofChange namesKeepsSpec)) namesKeepsCard

/-- THE TIED CARD OF 'splicelaw11.NamesOrder'. -/
def namesOrderCard : Claim7 := { stood := { row := namesOrderRow, standIns := [], harness := (true, "3e436b4f0950f96eeee01a9342d3a67179d1d7189a9d770a6aa7cc566035e56c"), looks := false }, kinds := [], alts := [], laidByText := true, laidKinds := [.data], laidTests := true, laidLooks := .later }
def NamesOrderCardSaid : Prop := Claim7.holds Tryz.pinned (.plain (OpenSpec.ofChange namesOrderSpec)) namesOrderCard

/-- THE SECOND FORM's CARD OF 'splicelaw11.NamesResolve'. -/
def namesResolveUptoCard : Claim7 := { stood := { row := namesResolveUptoRow, standIns := [], harness := (true, "3e436b4f0950f96eeee01a9342d3a67179d1d7189a9d770a6aa7cc566035e56c"), looks := false }, kinds := [], alts := [], laidByText := true, laidKinds := [.data], laidTests := true, laidLooks := .later }
def NamesResolveUptoCardSaid : Prop := Claim7.holds Tryz.pinned (.plain (OpenSpec.upto namesResolveSpec)) namesResolveUptoCard

/-- THE SECOND FORM's CARD OF 'splicelaw11.NamesPlaces'. -/
def namesPlacesUptoCard : Claim7 := { stood := { row := namesPlacesUptoRow, standIns := [], harness := (true, "3e436b4f0950f96eeee01a9342d3a67179d1d7189a9d770a6aa7cc566035e56c"), looks := false }, kinds := [], alts := [], laidByText := true, laidKinds := [.data], laidTests := true, laidLooks := .later }
def NamesPlacesUptoCardSaid : Prop := Claim7.holds Tryz.pinned (.plain (OpenSpec.upto namesPlacesSpec)) namesPlacesUptoCard

/-- THE SECOND FORM's CARD OF 'splicelaw11.NamesStrong'. -/
def namesStrongUptoCard : Claim7 := { stood := { row := namesStrongUptoRow, standIns := [], harness := (true, "3e436b4f0950f96eeee01a9342d3a67179d1d7189a9d770a6aa7cc566035e56c"), looks := false }, kinds := [], alts := [], laidByText := true, laidKinds := [.data], laidTests := true, laidLooks := .later }
def NamesStrongUptoCardSaid : Prop := Claim7.holds Tryz.pinned (.plain (OpenSpec.upto namesStrongSpec)) namesStrongUptoCard

/-- THE SECOND FORM's CARD OF 'splicelaw11.NamesMore'. -/
def namesMoreUptoCard : Claim7 := { stood := { row := namesMoreUptoRow, standIns := [], harness := (true, "3e436b4f0950f96eeee01a9342d3a67179d1d7189a9d770a6aa7cc566035e56c"), looks := false }, kinds := [], alts := [], laidByText := true, laidKinds := [.data], laidTests := true, laidLooks := .later }
def NamesMoreUptoCardSaid : Prop := Claim7.holds Tryz.pinned (.plain (OpenSpec.upto namesMoreSpec)) namesMoreUptoCard

/-- THE SECOND FORM's CARD OF 'splicelaw11.NamesKeeps'. -/
def namesKeepsUptoCard : Claim7 := { stood := { row := namesKeepsUptoRow, standIns := [], harness := (true, "3e436b4f0950f96eeee01a9342d3a67179d1d7189a9d770a6aa7cc566035e56c"), looks := false }, kinds := [], alts := [], laidByText := true, laidKinds := [.data], laidTests := true, laidLooks := .later }
def NamesKeepsUptoCardSaid : Prop := Claim7.holds Tryz.pinned (.plain (OpenSpec.upto namesKeepsSpec)) namesKeepsUptoCard

/-- THE SECOND FORM's CARD OF 'splicelaw11.NamesOrder'. -/
def namesOrderUptoCard : Claim7 := { stood := { row := namesOrderUptoRow, standIns := [], harness := (true, "3e436b4f0950f96eeee01a9342d3a67179d1d7189a9d770a6aa7cc566035e56c"), looks := false }, kinds := [], alts := [], laidByText := true, laidKinds := [.data], laidTests := true, laidLooks := .later }
def NamesOrderUptoCardSaid : Prop := Claim7.holds Tryz.pinned (.plain (OpenSpec.upto namesOrderSpec)) namesOrderUptoCard
end Rows
end Go.Proofs.YteakbpcmafdikaaGreatDoor
