/-
  DERIVED. GIVEN WITH THE SEED: THE CARDS: each row of YtnejpldbokodaaaGreatDoorRows.lean that lists a variable, with what it lists TIED to the program's text (the seventh form; the later family's looks); each row that meets fmt, with fmt's text TOLD by the authors' own Lean function (tested against real Go, not proved from fmt's source: count such statements apart). THE CARD IS WHAT COUNTS. Prove the row's statement (the work); the ties are given (YtnejpldbokodaaaGreatDoorTie.lean); close each card by the builder's one call (the guide's Derived/Test/ToyasCard.lean, 'card_holds'). Laid BY PROGRAM, IN A SANDBOX (cutbox-door.mjs). By AI agents, Wed Nov 11 2026. No macro, syntax, notation, axiom, sorry.
-/
import Derived.Test.YtnejpldbokodaaaGreatDoorRows
import GoSem.ClaimSeven
namespace Go.Proofs.YtnejpldbokodaaaGreatDoor
namespace Rows

/-- THE TIED CARD OF 'splicelaw10.CheckFunctions'. -/
def checkFunctionsCard : Claim7 := { stood := { row := checkFunctionsRow, standIns := [], harness := (true, "e6e708d98663da280b32b99663b6fa9136b12c5e6e5c2da6642016c4029e5f2b"), looks := false }, kinds := [], alts := [], laidByText := true, laidKinds := [.data], laidTests := true, laidLooks := .later }
def CheckFunctionsCardSaid : Prop := Claim7.holds Tryz.pinned (.plain (OpenSpec.ofChange checkFunctionsSpec)) checkFunctionsCard

/-- THE TIED CARD OF 'splicelaw10.CheckObjects'. -/
def checkObjectsCard : Claim7 := { stood := { row := checkObjectsRow, standIns := [], harness := (true, "e6e708d98663da280b32b99663b6fa9136b12c5e6e5c2da6642016c4029e5f2b"), looks := false }, kinds := [], alts := [], laidByText := true, laidKinds := [.data], laidTests := true, laidLooks := .later }
def CheckObjectsCardSaid : Prop := Claim7.holds Tryz.pinned (.plain (OpenSpec.ofChange checkObjectsSpec)) checkObjectsCard

/-- THE TIED CARD OF 'splicelaw10.CheckInside'. -/
def checkInsideCard : Claim7 := { stood := { row := checkInsideRow, standIns := [], harness := (true, "e6e708d98663da280b32b99663b6fa9136b12c5e6e5c2da6642016c4029e5f2b"), looks := false }, kinds := [], alts := [], laidByText := true, laidKinds := [.data], laidTests := true, laidLooks := .later }
def CheckInsideCardSaid : Prop := Claim7.holds Tryz.pinned (.plain (OpenSpec.ofChange checkInsideSpec)) checkInsideCard

/-- THE TIED CARD OF 'splicelaw10.CheckKeeps'. -/
def checkKeepsCard : Claim7 := { stood := { row := checkKeepsRow, standIns := [], harness := (true, "e6e708d98663da280b32b99663b6fa9136b12c5e6e5c2da6642016c4029e5f2b"), looks := false }, kinds := [], alts := [], laidByText := true, laidKinds := [.data], laidTests := true, laidLooks := .later }
def CheckKeepsCardSaid : Prop := Claim7.holds Tryz.pinned (.plain (OpenSpec.ofChange checkKeepsSpec)) checkKeepsCard

/-- THE SECOND FORM's CARD OF 'splicelaw10.CheckFunctions'. -/
def checkFunctionsUptoCard : Claim7 := { stood := { row := checkFunctionsUptoRow, standIns := [], harness := (true, "e6e708d98663da280b32b99663b6fa9136b12c5e6e5c2da6642016c4029e5f2b"), looks := false }, kinds := [], alts := [], laidByText := true, laidKinds := [.data], laidTests := true, laidLooks := .later }
def CheckFunctionsUptoCardSaid : Prop := Claim7.holds Tryz.pinned (.plain (OpenSpec.upto checkFunctionsSpec)) checkFunctionsUptoCard

/-- THE SECOND FORM's CARD OF 'splicelaw10.CheckObjects'. -/
def checkObjectsUptoCard : Claim7 := { stood := { row := checkObjectsUptoRow, standIns := [], harness := (true, "e6e708d98663da280b32b99663b6fa9136b12c5e6e5c2da6642016c4029e5f2b"), looks := false }, kinds := [], alts := [], laidByText := true, laidKinds := [.data], laidTests := true, laidLooks := .later }
def CheckObjectsUptoCardSaid : Prop := Claim7.holds Tryz.pinned (.plain (OpenSpec.upto checkObjectsSpec)) checkObjectsUptoCard

/-- THE SECOND FORM's CARD OF 'splicelaw10.CheckInside'. -/
def checkInsideUptoCard : Claim7 := { stood := { row := checkInsideUptoRow, standIns := [], harness := (true, "e6e708d98663da280b32b99663b6fa9136b12c5e6e5c2da6642016c4029e5f2b"), looks := false }, kinds := [], alts := [], laidByText := true, laidKinds := [.data], laidTests := true, laidLooks := .later }
def CheckInsideUptoCardSaid : Prop := Claim7.holds Tryz.pinned (.plain (OpenSpec.upto checkInsideSpec)) checkInsideUptoCard

/-- THE SECOND FORM's CARD OF 'splicelaw10.CheckKeeps'. -/
def checkKeepsUptoCard : Claim7 := { stood := { row := checkKeepsUptoRow, standIns := [], harness := (true, "e6e708d98663da280b32b99663b6fa9136b12c5e6e5c2da6642016c4029e5f2b"), looks := false }, kinds := [], alts := [], laidByText := true, laidKinds := [.data], laidTests := true, laidLooks := .later }
def CheckKeepsUptoCardSaid : Prop := Claim7.holds Tryz.pinned (.plain (OpenSpec.upto checkKeepsSpec)) checkKeepsUptoCard
end Rows
end Go.Proofs.YtnejpldbokodaaaGreatDoor
