/-
  DERIVED. GIVEN WITH THE SEED: THE CARDS: each row of YtombfnnpdamlgaaDoorRows.lean that lists a variable, with what it lists TIED to the program's text (the seventh form; the later family's looks); each row that meets fmt, with fmt's text TOLD by the authors' own Lean function (tested against real Go, not proved from fmt's source: count such statements apart). THE CARD IS WHAT COUNTS. Prove the row's statement (the work); the ties are given (YtombfnnpdamlgaaDoorTie.lean); close each card by the builder's one call (the guide's Derived/Test/ToyasCard.lean, 'card_holds'). Laid BY PROGRAM, IN A SANDBOX (cutbox-door.mjs). By AI agents, Wed Nov 11 2026. No macro, syntax, notation, axiom, sorry.
-/
import Derived.Test.YtombfnnpdamlgaaDoorRows
import GoSem.ClaimSeven
namespace Go.Proofs.YtombfnnpdamlgaaDoor
namespace Rows

/-- THE TIED CARD OF 'splicelaw13.PatchCodes'. -/
def patchCodesCard : Claim7 := { stood := { row := patchCodesRow, standIns := [], harness := (true, "0a245c5df040b2bbb5beb4ed38c66931d9d2f4d6f3af829a8f42c054b09e787f"), looks := false }, kinds := [], alts := [], laidByText := true, laidKinds := [.data], laidTests := true, laidLooks := .later }
def PatchCodesCardSaid : Prop := Claim7.holds Tryd.pinned (.plain (OpenSpec.ofChange patchCodesSpec)) patchCodesCard

/-- THE TIED CARD OF 'splicelaw13.PatchDatas'. -/
def patchDatasCard : Claim7 := { stood := { row := patchDatasRow, standIns := [], harness := (true, "0a245c5df040b2bbb5beb4ed38c66931d9d2f4d6f3af829a8f42c054b09e787f"), looks := false }, kinds := [], alts := [], laidByText := true, laidKinds := [.data], laidTests := true, laidLooks := .later }
def PatchDatasCardSaid : Prop := Claim7.holds Tryd.pinned (.plain (OpenSpec.ofChange patchDatasSpec)) patchDatasCard

/-- THE TIED CARD OF 'splicelaw13.PatchEquation'. -/
def patchEquationCard : Claim7 := { stood := { row := patchEquationRow, standIns := [], harness := (true, "0a245c5df040b2bbb5beb4ed38c66931d9d2f4d6f3af829a8f42c054b09e787f"), looks := false }, kinds := [], alts := [], laidByText := true, laidKinds := [.data], laidTests := true, laidLooks := .later }
def PatchEquationCardSaid : Prop := Claim7.holds Tryd.pinned (.plain (OpenSpec.ofChange patchEquationSpec)) patchEquationCard

/-- THE TIED CARD OF 'splicelaw13.PatchBytes'. -/
def patchBytesCard : Claim7 := { stood := { row := patchBytesRow, standIns := [], harness := (true, "0a245c5df040b2bbb5beb4ed38c66931d9d2f4d6f3af829a8f42c054b09e787f"), looks := false }, kinds := [], alts := [], laidByText := true, laidKinds := [.data], laidTests := true, laidLooks := .later }
def PatchBytesCardSaid : Prop := Claim7.holds Tryd.pinned (.plain (OpenSpec.ofChange patchBytesSpec)) patchBytesCard

/-- THE TIED CARD OF 'splicelaw13.PatchKeeps'. -/
def patchKeepsCard : Claim7 := { stood := { row := patchKeepsRow, standIns := [], harness := (true, "0a245c5df040b2bbb5beb4ed38c66931d9d2f4d6f3af829a8f42c054b09e787f"), looks := false }, kinds := [], alts := [], laidByText := true, laidKinds := [.data], laidTests := true, laidLooks := .later }
def PatchKeepsCardSaid : Prop := Claim7.holds Tryd.pinned (.plain (OpenSpec.ofChange patchKeepsSpec)) patchKeepsCard

/-- THE SECOND FORM's CARD OF 'splicelaw13.PatchCodes'. -/
def patchCodesUptoCard : Claim7 := { stood := { row := patchCodesUptoRow, standIns := [], harness := (true, "0a245c5df040b2bbb5beb4ed38c66931d9d2f4d6f3af829a8f42c054b09e787f"), looks := false }, kinds := [], alts := [], laidByText := true, laidKinds := [.data], laidTests := true, laidLooks := .later }
def PatchCodesUptoCardSaid : Prop := Claim7.holds Tryd.pinned (.plain (OpenSpec.upto patchCodesSpec)) patchCodesUptoCard

/-- THE SECOND FORM's CARD OF 'splicelaw13.PatchDatas'. -/
def patchDatasUptoCard : Claim7 := { stood := { row := patchDatasUptoRow, standIns := [], harness := (true, "0a245c5df040b2bbb5beb4ed38c66931d9d2f4d6f3af829a8f42c054b09e787f"), looks := false }, kinds := [], alts := [], laidByText := true, laidKinds := [.data], laidTests := true, laidLooks := .later }
def PatchDatasUptoCardSaid : Prop := Claim7.holds Tryd.pinned (.plain (OpenSpec.upto patchDatasSpec)) patchDatasUptoCard

/-- THE SECOND FORM's CARD OF 'splicelaw13.PatchEquation'. -/
def patchEquationUptoCard : Claim7 := { stood := { row := patchEquationUptoRow, standIns := [], harness := (true, "0a245c5df040b2bbb5beb4ed38c66931d9d2f4d6f3af829a8f42c054b09e787f"), looks := false }, kinds := [], alts := [], laidByText := true, laidKinds := [.data], laidTests := true, laidLooks := .later }
def PatchEquationUptoCardSaid : Prop := Claim7.holds Tryd.pinned (.plain (OpenSpec.upto patchEquationSpec)) patchEquationUptoCard

/-- THE SECOND FORM's CARD OF 'splicelaw13.PatchBytes'. -/
def patchBytesUptoCard : Claim7 := { stood := { row := patchBytesUptoRow, standIns := [], harness := (true, "0a245c5df040b2bbb5beb4ed38c66931d9d2f4d6f3af829a8f42c054b09e787f"), looks := false }, kinds := [], alts := [], laidByText := true, laidKinds := [.data], laidTests := true, laidLooks := .later }
def PatchBytesUptoCardSaid : Prop := Claim7.holds Tryd.pinned (.plain (OpenSpec.upto patchBytesSpec)) patchBytesUptoCard

/-- THE SECOND FORM's CARD OF 'splicelaw13.PatchKeeps'. -/
def patchKeepsUptoCard : Claim7 := { stood := { row := patchKeepsUptoRow, standIns := [], harness := (true, "0a245c5df040b2bbb5beb4ed38c66931d9d2f4d6f3af829a8f42c054b09e787f"), looks := false }, kinds := [], alts := [], laidByText := true, laidKinds := [.data], laidTests := true, laidLooks := .later }
def PatchKeepsUptoCardSaid : Prop := Claim7.holds Tryd.pinned (.plain (OpenSpec.upto patchKeepsSpec)) patchKeepsUptoCard
end Rows
end Go.Proofs.YtombfnnpdamlgaaDoor
