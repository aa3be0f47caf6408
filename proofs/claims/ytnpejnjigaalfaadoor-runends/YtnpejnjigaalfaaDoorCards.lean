/-
  DERIVED. GIVEN WITH THE SEED: THE CARDS: each row of YtnpejnjigaalfaaDoorRows.lean that lists a variable, with what it lists TIED to the program's text (the seventh form; the later family's looks); each row that meets fmt, with fmt's text TOLD by the authors' own Lean function (tested against real Go, not proved from fmt's source: count such statements apart). THE CARD IS WHAT COUNTS. Prove the row's statement (the work); the ties are given (YtnpejnjigaalfaaDoorTie.lean); close each card by the builder's one call (the guide's Derived/Test/ToyasCard.lean, 'card_holds'). Laid BY PROGRAM, IN A SANDBOX (cutbox-door.mjs). By AI agents, Wed Nov 11 2026. No macro, syntax, notation, axiom, sorry.
-/
import Derived.Test.YtnpejnjigaalfaaDoorRows
import GoSem.ClaimSeven
namespace Go.Proofs.YtnpejnjigaalfaaDoor
namespace Rows

/-- THE TIED CARD OF 'splicelaw07.RunTraces'. -/
def runTracesCard : Claim7 := { stood := { row := runTracesRow, standIns := [], harness := (true, "c72f633930f7a357c4a2a2024328d705ae8589c9b4b8ffd14eafe99737a9bc53"), looks := false }, kinds := [], alts := [], laidByText := true, laidKinds := [.data], laidTests := true, laidLooks := .later }
def RunTracesCardSaid : Prop := Claim7.holds Tryd.pinned (.plain (OpenSpec.ofChange runTracesSpec)) runTracesCard

/-- THE TIED CARD OF 'splicelaw07.RunParts'. -/
def runPartsCard : Claim7 := { stood := { row := runPartsRow, standIns := [], harness := (true, "c72f633930f7a357c4a2a2024328d705ae8589c9b4b8ffd14eafe99737a9bc53"), looks := false }, kinds := [], alts := [], laidByText := true, laidKinds := [.data], laidTests := true, laidLooks := .later }
def RunPartsCardSaid : Prop := Claim7.holds Tryd.pinned (.plain (OpenSpec.ofChange runPartsSpec)) runPartsCard

/-- THE TIED CARD OF 'splicelaw07.RunAlikes'. -/
def runAlikesCard : Claim7 := { stood := { row := runAlikesRow, standIns := [], harness := (true, "c72f633930f7a357c4a2a2024328d705ae8589c9b4b8ffd14eafe99737a9bc53"), looks := false }, kinds := [], alts := [], laidByText := true, laidKinds := [.data], laidTests := true, laidLooks := .later }
def RunAlikesCardSaid : Prop := Claim7.holds Tryd.pinned (.plain (OpenSpec.ofChange runAlikesSpec)) runAlikesCard

/-- THE TIED CARD OF 'splicelaw07.RunKeeps'. -/
def runKeepsCard : Claim7 := { stood := { row := runKeepsRow, standIns := [], harness := (true, "c72f633930f7a357c4a2a2024328d705ae8589c9b4b8ffd14eafe99737a9bc53"), looks := false }, kinds := [], alts := [], laidByText := true, laidKinds := [.data], laidTests := true, laidLooks := .later }
def RunKeepsCardSaid : Prop := Claim7.holds Tryd.pinned (.plain (OpenSpec.ofChange runKeepsSpec)) runKeepsCard

/-- THE TIED CARD OF 'splicelaw07.RunEnds'. -/
def runEndsCard : Claim7 := { stood := { row := runEndsRow, standIns := [], harness := (true, "c72f633930f7a357c4a2a2024328d705ae8589c9b4b8ffd14eafe99737a9bc53"), looks := false }, kinds := [], alts := [], laidByText := true, laidKinds := [.data], laidTests := true, laidLooks := .later }
def RunEndsCardSaid : Prop := Claim7.holds Tryd.pinned (.plain (OpenSpec.ofChange runEndsSpec)) runEndsCard

/-- THE SECOND FORM's CARD OF 'splicelaw07.RunTraces'. -/
def runTracesUptoCard : Claim7 := { stood := { row := runTracesUptoRow, standIns := [], harness := (true, "c72f633930f7a357c4a2a2024328d705ae8589c9b4b8ffd14eafe99737a9bc53"), looks := false }, kinds := [], alts := [], laidByText := true, laidKinds := [.data], laidTests := true, laidLooks := .later }
def RunTracesUptoCardSaid : Prop := Claim7.holds Tryd.pinned (.plain (OpenSpec.upto runTracesSpec)) runTracesUptoCard

/-- THE SECOND FORM's CARD OF 'splicelaw07.RunParts'. -/
def runPartsUptoCard : Claim7 := { stood := { row := runPartsUptoRow, standIns := [], harness := (true, "c72f633930f7a357c4a2a2024328d705ae8589c9b4b8ffd14eafe99737a9bc53"), looks := false }, kinds := [], alts := [], laidByText := true, laidKinds := [.data], laidTests := true, laidLooks := .later }
def RunPartsUptoCardSaid : Prop := Claim7.holds Tryd.pinned (.plain (OpenSpec.upto runPartsSpec)) runPartsUptoCard

/-- THE SECOND FORM's CARD OF 'splicelaw07.RunAlikes'. -/
def runAlikesUptoCard : Claim7 := { stood := { row := runAlikesUptoRow, standIns := [], harness := (true, "c72f633930f7a357c4a2a2024328d705ae8589c9b4b8ffd14eafe99737a9bc53"), looks := false }, kinds := [], alts := [], laidByText := true, laidKinds := [.data], laidTests := true, laidLooks := .later }
def RunAlikesUptoCardSaid : Prop := Claim7.holds Tryd.pinned (.plain (OpenSpec.upto runAlikesSpec)) runAlikesUptoCard

/-- THE SECOND FORM's CARD OF 'splicelaw07.RunKeeps'. -/
def runKeepsUptoCard : Claim7 := { stood := { row := runKeepsUptoRow, standIns := [], harness := (true, "c72f633930f7a357c4a2a2024328d705ae8589c9b4b8ffd14eafe99737a9bc53"), looks := false }, kinds := [], alts := [], laidByText := true, laidKinds := [.data], laidTests := true, laidLooks := .later }
def RunKeepsUptoCardSaid : Prop := Claim7.holds Tryd.pinned (.plain (OpenSpec.upto runKeepsSpec)) runKeepsUptoCard

/-- THE SECOND FORM's CARD OF 'splicelaw07.RunEnds'. -/
def runEndsUptoCard : Claim7 := { stood := { row := runEndsUptoRow, standIns := [], harness := (true, "c72f633930f7a357c4a2a2024328d705ae8589c9b4b8ffd14eafe99737a9bc53"), looks := false }, kinds := [], alts := [], laidByText := true, laidKinds := [.data], laidTests := true, laidLooks := .later }
def RunEndsUptoCardSaid : Prop := Claim7.holds Tryd.pinned (.plain (OpenSpec.upto runEndsSpec)) runEndsUptoCard
end Rows
end Go.Proofs.YtnpejnjigaalfaaDoor
