/-
  DERIVED. GIVEN WITH THE SEED: THE CARDS: each row of YtnejpldbokodaaaDoorRows.lean that lists a variable, with what it lists TIED to the program's text (the seventh form; the later family's looks); each row that meets fmt, with fmt's text TOLD by the authors' own Lean function (tested against real Go, not proved from fmt's source: count such statements apart). THE CARD IS WHAT COUNTS. Prove the row's statement (the work); the ties are given (YtnejpldbokodaaaDoorTie.lean); close each card by the builder's one call (the guide's Derived/Test/ToyasCard.lean, 'card_holds'). Laid BY PROGRAM, IN A SANDBOX (cutbox-door.mjs). By AI agents, Wed Nov 11 2026. No macro, syntax, notation, axiom, sorry.
-/
import Derived.Test.YtnejpldbokodaaaDoorRows
import GoSem.ClaimSeven
namespace Go.Proofs.YtnejpldbokodaaaDoor
namespace Rows

/-- THE TIED CARD OF 'splicelaw10.CheckDatas'. -/
def checkDatasCard : Claim7 := { stood := { row := checkDatasRow, standIns := [], harness := (true, "d969c960fc6da535f0646f67eb8e033e497dc5f327888833f40d7e2fbc80366c"), looks := false }, kinds := [], alts := [], laidByText := true, laidKinds := [.data], laidTests := true, laidLooks := .later }
def CheckDatasCardSaid : Prop := Claim7.holds Tryd.pinned (.plain (OpenSpec.ofChange checkDatasSpec)) checkDatasCard

/-- THE TIED CARD OF 'splicelaw10.CheckGrows'. -/
def checkGrowsCard : Claim7 := { stood := { row := checkGrowsRow, standIns := [], harness := (true, "d969c960fc6da535f0646f67eb8e033e497dc5f327888833f40d7e2fbc80366c"), looks := false }, kinds := [], alts := [], laidByText := true, laidKinds := [.data], laidTests := true, laidLooks := .later }
def CheckGrowsCardSaid : Prop := Claim7.holds Tryd.pinned (.plain (OpenSpec.ofChange checkGrowsSpec)) checkGrowsCard

/-- THE SECOND FORM's CARD OF 'splicelaw10.CheckDatas'. -/
def checkDatasUptoCard : Claim7 := { stood := { row := checkDatasUptoRow, standIns := [], harness := (true, "d969c960fc6da535f0646f67eb8e033e497dc5f327888833f40d7e2fbc80366c"), looks := false }, kinds := [], alts := [], laidByText := true, laidKinds := [.data], laidTests := true, laidLooks := .later }
def CheckDatasUptoCardSaid : Prop := Claim7.holds Tryd.pinned (.plain (OpenSpec.upto checkDatasSpec)) checkDatasUptoCard

/-- THE SECOND FORM's CARD OF 'splicelaw10.CheckGrows'. -/
def checkGrowsUptoCard : Claim7 := { stood := { row := checkGrowsUptoRow, standIns := [], harness := (true, "d969c960fc6da535f0646f67eb8e033e497dc5f327888833f40d7e2fbc80366c"), looks := false }, kinds := [], alts := [], laidByText := true, laidKinds := [.data], laidTests := true, laidLooks := .later }
def CheckGrowsUptoCardSaid : Prop := Claim7.holds Tryd.pinned (.plain (OpenSpec.upto checkGrowsSpec)) checkGrowsUptoCard
end Rows
end Go.Proofs.YtnejpldbokodaaaDoor
