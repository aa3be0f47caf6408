/-
  DERIVED. GIVEN WITH THE SEED: THE CARDS: each row of YtcibifgbnpcpmaaDoorRows.lean that lists a variable, with what it lists TIED to the program's text (the seventh form; the later family's looks); each row that meets fmt, with fmt's text TOLD by the authors' own Lean function (tested against real Go, not proved from fmt's source: count such statements apart). THE CARD IS WHAT COUNTS. Prove the row's statement (the work); the ties are given (YtcibifgbnpcpmaaDoorTie.lean); close each card by the builder's one call (the guide's Derived/Test/ToyasCard.lean, 'card_holds'). Laid BY PROGRAM, IN A SANDBOX (cutbox-door.mjs). By AI agents, Wed Nov 11 2026. No macro, syntax, notation, axiom, sorry.
-/
import Derived.Test.YtcibifgbnpcpmaaDoorRows
import GoSem.ClaimSeven
namespace Go.Proofs.YtcibifgbnpcpmaaDoor
namespace Rows

/-- THE TIED CARD OF 'splicelaw06.CpuNews'. -/
def cpuNewsCard : Claim7 := { stood := { row := cpuNewsRow, standIns := [], harness := (true, "2ae3b24d0b1c2a4f435f061728b50183ea705ec5160814cbbfb91f673c3328a8"), looks := false }, kinds := [], alts := [], laidByText := true, laidKinds := [.data], laidTests := true, laidLooks := .later }
def CpuNewsCardSaid : Prop := Claim7.holds Tryd.pinned (.plain (OpenSpec.ofChange cpuNewsSpec)) cpuNewsCard

/-- THE TIED CARD OF 'splicelaw06.CpuAlone'. -/
def cpuAloneCard : Claim7 := { stood := { row := cpuAloneRow, standIns := [], harness := (true, "2ae3b24d0b1c2a4f435f061728b50183ea705ec5160814cbbfb91f673c3328a8"), looks := false }, kinds := [], alts := [], laidByText := true, laidKinds := [.data], laidTests := true, laidLooks := .later }
def CpuAloneCardSaid : Prop := Claim7.holds Tryd.pinned (.plain (OpenSpec.ofChange cpuAloneSpec)) cpuAloneCard

/-- THE TIED CARD OF 'splicelaw06.CpuCalls'. -/
def cpuCallsCard : Claim7 := { stood := { row := cpuCallsRow, standIns := [], harness := (true, "2ae3b24d0b1c2a4f435f061728b50183ea705ec5160814cbbfb91f673c3328a8"), looks := false }, kinds := [], alts := [], laidByText := true, laidKinds := [.data], laidTests := true, laidLooks := .later }
def CpuCallsCardSaid : Prop := Claim7.holds Tryd.pinned (.plain (OpenSpec.ofChange cpuCallsSpec)) cpuCallsCard

/-- THE TIED CARD OF 'splicelaw06.CpuKeeps'. -/
def cpuKeepsCard : Claim7 := { stood := { row := cpuKeepsRow, standIns := [], harness := (true, "2ae3b24d0b1c2a4f435f061728b50183ea705ec5160814cbbfb91f673c3328a8"), looks := false }, kinds := [], alts := [], laidByText := true, laidKinds := [.data], laidTests := true, laidLooks := .later }
def CpuKeepsCardSaid : Prop := Claim7.holds Tryd.pinned (.plain (OpenSpec.ofChange cpuKeepsSpec)) cpuKeepsCard

/-- THE SECOND FORM's CARD OF 'splicelaw06.CpuNews'. -/
def cpuNewsUptoCard : Claim7 := { stood := { row := cpuNewsUptoRow, standIns := [], harness := (true, "2ae3b24d0b1c2a4f435f061728b50183ea705ec5160814cbbfb91f673c3328a8"), looks := false }, kinds := [], alts := [], laidByText := true, laidKinds := [.data], laidTests := true, laidLooks := .later }
def CpuNewsUptoCardSaid : Prop := Claim7.holds Tryd.pinned (.plain (OpenSpec.upto cpuNewsSpec)) cpuNewsUptoCard

/-- THE SECOND FORM's CARD OF 'splicelaw06.CpuAlone'. -/
def cpuAloneUptoCard : Claim7 := { stood := { row := cpuAloneUptoRow, standIns := [], harness := (true, "2ae3b24d0b1c2a4f435f061728b50183ea705ec5160814cbbfb91f673c3328a8"), looks := false }, kinds := [], alts := [], laidByText := true, laidKinds := [.data], laidTests := true, laidLooks := .later }
def CpuAloneUptoCardSaid : Prop := Claim7.holds Tryd.pinned (.plain (OpenSpec.upto cpuAloneSpec)) cpuAloneUptoCard

/-- THE SECOND FORM's CARD OF 'splicelaw06.CpuCalls'. -/
def cpuCallsUptoCard : Claim7 := { stood := { row := cpuCallsUptoRow, standIns := [], harness := (true, "2ae3b24d0b1c2a4f435f061728b50183ea705ec5160814cbbfb91f673c3328a8"), looks := false }, kinds := [], alts := [], laidByText := true, laidKinds := [.data], laidTests := true, laidLooks := .later }
def CpuCallsUptoCardSaid : Prop := Claim7.holds Tryd.pinned (.plain (OpenSpec.upto cpuCallsSpec)) cpuCallsUptoCard

/-- THE SECOND FORM's CARD OF 'splicelaw06.CpuKeeps'. -/
def cpuKeepsUptoCard : Claim7 := { stood := { row := cpuKeepsUptoRow, standIns := [], harness := (true, "2ae3b24d0b1c2a4f435f061728b50183ea705ec5160814cbbfb91f673c3328a8"), looks := false }, kinds := [], alts := [], laidByText := true, laidKinds := [.data], laidTests := true, laidLooks := .later }
def CpuKeepsUptoCardSaid : Prop := Claim7.holds Tryd.pinned (.plain (OpenSpec.upto cpuKeepsSpec)) cpuKeepsUptoCard
end Rows
end Go.Proofs.YtcibifgbnpcpmaaDoor
