/-
  NARROWER THAN 'FOR EVERY INPUT', by the rows' own cells (each row's printed sentence says how): CheckFunctions: laid · CheckObjects: laid · CheckInside: laid · CheckKeeps: laid.
  DERIVED. THE GIVEN ROWS OF THIS SEAT. 4 by the template 'for every input the law returns true; each argument reads behind the call as it read before'; 0 by the template 'total and deterministic' (their statements: YtnejpldbokodaaaGreatDoorTotals.lean).
  GIVEN WITH THE SEED: the statements are not yours to turn. If you find one false, say at which input.
  Laid BY PROGRAM, IN A SANDBOX (cutbox-rows.mjs): the forced cells as the released guide's own fill.sh prints them over the translation 51f1921cf409d8d3… (all of the seat's roots in one cut). By AI agents, Wed Nov 11 2026. No macro, syntax, notation, axiom, sorry.
-/
import Derived.Test.YtnejpldbokodaaaGreatDoorChecked
import GoSem.Claim
import GoSem.ClaimJoined
import GoSem.ClaimMapViews
import Derived.JoinedTies
import Derived.KernelRfl
namespace Go.Proofs.YtnejpldbokodaaaGreatDoor
/- THE CELL 'sum', in the pinned program and in every row, IS THE sha256 OF THE DUMP (.gsa) THAT YtnejpldbokodaaaGreatDoorProg.lean LOADS. Nothing in Lean hashes anything: it is a label: what it is worth is what the hold of that sum in a sandbox is worth. -/
noncomputable def Tryz.pinned : Pinned := { name := "ytnejpldbokodaaagreatdoor", sum := "51f1921cf409d8d3c8e0f995a544013e1b14c6c8cc3cf44975ee68ba7e9d2d25", checked := Tryz.checked }
namespace Rows
def none {H : Type} : Left H := { results := [], args := [] }

/- WHAT THE LISTED PACKAGE-LEVEL VARIABLES READ AS WHEN THE CALL BEGINS. Each datum BY PROGRAM (the guide's laid-datum.mjs) off the statement by which the dump's own 'gosem.cut.vars' lays the variable. In a bare row this is a premise. The card (YtnejpldbokodaaaGreatDoorCards.lean) ties it to the program's text. -/
def laid_splice_code_shapes {H : Type} : DataW H := .agg [.agg [.lit (.int .i64 1), .lit (.int .i64 0), .lit (.bool false)], .agg [.lit (.int .i64 3), .lit (.int .i64 0), .lit (.bool false)], .agg [.lit (.int .i64 3), .lit (.int .i64 0), .lit (.bool false)], .agg [.lit (.int .i64 3), .lit (.int .i64 0), .lit (.bool false)], .agg [.lit (.int .i64 3), .lit (.int .i64 0), .lit (.bool false)], .agg [.lit (.int .i64 3), .lit (.int .i64 0), .lit (.bool false)], .agg [.lit (.int .i64 3), .lit (.int .i64 0), .lit (.bool false)], .agg [.lit (.int .i64 3), .lit (.int .i64 0), .lit (.bool false)], .agg [.lit (.int .i64 2), .lit (.int .i64 16), .lit (.bool true)], .agg [.lit (.int .i64 1), .lit (.int .i64 16), .lit (.bool false)], .agg [.lit (.int .i64 2), .lit (.int .i64 16), .lit (.bool false)], .agg [.lit (.int .i64 2), .lit (.int .i64 16), .lit (.bool true)], .agg [.lit (.int .i64 2), .lit (.int .i64 16), .lit (.bool true)], .agg [.lit (.int .i64 2), .lit (.int .i64 16), .lit (.bool true)], .agg [.lit (.int .i64 2), .lit (.int .i64 16), .lit (.bool true)], .agg [.lit (.int .i64 2), .lit (.int .i64 8), .lit (.bool true)], .agg [.lit (.int .i64 2), .lit (.int .i64 8), .lit (.bool true)], .agg [.lit (.int .i64 2), .lit (.int .i64 8), .lit (.bool true)], .agg [.lit (.int .i64 2), .lit (.int .i64 8), .lit (.bool true)], .agg [.lit (.int .i64 0), .lit (.int .i64 24), .lit (.bool true)], .agg [.lit (.int .i64 0), .lit (.int .i64 24), .lit (.bool true)], .agg [.lit (.int .i64 0), .lit (.int .i64 0), .lit (.bool false)], .agg [.lit (.int .i64 1), .lit (.int .i64 0), .lit (.bool false)], .agg [.lit (.int .i64 1), .lit (.int .i64 0), .lit (.bool false)], .agg [.lit (.int .i64 0), .lit (.int .i64 0), .lit (.bool false)], .agg [.lit (.int .i64 0), .lit (.int .i64 0), .lit (.bool false)]]

/-- 'splicelaw10.CheckFunctions': WHATEVER THE INPUT: true; the input reads as it did. -/
def checkFunctionsSpec : ChangeSpec := { name := "checkFunctions", fn := fun _ => fun
  | [d] => { results := [.lit (.bool true)], args := [d] }
  | _ => none }
def checkFunctionsRow : OpenClaim := { program := "ytnejpldbokodaaagreatdoor", sum := "51f1921cf409d8d3c8e0f995a544013e1b14c6c8cc3cf44975ee68ba7e9d2d25", func := "splice/splicelaw10.CheckFunctions", spec := "checkFunctions", unfollowed := true, recurses := true, named := ["splice/code.shapes"], apart := false, laid := [("splice/code.shapes", laid_splice_code_shapes)] }
def CheckFunctionsSaid : Prop := checkFunctionsRow.holds Tryz.pinned (OpenSpec.ofChange checkFunctionsSpec)

/-- ITS FALSE NEIGHBOUR: 'it returns false'. Refute it at one input. -/
def checkFunctionsWrong : ChangeSpec := { name := "checkFunctions", fn := fun _ => fun
  | [d] => { results := [.lit (.bool false)], args := [d] }
  | _ => none }
def CheckFunctionsWrongFalsely : Prop := checkFunctionsRow.holds Tryz.pinned (OpenSpec.ofChange checkFunctionsWrong)

/-- 'splicelaw10.CheckObjects': WHATEVER THE INPUT: true; the input reads as it did. -/
def checkObjectsSpec : ChangeSpec := { name := "checkObjects", fn := fun _ => fun
  | [d] => { results := [.lit (.bool true)], args := [d] }
  | _ => none }
def checkObjectsRow : OpenClaim := { program := "ytnejpldbokodaaagreatdoor", sum := "51f1921cf409d8d3c8e0f995a544013e1b14c6c8cc3cf44975ee68ba7e9d2d25", func := "splice/splicelaw10.CheckObjects", spec := "checkObjects", unfollowed := true, recurses := true, named := ["splice/code.shapes"], apart := false, laid := [("splice/code.shapes", laid_splice_code_shapes)] }
def CheckObjectsSaid : Prop := checkObjectsRow.holds Tryz.pinned (OpenSpec.ofChange checkObjectsSpec)

/-- ITS FALSE NEIGHBOUR: 'it returns false'. Refute it at one input. -/
def checkObjectsWrong : ChangeSpec := { name := "checkObjects", fn := fun _ => fun
  | [d] => { results := [.lit (.bool false)], args := [d] }
  | _ => none }
def CheckObjectsWrongFalsely : Prop := checkObjectsRow.holds Tryz.pinned (OpenSpec.ofChange checkObjectsWrong)

/-- 'splicelaw10.CheckInside': WHATEVER THE INPUT: true; the input reads as it did. -/
def checkInsideSpec : ChangeSpec := { name := "checkInside", fn := fun _ => fun
  | [d] => { results := [.lit (.bool true)], args := [d] }
  | _ => none }
def checkInsideRow : OpenClaim := { program := "ytnejpldbokodaaagreatdoor", sum := "51f1921cf409d8d3c8e0f995a544013e1b14c6c8cc3cf44975ee68ba7e9d2d25", func := "splice/splicelaw10.CheckInside", spec := "checkInside", unfollowed := true, recurses := true, named := ["splice/code.shapes"], apart := false, laid := [("splice/code.shapes", laid_splice_code_shapes)] }
def CheckInsideSaid : Prop := checkInsideRow.holds Tryz.pinned (OpenSpec.ofChange checkInsideSpec)

/-- ITS FALSE NEIGHBOUR: 'it returns false'. Refute it at one input. -/
def checkInsideWrong : ChangeSpec := { name := "checkInside", fn := fun _ => fun
  | [d] => { results := [.lit (.bool false)], args := [d] }
  | _ => none }
def CheckInsideWrongFalsely : Prop := checkInsideRow.holds Tryz.pinned (OpenSpec.ofChange checkInsideWrong)

/-- 'splicelaw10.CheckKeeps': WHATEVER THE INPUT: true; the input reads as it did. -/
def checkKeepsSpec : ChangeSpec := { name := "checkKeeps", fn := fun _ => fun
  | [d] => { results := [.lit (.bool true)], args := [d] }
  | _ => none }
def checkKeepsRow : OpenClaim := { program := "ytnejpldbokodaaagreatdoor", sum := "51f1921cf409d8d3c8e0f995a544013e1b14c6c8cc3cf44975ee68ba7e9d2d25", func := "splice/splicelaw10.CheckKeeps", spec := "checkKeeps", unfollowed := true, recurses := true, named := ["splice/code.shapes"], apart := false, laid := [("splice/code.shapes", laid_splice_code_shapes)] }
def CheckKeepsSaid : Prop := checkKeepsRow.holds Tryz.pinned (OpenSpec.ofChange checkKeepsSpec)

/-- ITS FALSE NEIGHBOUR: 'it returns false'. Refute it at one input. -/
def checkKeepsWrong : ChangeSpec := { name := "checkKeeps", fn := fun _ => fun
  | [d] => { results := [.lit (.bool false)], args := [d] }
  | _ => none }
def CheckKeepsWrongFalsely : Prop := checkKeepsRow.holds Tryz.pinned (OpenSpec.ofChange checkKeepsWrong)

/- THE SECOND FORM. 'bulk': how many values and letters a reading holds, each counted each time it is reached (what is shared counts as often as it is met; a slice's spare places count too). A statement '..UptoSaid' is the law's where the arguments, and the package variables that the reading takes, are together of bulk at most 1048576: NARROWER than '..Said'. Prove '..Said' where nothing that the law and all that it calls make is longer than what came in: it says more and counts as full. Else prove '..UptoSaid'. A law counts once. -/
mutual
def uptoBulk {H : Type} : DataW H → Nat
  | .lit (.string bytes) => bytes.length + 1
  | .lit _ => 1
  | .nil => 1
  | .ptr d => uptoBulk d + 1
  | .slice elems spare => uptoBulkAll elems + uptoBulkAll spare + 1
  | .agg parts => uptoBulkAll parts + 1
  | .iface _ d => uptoBulk d + 1
  | .map entries => uptoBulkEntries entries + 1
  | .held _ => 1
def uptoBulkAll {H : Type} : List (DataW H) → Nat
  | [] => 0
  | d :: r => uptoBulk d + uptoBulkAll r
def uptoBulkEntries {H : Type} : List (Lit × DataW H) → Nat
  | [] => 0
  | x :: r => uptoBulkEntry x + uptoBulkEntries r
def uptoBulkEntry {H : Type} : Lit × DataW H → Nat
  | (.string bytes, d) => bytes.length + uptoBulk d + 1
  | (_, d) => uptoBulk d + 1
 end
def uptoSmall : (H : Type) → List (DataW H) → Bool := fun _ ds => decide (uptoBulkAll ds ≤ 1048576)
def OpenSpec.upto (s : _root_.Go.ChangeSpec) : _root_.Go.OpenSpec := { _root_.Go.OpenSpec.ofChange s with cond := some uptoSmall }

/-- 'splicelaw10.CheckFunctions', WHERE WHAT IT READS IS OF BULK AT MOST 1048576: true; the input reads as it did. -/
def checkFunctionsUptoRow : OpenClaim := { program := "ytnejpldbokodaaagreatdoor", sum := "51f1921cf409d8d3c8e0f995a544013e1b14c6c8cc3cf44975ee68ba7e9d2d25", func := "splice/splicelaw10.CheckFunctions", spec := "checkFunctions", unfollowed := true, recurses := true, named := ["splice/code.shapes"], apart := false, laid := [("splice/code.shapes", laid_splice_code_shapes)], narrowed := true }
def CheckFunctionsUptoSaid : Prop := checkFunctionsUptoRow.holds Tryz.pinned (OpenSpec.upto checkFunctionsSpec)

/-- 'splicelaw10.CheckObjects', WHERE WHAT IT READS IS OF BULK AT MOST 1048576: true; the input reads as it did. -/
def checkObjectsUptoRow : OpenClaim := { program := "ytnejpldbokodaaagreatdoor", sum := "51f1921cf409d8d3c8e0f995a544013e1b14c6c8cc3cf44975ee68ba7e9d2d25", func := "splice/splicelaw10.CheckObjects", spec := "checkObjects", unfollowed := true, recurses := true, named := ["splice/code.shapes"], apart := false, laid := [("splice/code.shapes", laid_splice_code_shapes)], narrowed := true }
def CheckObjectsUptoSaid : Prop := checkObjectsUptoRow.holds Tryz.pinned (OpenSpec.upto checkObjectsSpec)

/-- 'splicelaw10.CheckInside', WHERE WHAT IT READS IS OF BULK AT MOST 1048576: true; the input reads as it did. -/
def checkInsideUptoRow : OpenClaim := { program := "ytnejpldbokodaaagreatdoor", sum := "51f1921cf409d8d3c8e0f995a544013e1b14c6c8cc3cf44975ee68ba7e9d2d25", func := "splice/splicelaw10.CheckInside", spec := "checkInside", unfollowed := true, recurses := true, named := ["splice/code.shapes"], apart := false, laid := [("splice/code.shapes", laid_splice_code_shapes)], narrowed := true }
def CheckInsideUptoSaid : Prop := checkInsideUptoRow.holds Tryz.pinned (OpenSpec.upto checkInsideSpec)

/-- 'splicelaw10.CheckKeeps', WHERE WHAT IT READS IS OF BULK AT MOST 1048576: true; the input reads as it did. -/
def checkKeepsUptoRow : OpenClaim := { program := "ytnejpldbokodaaagreatdoor", sum := "51f1921cf409d8d3c8e0f995a544013e1b14c6c8cc3cf44975ee68ba7e9d2d25", func := "splice/splicelaw10.CheckKeeps", spec := "checkKeeps", unfollowed := true, recurses := true, named := ["splice/code.shapes"], apart := false, laid := [("splice/code.shapes", laid_splice_code_shapes)], narrowed := true }
def CheckKeepsUptoSaid : Prop := checkKeepsUptoRow.holds Tryz.pinned (OpenSpec.upto checkKeepsSpec)

end Rows
end Go.Proofs.YtnejpldbokodaaaGreatDoor
