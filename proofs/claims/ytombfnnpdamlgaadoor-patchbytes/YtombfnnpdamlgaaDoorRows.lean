/-
  NARROWER THAN 'FOR EVERY INPUT', by the rows' own cells (each row's printed sentence says how): PatchCodes: laid · PatchDatas: laid · PatchEquation: laid · PatchBytes: laid · PatchKeeps: laid.
  DERIVED. THE GIVEN ROWS OF THIS SEAT. 5 by the template 'for every input the law returns true; each argument reads behind the call as it read before'; 0 by the template 'total and deterministic' (their statements: YtombfnnpdamlgaaDoorTotals.lean).
  GIVEN WITH THE SEED: the statements are not yours to turn. If you find one false, say at which input.
  Laid BY PROGRAM, IN A SANDBOX (cutbox-rows.mjs): the forced cells as the released guide's own fill.sh prints them over the translation 660cac39cc9f5509… (all of the seat's roots in one cut). By AI agents, Wed Nov 11 2026. No macro, syntax, notation, axiom, sorry.
-/
import Derived.Test.YtombfnnpdamlgaaDoorChecked
import GoSem.Claim
import GoSem.ClaimJoined
import GoSem.ClaimMapViews
import Derived.JoinedTies
import Derived.KernelRfl
namespace Go.Proofs.YtombfnnpdamlgaaDoor
/- THE CELL 'sum', in the pinned program and in every row, IS THE sha256 OF THE DUMP (.gsa) THAT YtombfnnpdamlgaaDoorProg.lean LOADS. Nothing in Lean hashes anything: it is a label: what it is worth is what the hold of that sum in a sandbox is worth. -/
noncomputable def Tryd.pinned : Pinned := { name := "ytombfnnpdamlgaadoor", sum := "660cac39cc9f550905bfca46d8fa1d0072ef9a3975c2dd68041d4353183b6b32", checked := Tryd.checked }
namespace Rows
def none {H : Type} : Left H := { results := [], args := [] }

/- WHAT THE LISTED PACKAGE-LEVEL VARIABLES READ AS WHEN THE CALL BEGINS. Each datum BY PROGRAM (the guide's laid-datum.mjs) off the statement by which the dump's own 'gosem.cut.vars' lays the variable. In a bare row this is a premise. The card (YtombfnnpdamlgaaDoorCards.lean) ties it to the program's text. -/
def laid_splice_code_shapes {H : Type} : DataW H := .agg [.agg [.lit (.int .i64 1), .lit (.int .i64 0), .lit (.bool false)], .agg [.lit (.int .i64 3), .lit (.int .i64 0), .lit (.bool false)], .agg [.lit (.int .i64 3), .lit (.int .i64 0), .lit (.bool false)], .agg [.lit (.int .i64 3), .lit (.int .i64 0), .lit (.bool false)], .agg [.lit (.int .i64 3), .lit (.int .i64 0), .lit (.bool false)], .agg [.lit (.int .i64 3), .lit (.int .i64 0), .lit (.bool false)], .agg [.lit (.int .i64 3), .lit (.int .i64 0), .lit (.bool false)], .agg [.lit (.int .i64 3), .lit (.int .i64 0), .lit (.bool false)], .agg [.lit (.int .i64 2), .lit (.int .i64 16), .lit (.bool true)], .agg [.lit (.int .i64 1), .lit (.int .i64 16), .lit (.bool false)], .agg [.lit (.int .i64 2), .lit (.int .i64 16), .lit (.bool false)], .agg [.lit (.int .i64 2), .lit (.int .i64 16), .lit (.bool true)], .agg [.lit (.int .i64 2), .lit (.int .i64 16), .lit (.bool true)], .agg [.lit (.int .i64 2), .lit (.int .i64 16), .lit (.bool true)], .agg [.lit (.int .i64 2), .lit (.int .i64 16), .lit (.bool true)], .agg [.lit (.int .i64 2), .lit (.int .i64 8), .lit (.bool true)], .agg [.lit (.int .i64 2), .lit (.int .i64 8), .lit (.bool true)], .agg [.lit (.int .i64 2), .lit (.int .i64 8), .lit (.bool true)], .agg [.lit (.int .i64 2), .lit (.int .i64 8), .lit (.bool true)], .agg [.lit (.int .i64 0), .lit (.int .i64 24), .lit (.bool true)], .agg [.lit (.int .i64 0), .lit (.int .i64 24), .lit (.bool true)], .agg [.lit (.int .i64 0), .lit (.int .i64 0), .lit (.bool false)], .agg [.lit (.int .i64 1), .lit (.int .i64 0), .lit (.bool false)], .agg [.lit (.int .i64 1), .lit (.int .i64 0), .lit (.bool false)], .agg [.lit (.int .i64 0), .lit (.int .i64 0), .lit (.bool false)], .agg [.lit (.int .i64 0), .lit (.int .i64 0), .lit (.bool false)]]

/-- 'splicelaw13.PatchCodes': WHATEVER THE INPUT: true; the input reads as it did. -/
def patchCodesSpec : ChangeSpec := { name := "patchCodes", fn := fun _ => fun
  | [d1, d2] => { results := [.lit (.bool true)], args := [d1, d2] }
  | _ => none }
def patchCodesRow : OpenClaim := { program := "ytombfnnpdamlgaadoor", sum := "660cac39cc9f550905bfca46d8fa1d0072ef9a3975c2dd68041d4353183b6b32", func := "splice/splicelaw13.PatchCodes", spec := "patchCodes", unfollowed := true, recurses := true, named := ["splice/code.shapes"], apart := false, laid := [("splice/code.shapes", laid_splice_code_shapes)] }
def PatchCodesSaid : Prop := patchCodesRow.holds Tryd.pinned (OpenSpec.ofChange patchCodesSpec)

/-- ITS FALSE NEIGHBOUR: 'it returns false'. Refute it at one input. -/
def patchCodesWrong : ChangeSpec := { name := "patchCodes", fn := fun _ => fun
  | [d1, d2] => { results := [.lit (.bool false)], args := [d1, d2] }
  | _ => none }
def PatchCodesWrongFalsely : Prop := patchCodesRow.holds Tryd.pinned (OpenSpec.ofChange patchCodesWrong)

/-- 'splicelaw13.PatchDatas': WHATEVER THE INPUT: true; the input reads as it did. -/
def patchDatasSpec : ChangeSpec := { name := "patchDatas", fn := fun _ => fun
  | [d1, d2] => { results := [.lit (.bool true)], args := [d1, d2] }
  | _ => none }
def patchDatasRow : OpenClaim := { program := "ytombfnnpdamlgaadoor", sum := "660cac39cc9f550905bfca46d8fa1d0072ef9a3975c2dd68041d4353183b6b32", func := "splice/splicelaw13.PatchDatas", spec := "patchDatas", unfollowed := true, recurses := true, named := ["splice/code.shapes"], apart := false, laid := [("splice/code.shapes", laid_splice_code_shapes)] }
def PatchDatasSaid : Prop := patchDatasRow.holds Tryd.pinned (OpenSpec.ofChange patchDatasSpec)

/-- ITS FALSE NEIGHBOUR: 'it returns false'. Refute it at one input. -/
def patchDatasWrong : ChangeSpec := { name := "patchDatas", fn := fun _ => fun
  | [d1, d2] => { results := [.lit (.bool false)], args := [d1, d2] }
  | _ => none }
def PatchDatasWrongFalsely : Prop := patchDatasRow.holds Tryd.pinned (OpenSpec.ofChange patchDatasWrong)

/-- 'splicelaw13.PatchEquation': WHATEVER THE INPUT: true; the input reads as it did. -/
def patchEquationSpec : ChangeSpec := { name := "patchEquation", fn := fun _ => fun
  | [d1, d2] => { results := [.lit (.bool true)], args := [d1, d2] }
  | _ => none }
def patchEquationRow : OpenClaim := { program := "ytombfnnpdamlgaadoor", sum := "660cac39cc9f550905bfca46d8fa1d0072ef9a3975c2dd68041d4353183b6b32", func := "splice/splicelaw13.PatchEquation", spec := "patchEquation", unfollowed := true, recurses := true, named := ["splice/code.shapes"], apart := false, laid := [("splice/code.shapes", laid_splice_code_shapes)] }
def PatchEquationSaid : Prop := patchEquationRow.holds Tryd.pinned (OpenSpec.ofChange patchEquationSpec)

/-- ITS FALSE NEIGHBOUR: 'it returns false'. Refute it at one input. -/
def patchEquationWrong : ChangeSpec := { name := "patchEquation", fn := fun _ => fun
  | [d1, d2] => { results := [.lit (.bool false)], args := [d1, d2] }
  | _ => none }
def PatchEquationWrongFalsely : Prop := patchEquationRow.holds Tryd.pinned (OpenSpec.ofChange patchEquationWrong)

/-- 'splicelaw13.PatchBytes': WHATEVER THE INPUT: true; the input reads as it did. -/
def patchBytesSpec : ChangeSpec := { name := "patchBytes", fn := fun _ => fun
  | [d] => { results := [.lit (.bool true)], args := [d] }
  | _ => none }
def patchBytesRow : OpenClaim := { program := "ytombfnnpdamlgaadoor", sum := "660cac39cc9f550905bfca46d8fa1d0072ef9a3975c2dd68041d4353183b6b32", func := "splice/splicelaw13.PatchBytes", spec := "patchBytes", unfollowed := true, recurses := true, named := ["splice/code.shapes"], apart := false, laid := [("splice/code.shapes", laid_splice_code_shapes)] }
def PatchBytesSaid : Prop := patchBytesRow.holds Tryd.pinned (OpenSpec.ofChange patchBytesSpec)

/-- ITS FALSE NEIGHBOUR: 'it returns false'. Refute it at one input. -/
def patchBytesWrong : ChangeSpec := { name := "patchBytes", fn := fun _ => fun
  | [d] => { results := [.lit (.bool false)], args := [d] }
  | _ => none }
def PatchBytesWrongFalsely : Prop := patchBytesRow.holds Tryd.pinned (OpenSpec.ofChange patchBytesWrong)

/-- 'splicelaw13.PatchKeeps': WHATEVER THE INPUT: true; the input reads as it did. -/
def patchKeepsSpec : ChangeSpec := { name := "patchKeeps", fn := fun _ => fun
  | [d] => { results := [.lit (.bool true)], args := [d] }
  | _ => none }
def patchKeepsRow : OpenClaim := { program := "ytombfnnpdamlgaadoor", sum := "660cac39cc9f550905bfca46d8fa1d0072ef9a3975c2dd68041d4353183b6b32", func := "splice/splicelaw13.PatchKeeps", spec := "patchKeeps", unfollowed := true, recurses := true, named := ["splice/code.shapes"], apart := false, laid := [("splice/code.shapes", laid_splice_code_shapes)] }
def PatchKeepsSaid : Prop := patchKeepsRow.holds Tryd.pinned (OpenSpec.ofChange patchKeepsSpec)

/-- ITS FALSE NEIGHBOUR: 'it returns false'. Refute it at one input. -/
def patchKeepsWrong : ChangeSpec := { name := "patchKeeps", fn := fun _ => fun
  | [d] => { results := [.lit (.bool false)], args := [d] }
  | _ => none }
def PatchKeepsWrongFalsely : Prop := patchKeepsRow.holds Tryd.pinned (OpenSpec.ofChange patchKeepsWrong)

/- THE SECOND FORM. 'bulk': how many values and letters a reading holds, each counted each time it is reached (what is shared counts as often as it is met; a slice's spare places count too). A statement '..UptoSaid' is the law's where the arguments, and the package variables that the reading takes, are together of bulk at most 1048576: NARROWER than '..Said'. Prove '..Said' where nothing that the law and all that it calls make is longer than what came in: it says more and counts as full. Else prove '..UptoSaid'. A law counts once. -/
mutual
def uptoBulk {H : Type} : DataW H → Nat
  | .lit (.string bytes) => bytes.length + 1
  | .lit _ => 1
  | .nil => 1
  | .ptr d => uptoBulk d + 1
  | .slice elems spare => uptoBulkAll elems + uptoBulkAll spare + 1
  | .agg parts => uptoBulkAll parts + 1
  | .iface _ d => uptoBulk d + 1
  | .map entries => uptoBulkEntries entries + 1
  | .held _ => 1
def uptoBulkAll {H : Type} : List (DataW H) → Nat
  | [] => 0
  | d :: r => uptoBulk d + uptoBulkAll r
def uptoBulkEntries {H : Type} : List (Lit × DataW H) → Nat
  | [] => 0
  | x :: r => uptoBulkEntry x + uptoBulkEntries r
def uptoBulkEntry {H : Type} : Lit × DataW H → Nat
  | (.string bytes, d) => bytes.length + uptoBulk d + 1
  | (_, d) => uptoBulk d + 1
 end
def uptoSmall : (H : Type) → List (DataW H) → Bool := fun _ ds => decide (uptoBulkAll ds ≤ 1048576)
def OpenSpec.upto (s : _root_.Go.ChangeSpec) : _root_.Go.OpenSpec := { _root_.Go.OpenSpec.ofChange s with cond := some uptoSmall }

/-- 'splicelaw13.PatchCodes', WHERE WHAT IT READS IS OF BULK AT MOST 1048576: true; the input reads as it did. -/
def patchCodesUptoRow : OpenClaim := { program := "ytombfnnpdamlgaadoor", sum := "660cac39cc9f550905bfca46d8fa1d0072ef9a3975c2dd68041d4353183b6b32", func := "splice/splicelaw13.PatchCodes", spec := "patchCodes", unfollowed := true, recurses := true, named := ["splice/code.shapes"], apart := false, laid := [("splice/code.shapes", laid_splice_code_shapes)], narrowed := true }
def PatchCodesUptoSaid : Prop := patchCodesUptoRow.holds Tryd.pinned (OpenSpec.upto patchCodesSpec)

/-- 'splicelaw13.PatchDatas', WHERE WHAT IT READS IS OF BULK AT MOST 1048576: true; the input reads as it did. -/
def patchDatasUptoRow : OpenClaim := { program := "ytombfnnpdamlgaadoor", sum := "660cac39cc9f550905bfca46d8fa1d0072ef9a3975c2dd68041d4353183b6b32", func := "splice/splicelaw13.PatchDatas", spec := "patchDatas", unfollowed := true, recurses := true, named := ["splice/code.shapes"], apart := false, laid := [("splice/code.shapes", laid_splice_code_shapes)], narrowed := true }
def PatchDatasUptoSaid : Prop := patchDatasUptoRow.holds Tryd.pinned (OpenSpec.upto patchDatasSpec)

/-- 'splicelaw13.PatchEquation', WHERE WHAT IT READS IS OF BULK AT MOST 1048576: true; the input reads as it did. -/
def patchEquationUptoRow : OpenClaim := { program := "ytombfnnpdamlgaadoor", sum := "660cac39cc9f550905bfca46d8fa1d0072ef9a3975c2dd68041d4353183b6b32", func := "splice/splicelaw13.PatchEquation", spec := "patchEquation", unfollowed := true, recurses := true, named := ["splice/code.shapes"], apart := false, laid := [("splice/code.shapes", laid_splice_code_shapes)], narrowed := true }
def PatchEquationUptoSaid : Prop := patchEquationUptoRow.holds Tryd.pinned (OpenSpec.upto patchEquationSpec)

/-- 'splicelaw13.PatchBytes', WHERE WHAT IT READS IS OF BULK AT MOST 1048576: true; the input reads as it did. -/
def patchBytesUptoRow : OpenClaim := { program := "ytombfnnpdamlgaadoor", sum := "660cac39cc9f550905bfca46d8fa1d0072ef9a3975c2dd68041d4353183b6b32", func := "splice/splicelaw13.PatchBytes", spec := "patchBytes", unfollowed := true, recurses := true, named := ["splice/code.shapes"], apart := false, laid := [("splice/code.shapes", laid_splice_code_shapes)], narrowed := true }
def PatchBytesUptoSaid : Prop := patchBytesUptoRow.holds Tryd.pinned (OpenSpec.upto patchBytesSpec)

/-- 'splicelaw13.PatchKeeps', WHERE WHAT IT READS IS OF BULK AT MOST 1048576: true; the input reads as it did. -/
def patchKeepsUptoRow : OpenClaim := { program := "ytombfnnpdamlgaadoor", sum := "660cac39cc9f550905bfca46d8fa1d0072ef9a3975c2dd68041d4353183b6b32", func := "splice/splicelaw13.PatchKeeps", spec := "patchKeeps", unfollowed := true, recurses := true, named := ["splice/code.shapes"], apart := false, laid := [("splice/code.shapes", laid_splice_code_shapes)], narrowed := true }
def PatchKeepsUptoSaid : Prop := patchKeepsUptoRow.holds Tryd.pinned (OpenSpec.upto patchKeepsSpec)

end Rows
end Go.Proofs.YtombfnnpdamlgaaDoor
