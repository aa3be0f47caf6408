/-
  NARROWER THAN 'FOR EVERY INPUT', by the rows' own cells (each row's printed sentence says how): CpuNews: laid · CpuAlone: laid · CpuCalls: laid · CpuKeeps: laid.
  DERIVED. THE GIVEN ROWS OF THIS SEAT. 4 by the template 'for every input the law returns true; each argument reads behind the call as it read before'; 0 by the template 'total and deterministic' (their statements: YtcibifgbnpcpmaaDoorTotals.lean).
  GIVEN WITH THE SEED: the statements are not yours to turn. If you find one false, say at which input.
  Laid BY PROGRAM, IN A SANDBOX (cutbox-rows.mjs): the forced cells as the released guide's own fill.sh prints them over the translation 0f9b2ff5811834de… (all of the seat's roots in one cut). By AI agents, Wed Nov 11 2026. No macro, syntax, notation, axiom, sorry.
-/
import Derived.Test.YtcibifgbnpcpmaaDoorChecked
import GoSem.Claim
import GoSem.ClaimJoined
import GoSem.ClaimMapViews
import Derived.JoinedTies
import Derived.KernelRfl
namespace Go.Proofs.YtcibifgbnpcpmaaDoor
/- THE CELL 'sum', in the pinned program and in every row, IS THE sha256 OF THE DUMP (.gsa) THAT YtcibifgbnpcpmaaDoorProg.lean LOADS. Nothing in Lean hashes anything: it is a label: what it is worth is what the hold of that sum in a sandbox is worth. -/
noncomputable def Tryd.pinned : Pinned := { name := "ytcibifgbnpcpmaadoor", sum := "0f9b2ff5811834de227999560ba62eb13723c91ea5164fea1dc991cb85e5913f", checked := Tryd.checked }
namespace Rows
def none {H : Type} : Left H := { results := [], args := [] }

/- WHAT THE LISTED PACKAGE-LEVEL VARIABLES READ AS WHEN THE CALL BEGINS. Each datum BY PROGRAM (the guide's laid-datum.mjs) off the statement by which the dump's own 'gosem.cut.vars' lays the variable. In a bare row this is a premise. The card (YtcibifgbnpcpmaaDoorCards.lean) ties it to the program's text. -/
def laid_splice_code_shapes {H : Type} : DataW H := .agg [.agg [.lit (.int .i64 1), .lit (.int .i64 0), .lit (.bool false)], .agg [.lit (.int .i64 3), .lit (.int .i64 0), .lit (.bool false)], .agg [.lit (.int .i64 3), .lit (.int .i64 0), .lit (.bool false)], .agg [.lit (.int .i64 3), .lit (.int .i64 0), .lit (.bool false)], .agg [.lit (.int .i64 3), .lit (.int .i64 0), .lit (.bool false)], .agg [.lit (.int .i64 3), .lit (.int .i64 0), .lit (.bool false)], .agg [.lit (.int .i64 3), .lit (.int .i64 0), .lit (.bool false)], .agg [.lit (.int .i64 3), .lit (.int .i64 0), .lit (.bool false)], .agg [.lit (.int .i64 2), .lit (.int .i64 16), .lit (.bool true)], .agg [.lit (.int .i64 1), .lit (.int .i64 16), .lit (.bool false)], .agg [.lit (.int .i64 2), .lit (.int .i64 16), .lit (.bool false)], .agg [.lit (.int .i64 2), .lit (.int .i64 16), .lit (.bool true)], .agg [.lit (.int .i64 2), .lit (.int .i64 16), .lit (.bool true)], .agg [.lit (.int .i64 2), .lit (.int .i64 16), .lit (.bool true)], .agg [.lit (.int .i64 2), .lit (.int .i64 16), .lit (.bool true)], .agg [.lit (.int .i64 2), .lit (.int .i64 8), .lit (.bool true)], .agg [.lit (.int .i64 2), .lit (.int .i64 8), .lit (.bool true)], .agg [.lit (.int .i64 2), .lit (.int .i64 8), .lit (.bool true)], .agg [.lit (.int .i64 2), .lit (.int .i64 8), .lit (.bool true)], .agg [.lit (.int .i64 0), .lit (.int .i64 24), .lit (.bool true)], .agg [.lit (.int .i64 0), .lit (.int .i64 24), .lit (.bool true)], .agg [.lit (.int .i64 0), .lit (.int .i64 0), .lit (.bool false)], .agg [.lit (.int .i64 1), .lit (.int .i64 0), .lit (.bool false)], .agg [.lit (.int .i64 1), .lit (.int .i64 0), .lit (.bool false)], .agg [.lit (.int .i64 0), .lit (.int .i64 0), .lit (.bool false)], .agg [.lit (.int .i64 0), .lit (.int .i64 0), .lit (.bool false)]]

/-- 'splicelaw06.CpuNews': WHATEVER THE INPUT: true; the input reads as it did. -/
def cpuNewsSpec : ChangeSpec := { name := "cpuNews", fn := fun _ => fun
  | [d1, d2, d3] => { results := [.lit (.bool true)], args := [d1, d2, d3] }
  | _ => none }
def cpuNewsRow : OpenClaim := { program := "ytcibifgbnpcpmaadoor", sum := "0f9b2ff5811834de227999560ba62eb13723c91ea5164fea1dc991cb85e5913f", func := "splice/splicelaw06.CpuNews", spec := "cpuNews", named := ["splice/code.shapes"], apart := false, laid := [("splice/code.shapes", laid_splice_code_shapes)] }
def CpuNewsSaid : Prop := cpuNewsRow.holds Tryd.pinned (OpenSpec.ofChange cpuNewsSpec)

/-- ITS FALSE NEIGHBOUR: 'it returns false'. Refute it at one input. -/
def cpuNewsWrong : ChangeSpec := { name := "cpuNews", fn := fun _ => fun
  | [d1, d2, d3] => { results := [.lit (.bool false)], args := [d1, d2, d3] }
  | _ => none }
def CpuNewsWrongFalsely : Prop := cpuNewsRow.holds Tryd.pinned (OpenSpec.ofChange cpuNewsWrong)

/-- 'splicelaw06.CpuAlone': WHATEVER THE INPUT: true; the input reads as it did. -/
def cpuAloneSpec : ChangeSpec := { name := "cpuAlone", fn := fun _ => fun
  | [d1, d2] => { results := [.lit (.bool true)], args := [d1, d2] }
  | _ => none }
def cpuAloneRow : OpenClaim := { program := "ytcibifgbnpcpmaadoor", sum := "0f9b2ff5811834de227999560ba62eb13723c91ea5164fea1dc991cb85e5913f", func := "splice/splicelaw06.CpuAlone", spec := "cpuAlone", named := ["splice/code.shapes"], apart := false, laid := [("splice/code.shapes", laid_splice_code_shapes)] }
def CpuAloneSaid : Prop := cpuAloneRow.holds Tryd.pinned (OpenSpec.ofChange cpuAloneSpec)

/-- ITS FALSE NEIGHBOUR: 'it returns false'. Refute it at one input. -/
def cpuAloneWrong : ChangeSpec := { name := "cpuAlone", fn := fun _ => fun
  | [d1, d2] => { results := [.lit (.bool false)], args := [d1, d2] }
  | _ => none }
def CpuAloneWrongFalsely : Prop := cpuAloneRow.holds Tryd.pinned (OpenSpec.ofChange cpuAloneWrong)

/-- 'splicelaw06.CpuCalls': WHATEVER THE INPUT: true; the input reads as it did. -/
def cpuCallsSpec : ChangeSpec := { name := "cpuCalls", fn := fun _ => fun
  | [d1, d2, d3] => { results := [.lit (.bool true)], args := [d1, d2, d3] }
  | _ => none }
def cpuCallsRow : OpenClaim := { program := "ytcibifgbnpcpmaadoor", sum := "0f9b2ff5811834de227999560ba62eb13723c91ea5164fea1dc991cb85e5913f", func := "splice/splicelaw06.CpuCalls", spec := "cpuCalls", named := ["splice/code.shapes"], apart := false, laid := [("splice/code.shapes", laid_splice_code_shapes)] }
def CpuCallsSaid : Prop := cpuCallsRow.holds Tryd.pinned (OpenSpec.ofChange cpuCallsSpec)

/-- ITS FALSE NEIGHBOUR: 'it returns false'. Refute it at one input. -/
def cpuCallsWrong : ChangeSpec := { name := "cpuCalls", fn := fun _ => fun
  | [d1, d2, d3] => { results := [.lit (.bool false)], args := [d1, d2, d3] }
  | _ => none }
def CpuCallsWrongFalsely : Prop := cpuCallsRow.holds Tryd.pinned (OpenSpec.ofChange cpuCallsWrong)

/-- 'splicelaw06.CpuKeeps': WHATEVER THE INPUT: true; the input reads as it did. -/
def cpuKeepsSpec : ChangeSpec := { name := "cpuKeeps", fn := fun _ => fun
  | [d1, d2] => { results := [.lit (.bool true)], args := [d1, d2] }
  | _ => none }
def cpuKeepsRow : OpenClaim := { program := "ytcibifgbnpcpmaadoor", sum := "0f9b2ff5811834de227999560ba62eb13723c91ea5164fea1dc991cb85e5913f", func := "splice/splicelaw06.CpuKeeps", spec := "cpuKeeps", named := ["splice/code.shapes"], apart := false, laid := [("splice/code.shapes", laid_splice_code_shapes)] }
def CpuKeepsSaid : Prop := cpuKeepsRow.holds Tryd.pinned (OpenSpec.ofChange cpuKeepsSpec)

/-- ITS FALSE NEIGHBOUR: 'it returns false'. Refute it at one input. -/
def cpuKeepsWrong : ChangeSpec := { name := "cpuKeeps", fn := fun _ => fun
  | [d1, d2] => { results := [.lit (.bool false)], args := [d1, d2] }
  | _ => none }
def CpuKeepsWrongFalsely : Prop := cpuKeepsRow.holds Tryd.pinned (OpenSpec.ofChange cpuKeepsWrong)

/- THE SECOND FORM. 'bulk': how many values and letters a reading holds, each counted each time it is reached (what is shared counts as often as it is met; a slice's spare places count too). A statement '..UptoSaid' is the law's where the arguments, and the package variables that the reading takes, are together of bulk at most 1048576: NARROWER than '..Said'. Prove '..Said' where nothing that the law and all that it calls make is longer than what came in: it says more and counts as full. Else prove '..UptoSaid'. A law counts once. -/
mutual
def uptoBulk {H : Type} : DataW H → Nat
  | .lit (.string bytes) => bytes.length + 1
  | .lit _ => 1
  | .nil => 1
  | .ptr d => uptoBulk d + 1
  | .slice elems spare => uptoBulkAll elems + uptoBulkAll spare + 1
  | .agg parts => uptoBulkAll parts + 1
  | .iface _ d => uptoBulk d + 1
  | .map entries => uptoBulkEntries entries + 1
  | .held _ => 1
def uptoBulkAll {H : Type} : List (DataW H) → Nat
  | [] => 0
  | d :: r => uptoBulk d + uptoBulkAll r
def uptoBulkEntries {H : Type} : List (Lit × DataW H) → Nat
  | [] => 0
  | x :: r => uptoBulkEntry x + uptoBulkEntries r
def uptoBulkEntry {H : Type} : Lit × DataW H → Nat
  | (.string bytes, d) => bytes.length + uptoBulk d + 1
  | (_, d) => uptoBulk d + 1
 end
def uptoSmall : (H : Type) → List (DataW H) → Bool := fun _ ds => decide (uptoBulkAll ds ≤ 1048576)
def OpenSpec.upto (s : _root_.Go.ChangeSpec) : _root_.Go.OpenSpec := { _root_.Go.OpenSpec.ofChange s with cond := some uptoSmall }

/-- 'splicelaw06.CpuNews', WHERE WHAT IT READS IS OF BULK AT MOST 1048576: true; the input reads as it did. -/
def cpuNewsUptoRow : OpenClaim := { program := "ytcibifgbnpcpmaadoor", sum := "0f9b2ff5811834de227999560ba62eb13723c91ea5164fea1dc991cb85e5913f", func := "splice/splicelaw06.CpuNews", spec := "cpuNews", named := ["splice/code.shapes"], apart := false, laid := [("splice/code.shapes", laid_splice_code_shapes)], narrowed := true }
def CpuNewsUptoSaid : Prop := cpuNewsUptoRow.holds Tryd.pinned (OpenSpec.upto cpuNewsSpec)

/-- 'splicelaw06.CpuAlone', WHERE WHAT IT READS IS OF BULK AT MOST 1048576: true; the input reads as it did. -/
def cpuAloneUptoRow : OpenClaim := { program := "ytcibifgbnpcpmaadoor", sum := "0f9b2ff5811834de227999560ba62eb13723c91ea5164fea1dc991cb85e5913f", func := "splice/splicelaw06.CpuAlone", spec := "cpuAlone", named := ["splice/code.shapes"], apart := false, laid := [("splice/code.shapes", laid_splice_code_shapes)], narrowed := true }
def CpuAloneUptoSaid : Prop := cpuAloneUptoRow.holds Tryd.pinned (OpenSpec.upto cpuAloneSpec)

/-- 'splicelaw06.CpuCalls', WHERE WHAT IT READS IS OF BULK AT MOST 1048576: true; the input reads as it did. -/
def cpuCallsUptoRow : OpenClaim := { program := "ytcibifgbnpcpmaadoor", sum := "0f9b2ff5811834de227999560ba62eb13723c91ea5164fea1dc991cb85e5913f", func := "splice/splicelaw06.CpuCalls", spec := "cpuCalls", named := ["splice/code.shapes"], apart := false, laid := [("splice/code.shapes", laid_splice_code_shapes)], narrowed := true }
def CpuCallsUptoSaid : Prop := cpuCallsUptoRow.holds Tryd.pinned (OpenSpec.upto cpuCallsSpec)

/-- 'splicelaw06.CpuKeeps', WHERE WHAT IT READS IS OF BULK AT MOST 1048576: true; the input reads as it did. -/
def cpuKeepsUptoRow : OpenClaim := { program := "ytcibifgbnpcpmaadoor", sum := "0f9b2ff5811834de227999560ba62eb13723c91ea5164fea1dc991cb85e5913f", func := "splice/splicelaw06.CpuKeeps", spec := "cpuKeeps", named := ["splice/code.shapes"], apart := false, laid := [("splice/code.shapes", laid_splice_code_shapes)], narrowed := true }
def CpuKeepsUptoSaid : Prop := cpuKeepsUptoRow.holds Tryd.pinned (OpenSpec.upto cpuKeepsSpec)

end Rows
end Go.Proofs.YtcibifgbnpcpmaaDoor
