/-
  NARROWER THAN 'FOR EVERY INPUT', by the rows' own cells (each row's printed sentence says how): NamesResolve: laid · NamesPlaces: laid · NamesStrong: laid · NamesMore: laid · NamesKeeps: laid · NamesOrder: laid.
  DERIVED. THE GIVEN ROWS OF THIS SEAT. 6 by the template 'for every input the law returns true; each argument reads behind the call as it read before'; 0 by the template 'total and deterministic' (their statements: YteakbpcmafdikaaGreatDoorTotals.lean).
  GIVEN WITH THE SEED: the statements are not yours to turn. If you find one false, say at which input.
  Laid BY PROGRAM, IN A SANDBOX (cutbox-rows.mjs): the forced cells as the released guide's own fill.sh prints them over the translation a9a7ef72d2a08ae9… (all of the seat's roots in one cut). By AI agents, Wed Nov 11 2026. No macro, syntax, notation, axiom, sorry.
-/
import Derived.Test.YteakbpcmafdikaaGreatDoorChecked
import GoSem.Claim
import GoSem.ClaimJoined
import GoSem.ClaimMapViews
import Derived.JoinedTies
import Derived.KernelRfl
namespace Go.Proofs.YteakbpcmafdikaaGreatDoor
/- THE CELL 'sum', in the pinned program and in every row, IS THE sha256 OF THE DUMP (.gsa) THAT YteakbpcmafdikaaGreatDoorProg.lean LOADS. Nothing in Lean hashes anything: it is a label: what it is worth is what the hold of that sum in a sandbox is worth. -/
noncomputable def Tryz.pinned : Pinned := { name := "yteakbpcmafdikaagreatdoor", sum := "a9a7ef72d2a08ae97b76da310a75e49601a52a5a806f3ff7ef68f19480b26787", checked := Tryz.checked }
namespace Rows
def none {H : Type} : Left H := { results := [], args := [] }

/- WHAT THE LISTED PACKAGE-LEVEL VARIABLES READ AS WHEN THE CALL BEGINS. Each datum BY PROGRAM (the guide's laid-datum.mjs) off the statement by which the dump's own 'gosem.cut.vars' lays the variable. In a bare row this is a premise. The card (YteakbpcmafdikaaGreatDoorCards.lean) ties it to the program's text. -/
def laid_splice_code_shapes {H : Type} : DataW H := .agg [.agg [.lit (.int .i64 1), .lit (.int .i64 0), .lit (.bool false)], .agg [.lit (.int .i64 3), .lit (.int .i64 0), .lit (.bool false)], .agg [.lit (.int .i64 3), .lit (.int .i64 0), .lit (.bool false)], .agg [.lit (.int .i64 3), .lit (.int .i64 0), .lit (.bool false)], .agg [.lit (.int .i64 3), .lit (.int .i64 0), .lit (.bool false)], .agg [.lit (.int .i64 3), .lit (.int .i64 0), .lit (.bool false)], .agg [.lit (.int .i64 3), .lit (.int .i64 0), .lit (.bool false)], .agg [.lit (.int .i64 3), .lit (.int .i64 0), .lit (.bool false)], .agg [.lit (.int .i64 2), .lit (.int .i64 16), .lit (.bool true)], .agg [.lit (.int .i64 1), .lit (.int .i64 16), .lit (.bool false)], .agg [.lit (.int .i64 2), .lit (.int .i64 16), .lit (.bool false)], .agg [.lit (.int .i64 2), .lit (.int .i64 16), .lit (.bool true)], .agg [.lit (.int .i64 2), .lit (.int .i64 16), .lit (.bool true)], .agg [.lit (.int .i64 2), .lit (.int .i64 16), .lit (.bool true)], .agg [.lit (.int .i64 2), .lit (.int .i64 16), .lit (.bool true)], .agg [.lit (.int .i64 2), .lit (.int .i64 8), .lit (.bool true)], .agg [.lit (.int .i64 2), .lit (.int .i64 8), .lit (.bool true)], .agg [.lit (.int .i64 2), .lit (.int .i64 8), .lit (.bool true)], .agg [.lit (.int .i64 2), .lit (.int .i64 8), .lit (.bool true)], .agg [.lit (.int .i64 0), .lit (.int .i64 24), .lit (.bool true)], .agg [.lit (.int .i64 0), .lit (.int .i64 24), .lit (.bool true)], .agg [.lit (.int .i64 0), .lit (.int .i64 0), .lit (.bool false)], .agg [.lit (.int .i64 1), .lit (.int .i64 0), .lit (.bool false)], .agg [.lit (.int .i64 1), .lit (.int .i64 0), .lit (.bool false)], .agg [.lit (.int .i64 0), .lit (.int .i64 0), .lit (.bool false)], .agg [.lit (.int .i64 0), .lit (.int .i64 0), .lit (.bool false)]]

/-- 'splicelaw11.NamesResolve': WHATEVER THE INPUT: true; the input reads as it did. -/
def namesResolveSpec : ChangeSpec := { name := "namesResolve", fn := fun _ => fun
  | [d] => { results := [.lit (.bool true)], args := [d] }
  | _ => none }
def namesResolveRow : OpenClaim := { program := "yteakbpcmafdikaagreatdoor", sum := "a9a7ef72d2a08ae97b76da310a75e49601a52a5a806f3ff7ef68f19480b26787", func := "splice/splicelaw11.NamesResolve", spec := "namesResolve", unfollowed := true, recurses := true, named := ["splice/code.shapes"], plainKeys := false, apart := false, laid := [("splice/code.shapes", laid_splice_code_shapes)] }
def NamesResolveSaid : Prop := namesResolveRow.holds Tryz.pinned (OpenSpec.ofChange namesResolveSpec)

/-- ITS FALSE NEIGHBOUR: 'it returns false'. Refute it at one input. -/
def namesResolveWrong : ChangeSpec := { name := "namesResolve", fn := fun _ => fun
  | [d] => { results := [.lit (.bool false)], args := [d] }
  | _ => none }
def NamesResolveWrongFalsely : Prop := namesResolveRow.holds Tryz.pinned (OpenSpec.ofChange namesResolveWrong)

/-- 'splicelaw11.NamesPlaces': WHATEVER THE INPUT: true; the input reads as it did. -/
def namesPlacesSpec : ChangeSpec := { name := "namesPlaces", fn := fun _ => fun
  | [d] => { results := [.lit (.bool true)], args := [d] }
  | _ => none }
def namesPlacesRow : OpenClaim := { program := "yteakbpcmafdikaagreatdoor", sum := "a9a7ef72d2a08ae97b76da310a75e49601a52a5a806f3ff7ef68f19480b26787", func := "splice/splicelaw11.NamesPlaces", spec := "namesPlaces", unfollowed := true, recurses := true, named := ["splice/code.shapes"], plainKeys := false, apart := false, laid := [("splice/code.shapes", laid_splice_code_shapes)] }
def NamesPlacesSaid : Prop := namesPlacesRow.holds Tryz.pinned (OpenSpec.ofChange namesPlacesSpec)

/-- ITS FALSE NEIGHBOUR: 'it returns false'. Refute it at one input. -/
def namesPlacesWrong : ChangeSpec := { name := "namesPlaces", fn := fun _ => fun
  | [d] => { results := [.lit (.bool false)], args := [d] }
  | _ => none }
def NamesPlacesWrongFalsely : Prop := namesPlacesRow.holds Tryz.pinned (OpenSpec.ofChange namesPlacesWrong)

/-- 'splicelaw11.NamesStrong': WHATEVER THE INPUT: true; the input reads as it did. -/
def namesStrongSpec : ChangeSpec := { name := "namesStrong", fn := fun _ => fun
  | [d] => { results := [.lit (.bool true)], args := [d] }
  | _ => none }
def namesStrongRow : OpenClaim := { program := "yteakbpcmafdikaagreatdoor", sum := "a9a7ef72d2a08ae97b76da310a75e49601a52a5a806f3ff7ef68f19480b26787", func := "splice/splicelaw11.NamesStrong", spec := "namesStrong", unfollowed := true, recurses := true, named := ["splice/code.shapes"], plainKeys := false, apart := false, laid := [("splice/code.shapes", laid_splice_code_shapes)] }
def NamesStrongSaid : Prop := namesStrongRow.holds Tryz.pinned (OpenSpec.ofChange namesStrongSpec)

/-- ITS FALSE NEIGHBOUR: 'it returns false'. Refute it at one input. -/
def namesStrongWrong : ChangeSpec := { name := "namesStrong", fn := fun _ => fun
  | [d] => { results := [.lit (.bool false)], args := [d] }
  | _ => none }
def NamesStrongWrongFalsely : Prop := namesStrongRow.holds Tryz.pinned (OpenSpec.ofChange namesStrongWrong)

/-- 'splicelaw11.NamesMore': WHATEVER THE INPUT: true; the input reads as it did. -/
def namesMoreSpec : ChangeSpec := { name := "namesMore", fn := fun _ => fun
  | [d] => { results := [.lit (.bool true)], args := [d] }
  | _ => none }
def namesMoreRow : OpenClaim := { program := "yteakbpcmafdikaagreatdoor", sum := "a9a7ef72d2a08ae97b76da310a75e49601a52a5a806f3ff7ef68f19480b26787", func := "splice/splicelaw11.NamesMore", spec := "namesMore", unfollowed := true, recurses := true, named := ["splice/code.shapes"], plainKeys := false, apart := false, laid := [("splice/code.shapes", laid_splice_code_shapes)] }
def NamesMoreSaid : Prop := namesMoreRow.holds Tryz.pinned (OpenSpec.ofChange namesMoreSpec)

/-- ITS FALSE NEIGHBOUR: 'it returns false'. Refute it at one input. -/
def namesMoreWrong : ChangeSpec := { name := "namesMore", fn := fun _ => fun
  | [d] => { results := [.lit (.bool false)], args := [d] }
  | _ => none }
def NamesMoreWrongFalsely : Prop := namesMoreRow.holds Tryz.pinned (OpenSpec.ofChange namesMoreWrong)

/-- 'splicelaw11.NamesKeeps': WHATEVER THE INPUT: true; the input reads as it did. -/
def namesKeepsSpec : ChangeSpec := { name := "namesKeeps", fn := fun _ => fun
  | [d] => { results := [.lit (.bool true)], args := [d] }
  | _ => none }
def namesKeepsRow : OpenClaim := { program := "yteakbpcmafdikaagreatdoor", sum := "a9a7ef72d2a08ae97b76da310a75e49601a52a5a806f3ff7ef68f19480b26787", func := "splice/splicelaw11.NamesKeeps", spec := "namesKeeps", unfollowed := true, recurses := true, named := ["splice/code.shapes"], plainKeys := false, apart := false, laid := [("splice/code.shapes", laid_splice_code_shapes)] }
def NamesKeepsSaid : Prop := namesKeepsRow.holds Tryz.pinned (OpenSpec.ofChange namesKeepsSpec)

/-- ITS FALSE NEIGHBOUR: 'it returns false'. Refute it at one input. -/
def namesKeepsWrong : ChangeSpec := { name := "namesKeeps", fn := fun _ => fun
  | [d] => { results := [.lit (.bool false)], args := [d] }
  | _ => none }
def NamesKeepsWrongFalsely : Prop := namesKeepsRow.holds Tryz.pinned (OpenSpec.ofChange namesKeepsWrong)

/-- 'splicelaw11.NamesOrder': WHATEVER THE INPUT: true; the input reads as it did. -/
def namesOrderSpec : ChangeSpec := { name := "namesOrder", fn := fun _ => fun
  | [d] => { results := [.lit (.bool true)], args := [d] }
  | _ => none }
def namesOrderRow : OpenClaim := { program := "yteakbpcmafdikaagreatdoor", sum := "a9a7ef72d2a08ae97b76da310a75e49601a52a5a806f3ff7ef68f19480b26787", func := "splice/splicelaw11.NamesOrder", spec := "namesOrder", unfollowed := true, recurses := true, named := ["splice/code.shapes"], plainKeys := false, apart := false, laid := [("splice/code.shapes", laid_splice_code_shapes)] }
def NamesOrderSaid : Prop := namesOrderRow.holds Tryz.pinned (OpenSpec.ofChange namesOrderSpec)

/-- ITS FALSE NEIGHBOUR: 'it returns false'. Refute it at one input. -/
def namesOrderWrong : ChangeSpec := { name := "namesOrder", fn := fun _ => fun
  | [d] => { results := [.lit (.bool false)], args := [d] }
  | _ => none }
def NamesOrderWrongFalsely : Prop := namesOrderRow.holds Tryz.pinned (OpenSpec.ofChange namesOrderWrong)

/- THE SECOND FORM. 'bulk': how many values and letters a reading holds, each counted each time it is reached (what is shared counts as often as it is met; a slice's spare places count too). A statement '..UptoSaid' is the law's where the arguments, and the package variables that the reading takes, are together of bulk at most 1048576: NARROWER than '..Said'. Prove '..Said' where nothing that the law and all that it calls make is longer than what came in: it says more and counts as full. Else prove '..UptoSaid'. A law counts once. -/
mutual
def uptoBulk {H : Type} : DataW H → Nat
  | .lit (.string bytes) => bytes.length + 1
  | .lit _ => 1
  | .nil => 1
  | .ptr d => uptoBulk d + 1
  | .slice elems spare => uptoBulkAll elems + uptoBulkAll spare + 1
  | .agg parts => uptoBulkAll parts + 1
  | .iface _ d => uptoBulk d + 1
  | .map entries => uptoBulkEntries entries + 1
  | .held _ => 1
def uptoBulkAll {H : Type} : List (DataW H) → Nat
  | [] => 0
  | d :: r => uptoBulk d + uptoBulkAll r
def uptoBulkEntries {H : Type} : List (Lit × DataW H) → Nat
  | [] => 0
  | x :: r => uptoBulkEntry x + uptoBulkEntries r
def uptoBulkEntry {H : Type} : Lit × DataW H → Nat
  | (.string bytes, d) => bytes.length + uptoBulk d + 1
  | (_, d) => uptoBulk d + 1
 end
def uptoSmall : (H : Type) → List (DataW H) → Bool := fun _ ds => decide (uptoBulkAll ds ≤ 1048576)
def OpenSpec.upto (s : _root_.Go.ChangeSpec) : _root_.Go.OpenSpec := { _root_.Go.OpenSpec.ofChange s with cond := some uptoSmall }

/-- 'splicelaw11.NamesResolve', WHERE WHAT IT READS IS OF BULK AT MOST 1048576: true; the input reads as it did. -/
def namesResolveUptoRow : OpenClaim := { program := "yteakbpcmafdikaagreatdoor", sum := "a9a7ef72d2a08ae97b76da310a75e49601a52a5a806f3ff7ef68f19480b26787", func := "splice/splicelaw11.NamesResolve", spec := "namesResolve", unfollowed := true, recurses := true, named := ["splice/code.shapes"], plainKeys := false, apart := false, laid := [("splice/code.shapes", laid_splice_code_shapes)], narrowed := true }
def NamesResolveUptoSaid : Prop := namesResolveUptoRow.holds Tryz.pinned (OpenSpec.upto namesResolveSpec)

/-- 'splicelaw11.NamesPlaces', WHERE WHAT IT READS IS OF BULK AT MOST 1048576: true; the input reads as it did. -/
def namesPlacesUptoRow : OpenClaim := { program := "yteakbpcmafdikaagreatdoor", sum := "a9a7ef72d2a08ae97b76da310a75e49601a52a5a806f3ff7ef68f19480b26787", func := "splice/splicelaw11.NamesPlaces", spec := "namesPlaces", unfollowed := true, recurses := true, named := ["splice/code.shapes"], plainKeys := false, apart := false, laid := [("splice/code.shapes", laid_splice_code_shapes)], narrowed := true }
def NamesPlacesUptoSaid : Prop := namesPlacesUptoRow.holds Tryz.pinned (OpenSpec.upto namesPlacesSpec)

/-- 'splicelaw11.NamesStrong', WHERE WHAT IT READS IS OF BULK AT MOST 1048576: true; the input reads as it did. -/
def namesStrongUptoRow : OpenClaim := { program := "yteakbpcmafdikaagreatdoor", sum := "a9a7ef72d2a08ae97b76da310a75e49601a52a5a806f3ff7ef68f19480b26787", func := "splice/splicelaw11.NamesStrong", spec := "namesStrong", unfollowed := true, recurses := true, named := ["splice/code.shapes"], plainKeys := false, apart := false, laid := [("splice/code.shapes", laid_splice_code_shapes)], narrowed := true }
def NamesStrongUptoSaid : Prop := namesStrongUptoRow.holds Tryz.pinned (OpenSpec.upto namesStrongSpec)

/-- 'splicelaw11.NamesMore', WHERE WHAT IT READS IS OF BULK AT MOST 1048576: true; the input reads as it did. -/
def namesMoreUptoRow : OpenClaim := { program := "yteakbpcmafdikaagreatdoor", sum := "a9a7ef72d2a08ae97b76da310a75e49601a52a5a806f3ff7ef68f19480b26787", func := "splice/splicelaw11.NamesMore", spec := "namesMore", unfollowed := true, recurses := true, named := ["splice/code.shapes"], plainKeys := false, apart := false, laid := [("splice/code.shapes", laid_splice_code_shapes)], narrowed := true }
def NamesMoreUptoSaid : Prop := namesMoreUptoRow.holds Tryz.pinned (OpenSpec.upto namesMoreSpec)

/-- 'splicelaw11.NamesKeeps', WHERE WHAT IT READS IS OF BULK AT MOST 1048576: true; the input reads as it did. -/
def namesKeepsUptoRow : OpenClaim := { program := "yteakbpcmafdikaagreatdoor", sum := "a9a7ef72d2a08ae97b76da310a75e49601a52a5a806f3ff7ef68f19480b26787", func := "splice/splicelaw11.NamesKeeps", spec := "namesKeeps", unfollowed := true, recurses := true, named := ["splice/code.shapes"], plainKeys := false, apart := false, laid := [("splice/code.shapes", laid_splice_code_shapes)], narrowed := true }
def NamesKeepsUptoSaid : Prop := namesKeepsUptoRow.holds Tryz.pinned (OpenSpec.upto namesKeepsSpec)

/-- 'splicelaw11.NamesOrder', WHERE WHAT IT READS IS OF BULK AT MOST 1048576: true; the input reads as it did. -/
def namesOrderUptoRow : OpenClaim := { program := "yteakbpcmafdikaagreatdoor", sum := "a9a7ef72d2a08ae97b76da310a75e49601a52a5a806f3ff7ef68f19480b26787", func := "splice/splicelaw11.NamesOrder", spec := "namesOrder", unfollowed := true, recurses := true, named := ["splice/code.shapes"], plainKeys := false, apart := false, laid := [("splice/code.shapes", laid_splice_code_shapes)], narrowed := true }
def NamesOrderUptoSaid : Prop := namesOrderUptoRow.holds Tryz.pinned (OpenSpec.upto namesOrderSpec)

end Rows
end Go.Proofs.YteakbpcmafdikaaGreatDoor
