/-
  NARROWER THAN 'FOR EVERY INPUT', by the rows' own cells (each row's printed sentence says how): CodePuts: laid · CodeGets: laid · CodeAlls: laid · CodeBack: laid · CodeKeeps: laid · CodeApart: laid.
  DERIVED. THE GIVEN ROWS OF THIS SEAT. 6 by the template 'for every input the law returns true; each argument reads behind the call as it read before'; 0 by the template 'total and deterministic' (their statements: YtidfdhghgjdihaaDoorTotals.lean).
  GIVEN WITH THE SEED: the statements are not yours to turn. If you find one false, say at which input.
  Laid BY PROGRAM, IN A SANDBOX (cutbox-rows.mjs): the forced cells as the released guide's own fill.sh prints them over the translation a285ab9efbea03c8… (all of the seat's roots in one cut). By AI agents, Wed Nov 11 2026. No macro, syntax, notation, axiom, sorry.
-/
import Derived.Test.YtidfdhghgjdihaaDoorChecked
import GoSem.Claim
import GoSem.ClaimJoined
import GoSem.ClaimMapViews
import Derived.JoinedTies
import Derived.KernelRfl
namespace Go.Proofs.YtidfdhghgjdihaaDoor
/- THE CELL 'sum', in the pinned program and in every row, IS THE sha256 OF THE DUMP (.gsa) THAT YtidfdhghgjdihaaDoorProg.lean LOADS. Nothing in Lean hashes anything: it is a label: what it is worth is what the hold of that sum in a sandbox is worth. -/
noncomputable def Tryd.pinned : Pinned := { name := "ytidfdhghgjdihaadoor", sum := "a285ab9efbea03c8c90b85e9324e3cdb78314c6a94318bc401a522227d7ca7cb", checked := Tryd.checked }
namespace Rows
def none {H : Type} : Left H := { results := [], args := [] }

/- WHAT THE LISTED PACKAGE-LEVEL VARIABLES READ AS WHEN THE CALL BEGINS. Each datum BY PROGRAM (the guide's laid-datum.mjs) off the statement by which the dump's own 'gosem.cut.vars' lays the variable. In a bare row this is a premise. The card (YtidfdhghgjdihaaDoorCards.lean) ties it to the program's text. -/
def laid_splice_code_shapes {H : Type} : DataW H := .agg [.agg [.lit (.int .i64 1), .lit (.int .i64 0), .lit (.bool false)], .agg [.lit (.int .i64 3), .lit (.int .i64 0), .lit (.bool false)], .agg [.lit (.int .i64 3), .lit (.int .i64 0), .lit (.bool false)], .agg [.lit (.int .i64 3), .lit (.int .i64 0), .lit (.bool false)], .agg [.lit (.int .i64 3), .lit (.int .i64 0), .lit (.bool false)], .agg [.lit (.int .i64 3), .lit (.int .i64 0), .lit (.bool false)], .agg [.lit (.int .i64 3), .lit (.int .i64 0), .lit (.bool false)], .agg [.lit (.int .i64 3), .lit (.int .i64 0), .lit (.bool false)], .agg [.lit (.int .i64 2), .lit (.int .i64 16), .lit (.bool true)], .agg [.lit (.int .i64 1), .lit (.int .i64 16), .lit (.bool false)], .agg [.lit (.int .i64 2), .lit (.int .i64 16), .lit (.bool false)], .agg [.lit (.int .i64 2), .lit (.int .i64 16), .lit (.bool true)], .agg [.lit (.int .i64 2), .lit (.int .i64 16), .lit (.bool true)], .agg [.lit (.int .i64 2), .lit (.int .i64 16), .lit (.bool true)], .agg [.lit (.int .i64 2), .lit (.int .i64 16), .lit (.bool true)], .agg [.lit (.int .i64 2), .lit (.int .i64 8), .lit (.bool true)], .agg [.lit (.int .i64 2), .lit (.int .i64 8), .lit (.bool true)], .agg [.lit (.int .i64 2), .lit (.int .i64 8), .lit (.bool true)], .agg [.lit (.int .i64 2), .lit (.int .i64 8), .lit (.bool true)], .agg [.lit (.int .i64 0), .lit (.int .i64 24), .lit (.bool true)], .agg [.lit (.int .i64 0), .lit (.int .i64 24), .lit (.bool true)], .agg [.lit (.int .i64 0), .lit (.int .i64 0), .lit (.bool false)], .agg [.lit (.int .i64 1), .lit (.int .i64 0), .lit (.bool false)], .agg [.lit (.int .i64 1), .lit (.int .i64 0), .lit (.bool false)], .agg [.lit (.int .i64 0), .lit (.int .i64 0), .lit (.bool false)], .agg [.lit (.int .i64 0), .lit (.int .i64 0), .lit (.bool false)]]

/-- 'splicelaw02.CodePuts': WHATEVER THE INPUT: true; the input reads as it did. -/
def codePutsSpec : ChangeSpec := { name := "codePuts", fn := fun _ => fun
  | [d] => { results := [.lit (.bool true)], args := [d] }
  | _ => none }
def codePutsRow : OpenClaim := { program := "ytidfdhghgjdihaadoor", sum := "a285ab9efbea03c8c90b85e9324e3cdb78314c6a94318bc401a522227d7ca7cb", func := "splice/splicelaw02.CodePuts", spec := "codePuts", named := ["splice/code.shapes"], apart := false, laid := [("splice/code.shapes", laid_splice_code_shapes)] }
def CodePutsSaid : Prop := codePutsRow.holds Tryd.pinned (OpenSpec.ofChange codePutsSpec)

/-- ITS FALSE NEIGHBOUR: 'it returns false'. Refute it at one input. -/
def codePutsWrong : ChangeSpec := { name := "codePuts", fn := fun _ => fun
  | [d] => { results := [.lit (.bool false)], args := [d] }
  | _ => none }
def CodePutsWrongFalsely : Prop := codePutsRow.holds Tryd.pinned (OpenSpec.ofChange codePutsWrong)

/-- 'splicelaw02.CodeGets': WHATEVER THE INPUT: true; the input reads as it did. -/
def codeGetsSpec : ChangeSpec := { name := "codeGets", fn := fun _ => fun
  | [d] => { results := [.lit (.bool true)], args := [d] }
  | _ => none }
def codeGetsRow : OpenClaim := { program := "ytidfdhghgjdihaadoor", sum := "a285ab9efbea03c8c90b85e9324e3cdb78314c6a94318bc401a522227d7ca7cb", func := "splice/splicelaw02.CodeGets", spec := "codeGets", named := ["splice/code.shapes"], apart := false, laid := [("splice/code.shapes", laid_splice_code_shapes)] }
def CodeGetsSaid : Prop := codeGetsRow.holds Tryd.pinned (OpenSpec.ofChange codeGetsSpec)

/-- ITS FALSE NEIGHBOUR: 'it returns false'. Refute it at one input. -/
def codeGetsWrong : ChangeSpec := { name := "codeGets", fn := fun _ => fun
  | [d] => { results := [.lit (.bool false)], args := [d] }
  | _ => none }
def CodeGetsWrongFalsely : Prop := codeGetsRow.holds Tryd.pinned (OpenSpec.ofChange codeGetsWrong)

/-- 'splicelaw02.CodeAlls': WHATEVER THE INPUT: true; the input reads as it did. -/
def codeAllsSpec : ChangeSpec := { name := "codeAlls", fn := fun _ => fun
  | [d] => { results := [.lit (.bool true)], args := [d] }
  | _ => none }
def codeAllsRow : OpenClaim := { program := "ytidfdhghgjdihaadoor", sum := "a285ab9efbea03c8c90b85e9324e3cdb78314c6a94318bc401a522227d7ca7cb", func := "splice/splicelaw02.CodeAlls", spec := "codeAlls", named := ["splice/code.shapes"], apart := false, laid := [("splice/code.shapes", laid_splice_code_shapes)] }
def CodeAllsSaid : Prop := codeAllsRow.holds Tryd.pinned (OpenSpec.ofChange codeAllsSpec)

/-- ITS FALSE NEIGHBOUR: 'it returns false'. Refute it at one input. -/
def codeAllsWrong : ChangeSpec := { name := "codeAlls", fn := fun _ => fun
  | [d] => { results := [.lit (.bool false)], args := [d] }
  | _ => none }
def CodeAllsWrongFalsely : Prop := codeAllsRow.holds Tryd.pinned (OpenSpec.ofChange codeAllsWrong)

/-- 'splicelaw02.CodeBack': WHATEVER THE INPUT: true; the input reads as it did. -/
def codeBackSpec : ChangeSpec := { name := "codeBack", fn := fun _ => fun
  | [d1, d2] => { results := [.lit (.bool true)], args := [d1, d2] }
  | _ => none }
def codeBackRow : OpenClaim := { program := "ytidfdhghgjdihaadoor", sum := "a285ab9efbea03c8c90b85e9324e3cdb78314c6a94318bc401a522227d7ca7cb", func := "splice/splicelaw02.CodeBack", spec := "codeBack", named := ["splice/code.shapes"], apart := false, laid := [("splice/code.shapes", laid_splice_code_shapes)] }
def CodeBackSaid : Prop := codeBackRow.holds Tryd.pinned (OpenSpec.ofChange codeBackSpec)

/-- ITS FALSE NEIGHBOUR: 'it returns false'. Refute it at one input. -/
def codeBackWrong : ChangeSpec := { name := "codeBack", fn := fun _ => fun
  | [d1, d2] => { results := [.lit (.bool false)], args := [d1, d2] }
  | _ => none }
def CodeBackWrongFalsely : Prop := codeBackRow.holds Tryd.pinned (OpenSpec.ofChange codeBackWrong)

/-- 'splicelaw02.CodeKeeps': WHATEVER THE INPUT: true; the input reads as it did. -/
def codeKeepsSpec : ChangeSpec := { name := "codeKeeps", fn := fun _ => fun
  | [d] => { results := [.lit (.bool true)], args := [d] }
  | _ => none }
def codeKeepsRow : OpenClaim := { program := "ytidfdhghgjdihaadoor", sum := "a285ab9efbea03c8c90b85e9324e3cdb78314c6a94318bc401a522227d7ca7cb", func := "splice/splicelaw02.CodeKeeps", spec := "codeKeeps", named := ["splice/code.shapes"], apart := false, laid := [("splice/code.shapes", laid_splice_code_shapes)] }
def CodeKeepsSaid : Prop := codeKeepsRow.holds Tryd.pinned (OpenSpec.ofChange codeKeepsSpec)

/-- ITS FALSE NEIGHBOUR: 'it returns false'. Refute it at one input. -/
def codeKeepsWrong : ChangeSpec := { name := "codeKeeps", fn := fun _ => fun
  | [d] => { results := [.lit (.bool false)], args := [d] }
  | _ => none }
def CodeKeepsWrongFalsely : Prop := codeKeepsRow.holds Tryd.pinned (OpenSpec.ofChange codeKeepsWrong)

/-- 'splicelaw02.CodeApart': WHATEVER THE INPUT: true; the input reads as it did. -/
def codeApartSpec : ChangeSpec := { name := "codeApart", fn := fun _ => fun
  | [d1, d2] => { results := [.lit (.bool true)], args := [d1, d2] }
  | _ => none }
def codeApartRow : OpenClaim := { program := "ytidfdhghgjdihaadoor", sum := "a285ab9efbea03c8c90b85e9324e3cdb78314c6a94318bc401a522227d7ca7cb", func := "splice/splicelaw02.CodeApart", spec := "codeApart", named := ["splice/code.shapes"], apart := false, laid := [("splice/code.shapes", laid_splice_code_shapes)] }
def CodeApartSaid : Prop := codeApartRow.holds Tryd.pinned (OpenSpec.ofChange codeApartSpec)

/-- ITS FALSE NEIGHBOUR: 'it returns false'. Refute it at one input. -/
def codeApartWrong : ChangeSpec := { name := "codeApart", fn := fun _ => fun
  | [d1, d2] => { results := [.lit (.bool false)], args := [d1, d2] }
  | _ => none }
def CodeApartWrongFalsely : Prop := codeApartRow.holds Tryd.pinned (OpenSpec.ofChange codeApartWrong)

/- THE SECOND FORM. 'bulk': how many values and letters a reading holds, each counted each time it is reached (what is shared counts as often as it is met; a slice's spare places count too). A statement '..UptoSaid' is the law's where the arguments, and the package variables that the reading takes, are together of bulk at most 1048576: NARROWER than '..Said'. Prove '..Said' where nothing that the law and all that it calls make is longer than what came in: it says more and counts as full. Else prove '..UptoSaid'. A law counts once. -/
mutual
def uptoBulk {H : Type} : DataW H → Nat
  | .lit (.string bytes) => bytes.length + 1
  | .lit _ => 1
  | .nil => 1
  | .ptr d => uptoBulk d + 1
  | .slice elems spare => uptoBulkAll elems + uptoBulkAll spare + 1
  | .agg parts => uptoBulkAll parts + 1
  | .iface _ d => uptoBulk d + 1
  | .map entries => uptoBulkEntries entries + 1
  | .held _ => 1
def uptoBulkAll {H : Type} : List (DataW H) → Nat
  | [] => 0
  | d :: r => uptoBulk d + uptoBulkAll r
def uptoBulkEntries {H : Type} : List (Lit × DataW H) → Nat
  | [] => 0
  | x :: r => uptoBulkEntry x + uptoBulkEntries r
def uptoBulkEntry {H : Type} : Lit × DataW H → Nat
  | (.string bytes, d) => bytes.length + uptoBulk d + 1
  | (_, d) => uptoBulk d + 1
 end
def uptoSmall : (H : Type) → List (DataW H) → Bool := fun _ ds => decide (uptoBulkAll ds ≤ 1048576)
def OpenSpec.upto (s : _root_.Go.ChangeSpec) : _root_.Go.OpenSpec := { _root_.Go.OpenSpec.ofChange s with cond := some uptoSmall }

/-- 'splicelaw02.CodePuts', WHERE WHAT IT READS IS OF BULK AT MOST 1048576: true; the input reads as it did. -/
def codePutsUptoRow : OpenClaim := { program := "ytidfdhghgjdihaadoor", sum := "a285ab9efbea03c8c90b85e9324e3cdb78314c6a94318bc401a522227d7ca7cb", func := "splice/splicelaw02.CodePuts", spec := "codePuts", named := ["splice/code.shapes"], apart := false, laid := [("splice/code.shapes", laid_splice_code_shapes)], narrowed := true }
def CodePutsUptoSaid : Prop := codePutsUptoRow.holds Tryd.pinned (OpenSpec.upto codePutsSpec)

/-- 'splicelaw02.CodeGets', WHERE WHAT IT READS IS OF BULK AT MOST 1048576: true; the input reads as it did. -/
def codeGetsUptoRow : OpenClaim := { program := "ytidfdhghgjdihaadoor", sum := "a285ab9efbea03c8c90b85e9324e3cdb78314c6a94318bc401a522227d7ca7cb", func := "splice/splicelaw02.CodeGets", spec := "codeGets", named := ["splice/code.shapes"], apart := false, laid := [("splice/code.shapes", laid_splice_code_shapes)], narrowed := true }
def CodeGetsUptoSaid : Prop := codeGetsUptoRow.holds Tryd.pinned (OpenSpec.upto codeGetsSpec)

/-- 'splicelaw02.CodeAlls', WHERE WHAT IT READS IS OF BULK AT MOST 1048576: true; the input reads as it did. -/
def codeAllsUptoRow : OpenClaim := { program := "ytidfdhghgjdihaadoor", sum := "a285ab9efbea03c8c90b85e9324e3cdb78314c6a94318bc401a522227d7ca7cb", func := "splice/splicelaw02.CodeAlls", spec := "codeAlls", named := ["splice/code.shapes"], apart := false, laid := [("splice/code.shapes", laid_splice_code_shapes)], narrowed := true }
def CodeAllsUptoSaid : Prop := codeAllsUptoRow.holds Tryd.pinned (OpenSpec.upto codeAllsSpec)

/-- 'splicelaw02.CodeBack', WHERE WHAT IT READS IS OF BULK AT MOST 1048576: true; the input reads as it did. -/
def codeBackUptoRow : OpenClaim := { program := "ytidfdhghgjdihaadoor", sum := "a285ab9efbea03c8c90b85e9324e3cdb78314c6a94318bc401a522227d7ca7cb", func := "splice/splicelaw02.CodeBack", spec := "codeBack", named := ["splice/code.shapes"], apart := false, laid := [("splice/code.shapes", laid_splice_code_shapes)], narrowed := true }
def CodeBackUptoSaid : Prop := codeBackUptoRow.holds Tryd.pinned (OpenSpec.upto codeBackSpec)

/-- 'splicelaw02.CodeKeeps', WHERE WHAT IT READS IS OF BULK AT MOST 1048576: true; the input reads as it did. -/
def codeKeepsUptoRow : OpenClaim := { program := "ytidfdhghgjdihaadoor", sum := "a285ab9efbea03c8c90b85e9324e3cdb78314c6a94318bc401a522227d7ca7cb", func := "splice/splicelaw02.CodeKeeps", spec := "codeKeeps", named := ["splice/code.shapes"], apart := false, laid := [("splice/code.shapes", laid_splice_code_shapes)], narrowed := true }
def CodeKeepsUptoSaid : Prop := codeKeepsUptoRow.holds Tryd.pinned (OpenSpec.upto codeKeepsSpec)

/-- 'splicelaw02.CodeApart', WHERE WHAT IT READS IS OF BULK AT MOST 1048576: true; the input reads as it did. -/
def codeApartUptoRow : OpenClaim := { program := "ytidfdhghgjdihaadoor", sum := "a285ab9efbea03c8c90b85e9324e3cdb78314c6a94318bc401a522227d7ca7cb", func := "splice/splicelaw02.CodeApart", spec := "codeApart", named := ["splice/code.shapes"], apart := false, laid := [("splice/code.shapes", laid_splice_code_shapes)], narrowed := true }
def CodeApartUptoSaid : Prop := codeApartUptoRow.holds Tryd.pinned (OpenSpec.upto codeApartSpec)

end Rows
end Go.Proofs.YtidfdhghgjdihaaDoor
