/-
  No cell of these rows narrows 'for every input' (looked for: loops, veiled, ifaces, maps, wideKeys, modest, calm, conditions, laid).
  DERIVED. THE GIVEN ROWS OF THIS SEAT. 5 by the template 'for every input the law returns true; each argument reads behind the call as it read before'; 0 by the template 'total and deterministic' (their statements: YtgcifbamfdahdaaTotals.lean).
  GIVEN WITH THE SEED: the statements are not yours to turn. If you find one false, say at which input.
  Laid BY PROGRAM, IN A SANDBOX (cutbox-rows.mjs): the forced cells as the released guide's own fill.sh prints them over the translation 66e6b0f7b7c0307f… (all of the seat's roots in one cut). By AI agents, Wed Nov 11 2026. No macro, syntax, notation, axiom, sorry.
-/
import Derived.Test.YtgcifbamfdahdaaChecked
import GoSem.Claim
import GoSem.ClaimJoined
import GoSem.ClaimMapViews
import Derived.JoinedTies
import Derived.KernelRfl
namespace Go.Proofs.Ytgcifbamfdahdaa
/- THE CELL 'sum', in the pinned program and in every row, IS THE sha256 OF THE DUMP (.gsa) THAT YtgcifbamfdahdaaProg.lean LOADS. Nothing in Lean hashes anything: it is a label: what it is worth is what the hold of that sum in a sandbox is worth. -/
noncomputable def Try.pinned : Pinned := { name := "ytgcifbamfdahdaa", sum := "66e6b0f7b7c0307fcfed3e63e4f2decea94aa10b5ff8cdd2fef36438d10250c4", checked := Try.checked }
namespace Rows
def none {H : Type} : Left H := { results := [], args := [] }

/-- 'splicelaw04.AluDoes': WHATEVER THE INPUT: true; the input reads as it did. -/
def aluDoesSpec : ChangeSpec := { name := "aluDoes", fn := fun _ => fun
  | [d1, d2, d3] => { results := [.lit (.bool true)], args := [d1, d2, d3] }
  | _ => none }
def aluDoesRow : OpenClaim := { program := "ytgcifbamfdahdaa", sum := "66e6b0f7b7c0307fcfed3e63e4f2decea94aa10b5ff8cdd2fef36438d10250c4", func := "splice/splicelaw04.AluDoes", spec := "aluDoes", apart := false }
def AluDoesSaid : Prop := aluDoesRow.holds Try.pinned (OpenSpec.ofChange aluDoesSpec)

/-- ITS FALSE NEIGHBOUR: 'it returns false'. Refute it at one input. -/
def aluDoesWrong : ChangeSpec := { name := "aluDoes", fn := fun _ => fun
  | [d1, d2, d3] => { results := [.lit (.bool false)], args := [d1, d2, d3] }
  | _ => none }
def AluDoesWrongFalsely : Prop := aluDoesRow.holds Try.pinned (OpenSpec.ofChange aluDoesWrong)

/-- 'splicelaw04.AluTakes': WHATEVER THE INPUT: true; the input reads as it did. -/
def aluTakesSpec : ChangeSpec := { name := "aluTakes", fn := fun _ => fun
  | [d1, d2, d3] => { results := [.lit (.bool true)], args := [d1, d2, d3] }
  | _ => none }
def aluTakesRow : OpenClaim := { program := "ytgcifbamfdahdaa", sum := "66e6b0f7b7c0307fcfed3e63e4f2decea94aa10b5ff8cdd2fef36438d10250c4", func := "splice/splicelaw04.AluTakes", spec := "aluTakes", apart := false }
def AluTakesSaid : Prop := aluTakesRow.holds Try.pinned (OpenSpec.ofChange aluTakesSpec)

/-- ITS FALSE NEIGHBOUR: 'it returns false'. Refute it at one input. -/
def aluTakesWrong : ChangeSpec := { name := "aluTakes", fn := fun _ => fun
  | [d1, d2, d3] => { results := [.lit (.bool false)], args := [d1, d2, d3] }
  | _ => none }
def AluTakesWrongFalsely : Prop := aluTakesRow.holds Try.pinned (OpenSpec.ofChange aluTakesWrong)

/-- 'splicelaw04.AluConsts': WHATEVER THE INPUT: true; the input reads as it did. -/
def aluConstsSpec : ChangeSpec := { name := "aluConsts", fn := fun _ => fun
  | [d1, d2, d3] => { results := [.lit (.bool true)], args := [d1, d2, d3] }
  | _ => none }
def aluConstsRow : OpenClaim := { program := "ytgcifbamfdahdaa", sum := "66e6b0f7b7c0307fcfed3e63e4f2decea94aa10b5ff8cdd2fef36438d10250c4", func := "splice/splicelaw04.AluConsts", spec := "aluConsts", apart := false }
def AluConstsSaid : Prop := aluConstsRow.holds Try.pinned (OpenSpec.ofChange aluConstsSpec)

/-- ITS FALSE NEIGHBOUR: 'it returns false'. Refute it at one input. -/
def aluConstsWrong : ChangeSpec := { name := "aluConsts", fn := fun _ => fun
  | [d1, d2, d3] => { results := [.lit (.bool false)], args := [d1, d2, d3] }
  | _ => none }
def AluConstsWrongFalsely : Prop := aluConstsRow.holds Try.pinned (OpenSpec.ofChange aluConstsWrong)

/-- 'splicelaw04.AluSigned': WHATEVER THE INPUT: true; the input reads as it did. -/
def aluSignedSpec : ChangeSpec := { name := "aluSigned", fn := fun _ => fun
  | [d1, d2, d3] => { results := [.lit (.bool true)], args := [d1, d2, d3] }
  | _ => none }
def aluSignedRow : OpenClaim := { program := "ytgcifbamfdahdaa", sum := "66e6b0f7b7c0307fcfed3e63e4f2decea94aa10b5ff8cdd2fef36438d10250c4", func := "splice/splicelaw04.AluSigned", spec := "aluSigned", apart := false }
def AluSignedSaid : Prop := aluSignedRow.holds Try.pinned (OpenSpec.ofChange aluSignedSpec)

/-- ITS FALSE NEIGHBOUR: 'it returns false'. Refute it at one input. -/
def aluSignedWrong : ChangeSpec := { name := "aluSigned", fn := fun _ => fun
  | [d1, d2, d3] => { results := [.lit (.bool false)], args := [d1, d2, d3] }
  | _ => none }
def AluSignedWrongFalsely : Prop := aluSignedRow.holds Try.pinned (OpenSpec.ofChange aluSignedWrong)

/-- 'splicelaw04.AluKeeps': WHATEVER THE INPUT: true; the input reads as it did. -/
def aluKeepsSpec : ChangeSpec := { name := "aluKeeps", fn := fun _ => fun
  | [d1, d2] => { results := [.lit (.bool true)], args := [d1, d2] }
  | _ => none }
def aluKeepsRow : OpenClaim := { program := "ytgcifbamfdahdaa", sum := "66e6b0f7b7c0307fcfed3e63e4f2decea94aa10b5ff8cdd2fef36438d10250c4", func := "splice/splicelaw04.AluKeeps", spec := "aluKeeps", apart := false }
def AluKeepsSaid : Prop := aluKeepsRow.holds Try.pinned (OpenSpec.ofChange aluKeepsSpec)

/-- ITS FALSE NEIGHBOUR: 'it returns false'. Refute it at one input. -/
def aluKeepsWrong : ChangeSpec := { name := "aluKeeps", fn := fun _ => fun
  | [d1, d2] => { results := [.lit (.bool false)], args := [d1, d2] }
  | _ => none }
def AluKeepsWrongFalsely : Prop := aluKeepsRow.holds Try.pinned (OpenSpec.ofChange aluKeepsWrong)

/- THE SECOND FORM. 'bulk': how many values and letters a reading holds, each counted each time it is reached (what is shared counts as often as it is met; a slice's spare places count too). A statement '..UptoSaid' is the law's where the arguments, and the package variables that the reading takes, are together of bulk at most 1048576: NARROWER than '..Said'. Prove '..Said' where nothing that the law and all that it calls make is longer than what came in: it says more and counts as full. Else prove '..UptoSaid'. A law counts once. -/
mutual
def uptoBulk {H : Type} : DataW H → Nat
  | .lit (.string bytes) => bytes.length + 1
  | .lit _ => 1
  | .nil => 1
  | .ptr d => uptoBulk d + 1
  | .slice elems spare => uptoBulkAll elems + uptoBulkAll spare + 1
  | .agg parts => uptoBulkAll parts + 1
  | .iface _ d => uptoBulk d + 1
  | .map entries => uptoBulkEntries entries + 1
  | .held _ => 1
def uptoBulkAll {H : Type} : List (DataW H) → Nat
  | [] => 0
  | d :: r => uptoBulk d + uptoBulkAll r
def uptoBulkEntries {H : Type} : List (Lit × DataW H) → Nat
  | [] => 0
  | x :: r => uptoBulkEntry x + uptoBulkEntries r
def uptoBulkEntry {H : Type} : Lit × DataW H → Nat
  | (.string bytes, d) => bytes.length + uptoBulk d + 1
  | (_, d) => uptoBulk d + 1
 end
def uptoSmall : (H : Type) → List (DataW H) → Bool := fun _ ds => decide (uptoBulkAll ds ≤ 1048576)
def OpenSpec.upto (s : _root_.Go.ChangeSpec) : _root_.Go.OpenSpec := { _root_.Go.OpenSpec.ofChange s with cond := some uptoSmall }

/-- 'splicelaw04.AluDoes', WHERE WHAT IT READS IS OF BULK AT MOST 1048576: true; the input reads as it did. -/
def aluDoesUptoRow : OpenClaim := { program := "ytgcifbamfdahdaa", sum := "66e6b0f7b7c0307fcfed3e63e4f2decea94aa10b5ff8cdd2fef36438d10250c4", func := "splice/splicelaw04.AluDoes", spec := "aluDoes", apart := false, narrowed := true }
def AluDoesUptoSaid : Prop := aluDoesUptoRow.holds Try.pinned (OpenSpec.upto aluDoesSpec)

/-- 'splicelaw04.AluTakes', WHERE WHAT IT READS IS OF BULK AT MOST 1048576: true; the input reads as it did. -/
def aluTakesUptoRow : OpenClaim := { program := "ytgcifbamfdahdaa", sum := "66e6b0f7b7c0307fcfed3e63e4f2decea94aa10b5ff8cdd2fef36438d10250c4", func := "splice/splicelaw04.AluTakes", spec := "aluTakes", apart := false, narrowed := true }
def AluTakesUptoSaid : Prop := aluTakesUptoRow.holds Try.pinned (OpenSpec.upto aluTakesSpec)

/-- 'splicelaw04.AluConsts', WHERE WHAT IT READS IS OF BULK AT MOST 1048576: true; the input reads as it did. -/
def aluConstsUptoRow : OpenClaim := { program := "ytgcifbamfdahdaa", sum := "66e6b0f7b7c0307fcfed3e63e4f2decea94aa10b5ff8cdd2fef36438d10250c4", func := "splice/splicelaw04.AluConsts", spec := "aluConsts", apart := false, narrowed := true }
def AluConstsUptoSaid : Prop := aluConstsUptoRow.holds Try.pinned (OpenSpec.upto aluConstsSpec)

/-- 'splicelaw04.AluSigned', WHERE WHAT IT READS IS OF BULK AT MOST 1048576: true; the input reads as it did. -/
def aluSignedUptoRow : OpenClaim := { program := "ytgcifbamfdahdaa", sum := "66e6b0f7b7c0307fcfed3e63e4f2decea94aa10b5ff8cdd2fef36438d10250c4", func := "splice/splicelaw04.AluSigned", spec := "aluSigned", apart := false, narrowed := true }
def AluSignedUptoSaid : Prop := aluSignedUptoRow.holds Try.pinned (OpenSpec.upto aluSignedSpec)

/-- 'splicelaw04.AluKeeps', WHERE WHAT IT READS IS OF BULK AT MOST 1048576: true; the input reads as it did. -/
def aluKeepsUptoRow : OpenClaim := { program := "ytgcifbamfdahdaa", sum := "66e6b0f7b7c0307fcfed3e63e4f2decea94aa10b5ff8cdd2fef36438d10250c4", func := "splice/splicelaw04.AluKeeps", spec := "aluKeeps", apart := false, narrowed := true }
def AluKeepsUptoSaid : Prop := aluKeepsUptoRow.holds Try.pinned (OpenSpec.upto aluKeepsSpec)

end Rows
end Go.Proofs.Ytgcifbamfdahdaa
