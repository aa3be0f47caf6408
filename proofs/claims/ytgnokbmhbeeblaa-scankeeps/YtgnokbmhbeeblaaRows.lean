/-
  No cell of these rows narrows 'for every input' (looked for: loops, veiled, ifaces, maps, wideKeys, modest, calm, conditions, laid).
  DERIVED. THE GIVEN ROWS OF THIS SEAT. 5 by the template 'for every input the law returns true; each argument reads behind the call as it read before'; 0 by the template 'total and deterministic' (their statements: YtgnokbmhbeeblaaTotals.lean).
  GIVEN WITH THE SEED: the statements are not yours to turn. If you find one false, say at which input.
  Laid BY PROGRAM, IN A SANDBOX (cutbox-rows.mjs): the forced cells as the released guide's own fill.sh prints them over the translation bf41d1d1b16bbf72… (all of the seat's roots in one cut). By AI agents, Wed Nov 11 2026. No macro, syntax, notation, axiom, sorry.
-/
import Derived.Test.YtgnokbmhbeeblaaChecked
import GoSem.Claim
import GoSem.ClaimJoined
import GoSem.ClaimMapViews
import Derived.JoinedTies
import Derived.KernelRfl
namespace Go.Proofs.Ytgnokbmhbeeblaa
/- THE CELL 'sum', in the pinned program and in every row, IS THE sha256 OF THE DUMP (.gsa) THAT YtgnokbmhbeeblaaProg.lean LOADS. Nothing in Lean hashes anything: it is a label: what it is worth is what the hold of that sum in a sandbox is worth. -/
noncomputable def Try.pinned : Pinned := { name := "ytgnokbmhbeeblaa", sum := "bf41d1d1b16bbf72de8ab13d407fc1ddc16b0f978fe57b3e99fc635ca5eeb857", checked := Try.checked }
namespace Rows
def none {H : Type} : Left H := { results := [], args := [] }

/-- 'splicelaw08.ScanActs': WHATEVER THE INPUT: true; the input reads as it did. -/
def scanActsSpec : ChangeSpec := { name := "scanActs", fn := fun _ => fun
  | [d1, d2] => { results := [.lit (.bool true)], args := [d1, d2] }
  | _ => none }
def scanActsRow : OpenClaim := { program := "ytgnokbmhbeeblaa", sum := "bf41d1d1b16bbf72de8ab13d407fc1ddc16b0f978fe57b3e99fc635ca5eeb857", func := "splice/splicelaw08.ScanActs", spec := "scanActs", inPlace := ["math.Float64bits", "math.Float64frombits"], unfollowed := true, recurses := true, apart := false }
def ScanActsSaid : Prop := scanActsRow.holds Try.pinned (OpenSpec.ofChange scanActsSpec)

/-- ITS FALSE NEIGHBOUR: 'it returns false'. Refute it at one input. -/
def scanActsWrong : ChangeSpec := { name := "scanActs", fn := fun _ => fun
  | [d1, d2] => { results := [.lit (.bool false)], args := [d1, d2] }
  | _ => none }
def ScanActsWrongFalsely : Prop := scanActsRow.holds Try.pinned (OpenSpec.ofChange scanActsWrong)

/-- 'splicelaw08.ScanNames': WHATEVER THE INPUT: true; the input reads as it did. -/
def scanNamesSpec : ChangeSpec := { name := "scanNames", fn := fun _ => fun
  | [d1, d2, d3] => { results := [.lit (.bool true)], args := [d1, d2, d3] }
  | _ => none }
def scanNamesRow : OpenClaim := { program := "ytgnokbmhbeeblaa", sum := "bf41d1d1b16bbf72de8ab13d407fc1ddc16b0f978fe57b3e99fc635ca5eeb857", func := "splice/splicelaw08.ScanNames", spec := "scanNames", inPlace := ["math.Float64bits"], unfollowed := true, recurses := true, apart := false }
def ScanNamesSaid : Prop := scanNamesRow.holds Try.pinned (OpenSpec.ofChange scanNamesSpec)

/-- ITS FALSE NEIGHBOUR: 'it returns false'. Refute it at one input. -/
def scanNamesWrong : ChangeSpec := { name := "scanNames", fn := fun _ => fun
  | [d1, d2, d3] => { results := [.lit (.bool false)], args := [d1, d2, d3] }
  | _ => none }
def ScanNamesWrongFalsely : Prop := scanNamesRow.holds Try.pinned (OpenSpec.ofChange scanNamesWrong)

/-- 'splicelaw08.ScanTakes': WHATEVER THE INPUT: true; the input reads as it did. -/
def scanTakesSpec : ChangeSpec := { name := "scanTakes", fn := fun _ => fun
  | [d1, d2, d3, d4] => { results := [.lit (.bool true)], args := [d1, d2, d3, d4] }
  | _ => none }
def scanTakesRow : OpenClaim := { program := "ytgnokbmhbeeblaa", sum := "bf41d1d1b16bbf72de8ab13d407fc1ddc16b0f978fe57b3e99fc635ca5eeb857", func := "splice/splicelaw08.ScanTakes", spec := "scanTakes", inPlace := ["math.Float64bits", "math.Float64frombits"], unfollowed := true, recurses := true, apart := false }
def ScanTakesSaid : Prop := scanTakesRow.holds Try.pinned (OpenSpec.ofChange scanTakesSpec)

/-- ITS FALSE NEIGHBOUR: 'it returns false'. Refute it at one input. -/
def scanTakesWrong : ChangeSpec := { name := "scanTakes", fn := fun _ => fun
  | [d1, d2, d3, d4] => { results := [.lit (.bool false)], args := [d1, d2, d3, d4] }
  | _ => none }
def ScanTakesWrongFalsely : Prop := scanTakesRow.holds Try.pinned (OpenSpec.ofChange scanTakesWrong)

/-- 'splicelaw08.ScanTries': WHATEVER THE INPUT: true; the input reads as it did. -/
def scanTriesSpec : ChangeSpec := { name := "scanTries", fn := fun _ => fun
  | [d1, d2, d3] => { results := [.lit (.bool true)], args := [d1, d2, d3] }
  | _ => none }
def scanTriesRow : OpenClaim := { program := "ytgnokbmhbeeblaa", sum := "bf41d1d1b16bbf72de8ab13d407fc1ddc16b0f978fe57b3e99fc635ca5eeb857", func := "splice/splicelaw08.ScanTries", spec := "scanTries", inPlace := ["math.Float64bits"], unfollowed := true, recurses := true, apart := false }
def ScanTriesSaid : Prop := scanTriesRow.holds Try.pinned (OpenSpec.ofChange scanTriesSpec)

/-- ITS FALSE NEIGHBOUR: 'it returns false'. Refute it at one input. -/
def scanTriesWrong : ChangeSpec := { name := "scanTries", fn := fun _ => fun
  | [d1, d2, d3] => { results := [.lit (.bool false)], args := [d1, d2, d3] }
  | _ => none }
def ScanTriesWrongFalsely : Prop := scanTriesRow.holds Try.pinned (OpenSpec.ofChange scanTriesWrong)

/-- 'splicelaw08.ScanKeeps': WHATEVER THE INPUT: true; the input reads as it did. -/
def scanKeepsSpec : ChangeSpec := { name := "scanKeeps", fn := fun _ => fun
  | [d] => { results := [.lit (.bool true)], args := [d] }
  | _ => none }
def scanKeepsRow : OpenClaim := { program := "ytgnokbmhbeeblaa", sum := "bf41d1d1b16bbf72de8ab13d407fc1ddc16b0f978fe57b3e99fc635ca5eeb857", func := "splice/splicelaw08.ScanKeeps", spec := "scanKeeps", inPlace := ["math.Float64bits"], unfollowed := true, recurses := true, apart := false }
def ScanKeepsSaid : Prop := scanKeepsRow.holds Try.pinned (OpenSpec.ofChange scanKeepsSpec)

/-- ITS FALSE NEIGHBOUR: 'it returns false'. Refute it at one input. -/
def scanKeepsWrong : ChangeSpec := { name := "scanKeeps", fn := fun _ => fun
  | [d] => { results := [.lit (.bool false)], args := [d] }
  | _ => none }
def ScanKeepsWrongFalsely : Prop := scanKeepsRow.holds Try.pinned (OpenSpec.ofChange scanKeepsWrong)

/- THE SECOND FORM. 'bulk': how many values and letters a reading holds, each counted each time it is reached (what is shared counts as often as it is met; a slice's spare places count too). A statement '..UptoSaid' is the law's where the arguments, and the package variables that the reading takes, are together of bulk at most 1048576: NARROWER than '..Said'. Prove '..Said' where nothing that the law and all that it calls make is longer than what came in: it says more and counts as full. Else prove '..UptoSaid'. A law counts once. -/
mutual
def uptoBulk {H : Type} : DataW H → Nat
  | .lit (.string bytes) => bytes.length + 1
  | .lit _ => 1
  | .nil => 1
  | .ptr d => uptoBulk d + 1
  | .slice elems spare => uptoBulkAll elems + uptoBulkAll spare + 1
  | .agg parts => uptoBulkAll parts + 1
  | .iface _ d => uptoBulk d + 1
  | .map entries => uptoBulkEntries entries + 1
  | .held _ => 1
def uptoBulkAll {H : Type} : List (DataW H) → Nat
  | [] => 0
  | d :: r => uptoBulk d + uptoBulkAll r
def uptoBulkEntries {H : Type} : List (Lit × DataW H) → Nat
  | [] => 0
  | x :: r => uptoBulkEntry x + uptoBulkEntries r
def uptoBulkEntry {H : Type} : Lit × DataW H → Nat
  | (.string bytes, d) => bytes.length + uptoBulk d + 1
  | (_, d) => uptoBulk d + 1
 end
def uptoSmall : (H : Type) → List (DataW H) → Bool := fun _ ds => decide (uptoBulkAll ds ≤ 1048576)
def OpenSpec.upto (s : _root_.Go.ChangeSpec) : _root_.Go.OpenSpec := { _root_.Go.OpenSpec.ofChange s with cond := some uptoSmall }

/-- 'splicelaw08.ScanActs', WHERE WHAT IT READS IS OF BULK AT MOST 1048576: true; the input reads as it did. -/
def scanActsUptoRow : OpenClaim := { program := "ytgnokbmhbeeblaa", sum := "bf41d1d1b16bbf72de8ab13d407fc1ddc16b0f978fe57b3e99fc635ca5eeb857", func := "splice/splicelaw08.ScanActs", spec := "scanActs", inPlace := ["math.Float64bits", "math.Float64frombits"], unfollowed := true, recurses := true, apart := false, narrowed := true }
def ScanActsUptoSaid : Prop := scanActsUptoRow.holds Try.pinned (OpenSpec.upto scanActsSpec)

/-- 'splicelaw08.ScanNames', WHERE WHAT IT READS IS OF BULK AT MOST 1048576: true; the input reads as it did. -/
def scanNamesUptoRow : OpenClaim := { program := "ytgnokbmhbeeblaa", sum := "bf41d1d1b16bbf72de8ab13d407fc1ddc16b0f978fe57b3e99fc635ca5eeb857", func := "splice/splicelaw08.ScanNames", spec := "scanNames", inPlace := ["math.Float64bits"], unfollowed := true, recurses := true, apart := false, narrowed := true }
def ScanNamesUptoSaid : Prop := scanNamesUptoRow.holds Try.pinned (OpenSpec.upto scanNamesSpec)

/-- 'splicelaw08.ScanTakes', WHERE WHAT IT READS IS OF BULK AT MOST 1048576: true; the input reads as it did. -/
def scanTakesUptoRow : OpenClaim := { program := "ytgnokbmhbeeblaa", sum := "bf41d1d1b16bbf72de8ab13d407fc1ddc16b0f978fe57b3e99fc635ca5eeb857", func := "splice/splicelaw08.ScanTakes", spec := "scanTakes", inPlace := ["math.Float64bits", "math.Float64frombits"], unfollowed := true, recurses := true, apart := false, narrowed := true }
def ScanTakesUptoSaid : Prop := scanTakesUptoRow.holds Try.pinned (OpenSpec.upto scanTakesSpec)

/-- 'splicelaw08.ScanTries', WHERE WHAT IT READS IS OF BULK AT MOST 1048576: true; the input reads as it did. -/
def scanTriesUptoRow : OpenClaim := { program := "ytgnokbmhbeeblaa", sum := "bf41d1d1b16bbf72de8ab13d407fc1ddc16b0f978fe57b3e99fc635ca5eeb857", func := "splice/splicelaw08.ScanTries", spec := "scanTries", inPlace := ["math.Float64bits"], unfollowed := true, recurses := true, apart := false, narrowed := true }
def ScanTriesUptoSaid : Prop := scanTriesUptoRow.holds Try.pinned (OpenSpec.upto scanTriesSpec)

/-- 'splicelaw08.ScanKeeps', WHERE WHAT IT READS IS OF BULK AT MOST 1048576: true; the input reads as it did. -/
def scanKeepsUptoRow : OpenClaim := { program := "ytgnokbmhbeeblaa", sum := "bf41d1d1b16bbf72de8ab13d407fc1ddc16b0f978fe57b3e99fc635ca5eeb857", func := "splice/splicelaw08.ScanKeeps", spec := "scanKeeps", inPlace := ["math.Float64bits"], unfollowed := true, recurses := true, apart := false, narrowed := true }
def ScanKeepsUptoSaid : Prop := scanKeepsUptoRow.holds Try.pinned (OpenSpec.upto scanKeepsSpec)

end Rows
end Go.Proofs.Ytgnokbmhbeeblaa
