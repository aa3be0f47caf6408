/-
  No cell of these rows narrows 'for every input' (looked for: loops, veiled, ifaces, maps, wideKeys, modest, calm, conditions, laid).
  DERIVED. THE GIVEN ROWS OF THIS SEAT. 6 by the template 'for every input the law returns true; each argument reads behind the call as it read before'; 0 by the template 'total and deterministic' (their statements: YtcbhnpjaaaefiaaTotals.lean).
  GIVEN WITH THE SEED: the statements are not yours to turn. If you find one false, say at which input.
  Laid BY PROGRAM, IN A SANDBOX (cutbox-rows.mjs): the forced cells as the released guide's own fill.sh prints them over the translation 89bb64fab72d184d… (all of the seat's roots in one cut). By AI agents, Wed Nov 11 2026. No macro, syntax, notation, axiom, sorry.
-/
import Derived.Test.YtcbhnpjaaaefiaaChecked
import GoSem.Claim
import GoSem.ClaimJoined
import GoSem.ClaimMapViews
import Derived.JoinedTies
import Derived.KernelRfl
namespace Go.Proofs.Ytcbhnpjaaaefiaa
/- THE CELL 'sum', in the pinned program and in every row, IS THE sha256 OF THE DUMP (.gsa) THAT YtcbhnpjaaaefiaaProg.lean LOADS. Nothing in Lean hashes anything: it is a label: what it is worth is what the hold of that sum in a sandbox is worth. -/
noncomputable def Try.pinned : Pinned := { name := "ytcbhnpjaaaefiaa", sum := "89bb64fab72d184d6ef0e673a8af45c06ccaa5a90e81dc05294926cac3613f04", checked := Try.checked }
namespace Rows
def none {H : Type} : Left H := { results := [], args := [] }

/-- 'splicelaw09.ObjectWrites': WHATEVER THE INPUT: true; the input reads as it did. -/
def objectWritesSpec : ChangeSpec := { name := "objectWrites", fn := fun _ => fun
  | [d] => { results := [.lit (.bool true)], args := [d] }
  | _ => none }
def objectWritesRow : OpenClaim := { program := "ytcbhnpjaaaefiaa", sum := "89bb64fab72d184d6ef0e673a8af45c06ccaa5a90e81dc05294926cac3613f04", func := "splice/splicelaw09.ObjectWrites", spec := "objectWrites", unfollowed := true, recurses := true, apart := false }
def ObjectWritesSaid : Prop := objectWritesRow.holds Try.pinned (OpenSpec.ofChange objectWritesSpec)

/-- ITS FALSE NEIGHBOUR: 'it returns false'. Refute it at one input. -/
def objectWritesWrong : ChangeSpec := { name := "objectWrites", fn := fun _ => fun
  | [d] => { results := [.lit (.bool false)], args := [d] }
  | _ => none }
def ObjectWritesWrongFalsely : Prop := objectWritesRow.holds Try.pinned (OpenSpec.ofChange objectWritesWrong)

/-- 'splicelaw09.ObjectReads': WHATEVER THE INPUT: true; the input reads as it did. -/
def objectReadsSpec : ChangeSpec := { name := "objectReads", fn := fun _ => fun
  | [d] => { results := [.lit (.bool true)], args := [d] }
  | _ => none }
def objectReadsRow : OpenClaim := { program := "ytcbhnpjaaaefiaa", sum := "89bb64fab72d184d6ef0e673a8af45c06ccaa5a90e81dc05294926cac3613f04", func := "splice/splicelaw09.ObjectReads", spec := "objectReads", unfollowed := true, recurses := true, apart := false }
def ObjectReadsSaid : Prop := objectReadsRow.holds Try.pinned (OpenSpec.ofChange objectReadsSpec)

/-- ITS FALSE NEIGHBOUR: 'it returns false'. Refute it at one input. -/
def objectReadsWrong : ChangeSpec := { name := "objectReads", fn := fun _ => fun
  | [d] => { results := [.lit (.bool false)], args := [d] }
  | _ => none }
def ObjectReadsWrongFalsely : Prop := objectReadsRow.holds Try.pinned (OpenSpec.ofChange objectReadsWrong)

/-- 'splicelaw09.ObjectBack': WHATEVER THE INPUT: true; the input reads as it did. -/
def objectBackSpec : ChangeSpec := { name := "objectBack", fn := fun _ => fun
  | [d1, d2] => { results := [.lit (.bool true)], args := [d1, d2] }
  | _ => none }
def objectBackRow : OpenClaim := { program := "ytcbhnpjaaaefiaa", sum := "89bb64fab72d184d6ef0e673a8af45c06ccaa5a90e81dc05294926cac3613f04", func := "splice/splicelaw09.ObjectBack", spec := "objectBack", unfollowed := true, recurses := true, apart := false }
def ObjectBackSaid : Prop := objectBackRow.holds Try.pinned (OpenSpec.ofChange objectBackSpec)

/-- ITS FALSE NEIGHBOUR: 'it returns false'. Refute it at one input. -/
def objectBackWrong : ChangeSpec := { name := "objectBack", fn := fun _ => fun
  | [d1, d2] => { results := [.lit (.bool false)], args := [d1, d2] }
  | _ => none }
def ObjectBackWrongFalsely : Prop := objectBackRow.holds Try.pinned (OpenSpec.ofChange objectBackWrong)

/-- 'splicelaw09.ObjectSames': WHATEVER THE INPUT: true; the input reads as it did. -/
def objectSamesSpec : ChangeSpec := { name := "objectSames", fn := fun _ => fun
  | [d1, d2] => { results := [.lit (.bool true)], args := [d1, d2] }
  | _ => none }
def objectSamesRow : OpenClaim := { program := "ytcbhnpjaaaefiaa", sum := "89bb64fab72d184d6ef0e673a8af45c06ccaa5a90e81dc05294926cac3613f04", func := "splice/splicelaw09.ObjectSames", spec := "objectSames", unfollowed := true, recurses := true, apart := false }
def ObjectSamesSaid : Prop := objectSamesRow.holds Try.pinned (OpenSpec.ofChange objectSamesSpec)

/-- ITS FALSE NEIGHBOUR: 'it returns false'. Refute it at one input. -/
def objectSamesWrong : ChangeSpec := { name := "objectSames", fn := fun _ => fun
  | [d1, d2] => { results := [.lit (.bool false)], args := [d1, d2] }
  | _ => none }
def ObjectSamesWrongFalsely : Prop := objectSamesRow.holds Try.pinned (OpenSpec.ofChange objectSamesWrong)

/-- 'splicelaw09.ObjectCut': WHATEVER THE INPUT: true; the input reads as it did. -/
def objectCutSpec : ChangeSpec := { name := "objectCut", fn := fun _ => fun
  | [d1, d2, d3] => { results := [.lit (.bool true)], args := [d1, d2, d3] }
  | _ => none }
def objectCutRow : OpenClaim := { program := "ytcbhnpjaaaefiaa", sum := "89bb64fab72d184d6ef0e673a8af45c06ccaa5a90e81dc05294926cac3613f04", func := "splice/splicelaw09.ObjectCut", spec := "objectCut", unfollowed := true, recurses := true, apart := false }
def ObjectCutSaid : Prop := objectCutRow.holds Try.pinned (OpenSpec.ofChange objectCutSpec)

/-- ITS FALSE NEIGHBOUR: 'it returns false'. Refute it at one input. -/
def objectCutWrong : ChangeSpec := { name := "objectCut", fn := fun _ => fun
  | [d1, d2, d3] => { results := [.lit (.bool false)], args := [d1, d2, d3] }
  | _ => none }
def ObjectCutWrongFalsely : Prop := objectCutRow.holds Try.pinned (OpenSpec.ofChange objectCutWrong)

/-- 'splicelaw09.ObjectKeeps': WHATEVER THE INPUT: true; the input reads as it did. -/
def objectKeepsSpec : ChangeSpec := { name := "objectKeeps", fn := fun _ => fun
  | [d] => { results := [.lit (.bool true)], args := [d] }
  | _ => none }
def objectKeepsRow : OpenClaim := { program := "ytcbhnpjaaaefiaa", sum := "89bb64fab72d184d6ef0e673a8af45c06ccaa5a90e81dc05294926cac3613f04", func := "splice/splicelaw09.ObjectKeeps", spec := "objectKeeps", unfollowed := true, recurses := true, apart := false }
def ObjectKeepsSaid : Prop := objectKeepsRow.holds Try.pinned (OpenSpec.ofChange objectKeepsSpec)

/-- ITS FALSE NEIGHBOUR: 'it returns false'. Refute it at one input. -/
def objectKeepsWrong : ChangeSpec := { name := "objectKeeps", fn := fun _ => fun
  | [d] => { results := [.lit (.bool false)], args := [d] }
  | _ => none }
def ObjectKeepsWrongFalsely : Prop := objectKeepsRow.holds Try.pinned (OpenSpec.ofChange objectKeepsWrong)

/- THE SECOND FORM. 'bulk': how many values and letters a reading holds, each counted each time it is reached (what is shared counts as often as it is met; a slice's spare places count too). A statement '..UptoSaid' is the law's where the arguments, and the package variables that the reading takes, are together of bulk at most 1048576: NARROWER than '..Said'. Prove '..Said' where nothing that the law and all that it calls make is longer than what came in: it says more and counts as full. Else prove '..UptoSaid'. A law counts once. -/
mutual
def uptoBulk {H : Type} : DataW H → Nat
  | .lit (.string bytes) => bytes.length + 1
  | .lit _ => 1
  | .nil => 1
  | .ptr d => uptoBulk d + 1
  | .slice elems spare => uptoBulkAll elems + uptoBulkAll spare + 1
  | .agg parts => uptoBulkAll parts + 1
  | .iface _ d => uptoBulk d + 1
  | .map entries => uptoBulkEntries entries + 1
  | .held _ => 1
def uptoBulkAll {H : Type} : List (DataW H) → Nat
  | [] => 0
  | d :: r => uptoBulk d + uptoBulkAll r
def uptoBulkEntries {H : Type} : List (Lit × DataW H) → Nat
  | [] => 0
  | x :: r => uptoBulkEntry x + uptoBulkEntries r
def uptoBulkEntry {H : Type} : Lit × DataW H → Nat
  | (.string bytes, d) => bytes.length + uptoBulk d + 1
  | (_, d) => uptoBulk d + 1
 end
def uptoSmall : (H : Type) → List (DataW H) → Bool := fun _ ds => decide (uptoBulkAll ds ≤ 1048576)
def OpenSpec.upto (s : _root_.Go.ChangeSpec) : _root_.Go.OpenSpec := { _root_.Go.OpenSpec.ofChange s with cond := some uptoSmall }

/-- 'splicelaw09.ObjectWrites', WHERE WHAT IT READS IS OF BULK AT MOST 1048576: true; the input reads as it did. -/
def objectWritesUptoRow : OpenClaim := { program := "ytcbhnpjaaaefiaa", sum := "89bb64fab72d184d6ef0e673a8af45c06ccaa5a90e81dc05294926cac3613f04", func := "splice/splicelaw09.ObjectWrites", spec := "objectWrites", unfollowed := true, recurses := true, apart := false, narrowed := true }
def ObjectWritesUptoSaid : Prop := objectWritesUptoRow.holds Try.pinned (OpenSpec.upto objectWritesSpec)

/-- 'splicelaw09.ObjectReads', WHERE WHAT IT READS IS OF BULK AT MOST 1048576: true; the input reads as it did. -/
def objectReadsUptoRow : OpenClaim := { program := "ytcbhnpjaaaefiaa", sum := "89bb64fab72d184d6ef0e673a8af45c06ccaa5a90e81dc05294926cac3613f04", func := "splice/splicelaw09.ObjectReads", spec := "objectReads", unfollowed := true, recurses := true, apart := false, narrowed := true }
def ObjectReadsUptoSaid : Prop := objectReadsUptoRow.holds Try.pinned (OpenSpec.upto objectReadsSpec)

/-- 'splicelaw09.ObjectBack', WHERE WHAT IT READS IS OF BULK AT MOST 1048576: true; the input reads as it did. -/
def objectBackUptoRow : OpenClaim := { program := "ytcbhnpjaaaefiaa", sum := "89bb64fab72d184d6ef0e673a8af45c06ccaa5a90e81dc05294926cac3613f04", func := "splice/splicelaw09.ObjectBack", spec := "objectBack", unfollowed := true, recurses := true, apart := false, narrowed := true }
def ObjectBackUptoSaid : Prop := objectBackUptoRow.holds Try.pinned (OpenSpec.upto objectBackSpec)

/-- 'splicelaw09.ObjectSames', WHERE WHAT IT READS IS OF BULK AT MOST 1048576: true; the input reads as it did. -/
def objectSamesUptoRow : OpenClaim := { program := "ytcbhnpjaaaefiaa", sum := "89bb64fab72d184d6ef0e673a8af45c06ccaa5a90e81dc05294926cac3613f04", func := "splice/splicelaw09.ObjectSames", spec := "objectSames", unfollowed := true, recurses := true, apart := false, narrowed := true }
def ObjectSamesUptoSaid : Prop := objectSamesUptoRow.holds Try.pinned (OpenSpec.upto objectSamesSpec)

/-- 'splicelaw09.ObjectCut', WHERE WHAT IT READS IS OF BULK AT MOST 1048576: true; the input reads as it did. -/
def objectCutUptoRow : OpenClaim := { program := "ytcbhnpjaaaefiaa", sum := "89bb64fab72d184d6ef0e673a8af45c06ccaa5a90e81dc05294926cac3613f04", func := "splice/splicelaw09.ObjectCut", spec := "objectCut", unfollowed := true, recurses := true, apart := false, narrowed := true }
def ObjectCutUptoSaid : Prop := objectCutUptoRow.holds Try.pinned (OpenSpec.upto objectCutSpec)

/-- 'splicelaw09.ObjectKeeps', WHERE WHAT IT READS IS OF BULK AT MOST 1048576: true; the input reads as it did. -/
def objectKeepsUptoRow : OpenClaim := { program := "ytcbhnpjaaaefiaa", sum := "89bb64fab72d184d6ef0e673a8af45c06ccaa5a90e81dc05294926cac3613f04", func := "splice/splicelaw09.ObjectKeeps", spec := "objectKeeps", unfollowed := true, recurses := true, apart := false, narrowed := true }
def ObjectKeepsUptoSaid : Prop := objectKeepsUptoRow.holds Try.pinned (OpenSpec.upto objectKeepsSpec)

end Rows
end Go.Proofs.Ytcbhnpjaaaefiaa
