/- Whether a branch is taken, as the document's own answer says. -/
import Derived.Test.YtcibifgbnpcpmaaDoorAluRef
namespace Go.Proofs.YtcibifgbnpcpmaaDoor
open Go.ChangeShapes Go.WideShapes Go.ChangeAt Go.RowKit
set_option linter.unusedVariables false

/-- Is a branch taken? -/
def takenB (op a b : Int) : Bool :=
  if op = 15 then decide (signZ a 32 = signZ b 32) else if op = 16 then decide (¬ signZ a 32 = signZ b 32) else if op = 17 then decide (signZ a 32 < signZ b 32) else if op = 18 then decide (signZ b 32 ≤ signZ a 32) else false
