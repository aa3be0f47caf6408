/- What the document's own functions on objects return. -/
import Derived.Test.YtnejpldbokodaaaDoorObjMath
import Derived.Test.YtnejpldbokodaaaDoorScanKit
namespace Go.Proofs.YtnejpldbokodaaaDoor
open Go.ChangeShapes Go.WideShapes Go.ChangeAt Go.RowKit
set_option linter.unusedVariables false
set_option linter.unusedSimpArgs false
end Go.Proofs.YtnejpldbokodaaaDoor
