/- What the code's Try returns. -/
import Derived.Test.YtnejpldbokodaaaDoorScanOwn
namespace Go.Proofs.YtnejpldbokodaaaDoor
open Go.ChangeShapes Go.WideShapes Go.ChangeAt Go.RowKit
set_option linter.unusedVariables false
set_option linter.unusedSimpArgs false
end Go.Proofs.YtnejpldbokodaaaDoor
