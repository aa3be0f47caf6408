/- What the document's own answers for layer 4 return: one contract a function. -/
import Derived.Test.YtcibifgbnpcpmaaDoorCalls
import Derived.Test.YtcibifgbnpcpmaaDoorAluMath
import Derived.Deep.RegionWith
namespace Go.Proofs.YtcibifgbnpcpmaaDoor
open Go.ChangeShapes Go.WideShapes Go.ChangeAt Go.RowKit
set_option linter.unusedVariables false

