/- What the document's own functions on objects return. -/
import Derived.Test.YtlpmkbdoofbmiaaObjMath
import Derived.Test.YtlpmkbdoofbmiaaScanKit
namespace Go.Proofs.Ytlpmkbdoofbmiaa
open Go.ChangeShapes Go.WideShapes Go.ChangeAt Go.RowKit
set_option linter.unusedVariables false
set_option linter.unusedSimpArgs false
end Go.Proofs.Ytlpmkbdoofbmiaa
