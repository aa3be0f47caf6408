/- When two rows of numbers, two arrays of registers, are alike: exactly. -/
import Derived.Test.YtnejpldbokodaaaDoorFrame
import Derived.Test.YtnejpldbokodaaaDoorCalls
import Derived.ChangeKeysEq
import Derived.WalkSmall
import Derived.Deep.QuietTactic
import Derived.BigQuiet
namespace Go.Proofs.YtnejpldbokodaaaDoor
open Go.ChangeShapes Go.WideShapes Go.ChangeAt Go.RowKit
set_option linter.unusedVariables false

/-- The first n numbers of f and g are alike. -/
def eqB (n m : Nat) (f g : Nat → Int) : Bool := decide (n = m ∧ ∀ i, i < n → f i = g i)
/-- The 16 registers are alike. -/
def regsB (r q : Nat → Int) : Bool := (List.range 16).all fun j => r j == q j
/-- 16 words, as an array's cells. -/
def regsV (r : Nat → Int) : Array Value := #[.int .u32 (r 0), .int .u32 (r 1), .int .u32 (r 2), .int .u32 (r 3), .int .u32 (r 4), .int .u32 (r 5), .int .u32 (r 6), .int .u32 (r 7), .int .u32 (r 8), .int .u32 (r 9), .int .u32 (r 10), .int .u32 (r 11), .int .u32 (r 12), .int .u32 (r 13), .int .u32 (r 14), .int .u32 (r 15)]
end Go.Proofs.YtnejpldbokodaaaDoor
