/- What the document's own Do of layer 4 returns, of pure operations. -/
import Derived.Test.YtcibifgbnpcpmaaDoorAluRef
namespace Go.Proofs.YtcibifgbnpcpmaaDoor
open Go.ChangeShapes Go.WideShapes Go.ChangeAt Go.RowKit
set_option linter.unusedVariables false

/-- What an operation writes. -/
def doZ (op imm : Int) (b c : Nat) : Int :=
  if op = 1 then ((b : Int) + c) % 4294967296 else if op = 2 then ((b : Int) - c) % 4294967296
  else if op = 3 then (bw 0 b c : Nat) else if op = 4 then (bw 1 b c : Nat) else if op = 5 then (bw 2 b c : Nat)
  else if op = 6 then (if signZ b 32 < signZ c 32 then 1 else 0)
  else if op = 7 then ((b : Int) * c) % 4294967296 else if op = 8 then ((b : Int) + imm) % 4294967296
  else if op = 9 then (imm * 65536) % 4294967296 else if op = 10 then (bw 1 b imm.toNat : Nat) else 0

