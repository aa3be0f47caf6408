/- What the code's own Write, Read and Same return. -/
import Derived.Test.YtcbhnpjaaaefiaaObjTk7
import Derived.Test.YtcbhnpjaaaefiaaObjPt2
import Derived.Test.YtcbhnpjaaaefiaaObjSm
namespace Go.Proofs.Ytcbhnpjaaaefiaa
open Go.ChangeShapes Go.WideShapes Go.ChangeAt Go.RowKit
theorem cwrite {A : Nat → Prop} {w : World} {v : Value} {p : ObjM} (h : IsObj A w v p) (_hf : fewO p) : Calls Try.prog 11 #[v] w (WritePost w p) := write_all h
theorem cread {A : Nat → Prop} {w : World} {v : Value} {l : Bs} (h : IsBytes A w v l) (hl : l.length ≤ 2000000) : Calls Try.prog 15 #[v] w (ReadPost w l) := read_all h hl
theorem csame {A A' : Nat → Prop} {w : World} {v v' : Value} {p q : ObjM} (h1 : IsObj A w v p) (h2 : IsObj A' w v' q) : Calls Try.prog 18 #[v, v'] w fun e w' => Says e (p = q) ∧ Below w.heap.size w w' := same_all h1 h2
end Go.Proofs.Ytcbhnpjaaaefiaa
