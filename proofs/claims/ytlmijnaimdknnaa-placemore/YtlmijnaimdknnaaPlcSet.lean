/- A struct of five cells is written over, whole. -/
import Derived.Test.YtlmijnaimdknnaaPlcRep
namespace Go.Proofs.Ytlmijnaimdknnaa
open Go.ChangeShapes Go.WideShapes Go.ChangeAt Go.RowKit
set_option linter.unusedVariables false
/-- The five cells of the block B are these now. -/
def set5 (w : World) (B : Nat) (v0 v1 v2 v3 v4 : Value) : World := ((((w.setCell ⟨B, 0, none⟩ v0).setCell ⟨B, 1, none⟩ v1).setCell ⟨B, 2, none⟩ v2).setCell ⟨B, 3, none⟩ v3).setCell ⟨B, 4, none⟩ v4
variable {w : World} {B : Nat} {v0 v1 v2 v3 v4 : Value}
theorem set5_eq (w : World) (B : Nat) (v0 v1 v2 v3 v4 : Value) : ((((w.setCell ⟨B, 0, none⟩ v0).setCell ⟨B, 1, none⟩ v1).setCell ⟨B, 2, none⟩ v2).setCell ⟨B, 3, none⟩ v3).setCell ⟨B, 4, none⟩ v4 = set5 w B v0 v1 v2 v3 v4 := rfl
theorem xat_set5 {u0 u1 u2 u3 u4 : Value} (h : XAt w B [u0, u1, u2, u3, u4]) : XAt (set5 w B v0 v1 v2 v3 v4) B [v0, v1, v2, v3, v4] := ((((h.set 0 (by simp) v0).set 1 (by simp) v1).set 2 (by simp) v2).set 3 (by simp) v3).set 4 (by simp) v4
theorem xat_other5 {X : Nat} {cs : List Value} (h : XAt w X cs) (hn : X ≠ B) : XAt (set5 w B v0 v1 v2 v3 v4) X cs := xat_other (xat_other (xat_other (xat_other (xat_other h hn _) hn _) hn _) hn _) hn _
theorem below_set5 {b : Nat} {w0 : World} (h : Below b w0 w) (hn : b ≤ B) : Below b w0 (set5 w B v0 v1 v2 v3 v4) := ((((h.setCell hn _).setCell hn _).setCell hn _).setCell hn _).setCell hn _
theorem size_set5 : (set5 w B v0 v1 v2 v3 v4).heap.size = w.heap.size := by simp [set5]
theorem XAt.drew {w : World} {X : Nat} {cs : List Value} (h : XAt w X cs) : XAt w.drew X cs := h
theorem size_drew (w : World) : w.drew.heap.size = w.heap.size := rfl
end Go.Proofs.Ytlmijnaimdknnaa
