/- What an instruction writes, as the code of layer 3 tells it. -/
import Derived.Test.YtnpejnjigaalfaaDoorCalls
import Derived.Test.YtnpejnjigaalfaaDoorFlowKind
namespace Go.Proofs.YtnpejnjigaalfaaDoor
open Go.ChangeShapes Go.WideShapes Go.ChangeAt Go.RowKit
set_option linter.unusedVariables false
/-- What it writes. -/
def writesZ (op a : Int) : Int := if a ≠ 0 ∧ (1 ≤ op ∧ op ≤ 11 ∨ op = 13 ∨ op = 22) then a else -1
set_option maxHeartbeats 4000000 in
theorem writes_any (op a b c imm : Int) (w : World) (h0 : 0 ≤ op) (h1 : op < 26) : Calls Tryd.prog 70 #[.agg #[.int .i64 op, .int .i64 a, .int .i64 b, .int .i64 c, .int .i64 imm]] w fun e w' => e = .returned (.int .i64 (writesZ op a)) ∧ Below w.heap.size w w' := by
  by_cases ha : a = 0
  · subst ha
    rcases ops26 h0 h1 with rfl | rfl | rfl | rfl | rfl | rfl | rfl | rfl | rfl | rfl | rfl | rfl | rfl | rfl | rfl | rfl | rfl | rfl | rfl | rfl | rfl | rfl | rfl | rfl | rfl | rfl
    all_goals
      go_enter Tryd.func70, Tryd.ntmps70
      go_wp2
      go_ret
      exact ⟨rfl, (Below.refl _ _).alloc (Nat.le_refl _) _⟩
  · have hn : (a != 0) = true := by simpa using ha
    have hz : writesZ op a = if 1 ≤ op ∧ op ≤ 11 ∨ op = 13 ∨ op = 22 then a else -1 := by unfold writesZ; simp [ha]
    rw [hz]; clear hz
    rcases ops26 h0 h1 with rfl | rfl | rfl | rfl | rfl | rfl | rfl | rfl | rfl | rfl | rfl | rfl | rfl | rfl | rfl | rfl | rfl | rfl | rfl | rfl | rfl | rfl | rfl | rfl | rfl | rfl
    all_goals
      go_enter Tryd.func70, Tryd.ntmps70
      go_wp2
      go_ret
      exact ⟨rfl, (Below.refl _ _).alloc (Nat.le_refl _) _⟩
end Go.Proofs.YtnpejnjigaalfaaDoor
