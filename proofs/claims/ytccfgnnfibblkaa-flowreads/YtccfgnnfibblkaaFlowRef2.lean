/- What the document's own Reads and List of layer 3 return. -/
import Derived.Test.YtccfgnnfibblkaaFlowRef
namespace Go.Proofs.Ytccfgnnfibblkaa
open Go.ChangeShapes Go.WideShapes Go.ChangeAt Go.RowKit Go.Sort
set_option linter.unusedVariables false

set_option maxHeartbeats 8000000 in
theorem rreads_any (op a b c imm r : Int) (w : World) (h0 : 0 ≤ op) (h1 : op < 26) (hr : 1 ≤ r) : Calls Try.prog 26 #[.agg #[.int .i64 op, .int .i64 a, .int .i64 b, .int .i64 c, .int .i64 imm], .int .i64 r] w fun e w' => e = .returned (.bool (refB op a b c r)) ∧ Below w.heap.size w w' := by
  have hz : (r == 0) = false := by simp; omega
  rcases ops26 h0 h1 with rfl | rfl | rfl | rfl | rfl | rfl | rfl | rfl | rfl | rfl | rfl | rfl | rfl | rfl | rfl | rfl | rfl | rfl | rfl | rfl | rfl | rfl | rfl | rfl | rfl | rfl
  all_goals
    go_enter Try.func26, Try.ntmps26
    go_wp2
    all_goals
      go_ret
      exact ⟨ret_bool' (by rw [Bool.eq_iff_iff]; simp_all [refB]), (Below.refl _ _).alloc (Nat.le_refl _) _⟩
end Go.Proofs.Ytccfgnnfibblkaa
