/- An instruction's kind, as the document's own answer says. -/
import Derived.Test.YtnejpldbokodaaaDoorCalls
import Derived.Test.YtnejpldbokodaaaDoorCodeMath
import Derived.Deep.RegionWith
namespace Go.Proofs.YtnejpldbokodaaaDoor
open Go.ChangeShapes Go.WideShapes Go.ChangeAt Go.RowKit
set_option linter.unusedVariables false

/-- 0 pure, 1 one that reaches out of the registers, 2 a branch, 3 a jump, 4 a call, 5 an end. -/
def kindZ (op : Int) : Int := if 1 ≤ op ∧ op ≤ 10 ∨ op = 24 then 0 else if 11 ≤ op ∧ op ≤ 14 ∨ op = 22 ∨ op = 23 then 1 else if 15 ≤ op ∧ op ≤ 18 then 2 else if op = 19 then 3 else if op = 20 then 4 else 5
theorem kind_cell (w : World) (cs : Array Value) (t : TypeId) (j : Nat) (u : Value) (h : cs[j]? = some u) : (w.alloc (.cells cs t)).cell? ⟨w.heap.size, j, none⟩ = some u := by
  simp [go_sem, h]
theorem ops26 {op : Int} (h0 : 0 ≤ op) (h1 : op < 26) : op = 0 ∨ op = 1 ∨ op = 2 ∨ op = 3 ∨ op = 4 ∨ op = 5 ∨ op = 6 ∨ op = 7 ∨ op = 8 ∨ op = 9 ∨ op = 10 ∨ op = 11 ∨ op = 12 ∨ op = 13 ∨ op = 14 ∨ op = 15 ∨ op = 16 ∨ op = 17 ∨ op = 18 ∨ op = 19 ∨ op = 20 ∨ op = 21 ∨ op = 22 ∨ op = 23 ∨ op = 24 ∨ op = 25 := by omega
set_option maxHeartbeats 4000000 in
theorem kind_any (op a b c imm : Int) (w : World) (h0 : 0 ≤ op) (h1 : op < 26) : Calls Tryd.prog 31 #[.agg #[.int .i64 op, .int .i64 a, .int .i64 b, .int .i64 c, .int .i64 imm]] w fun e w' => e = .returned (.int .i64 (kindZ op)) ∧ Below w.heap.size w w' := by
  rcases ops26 h0 h1 with rfl | rfl | rfl | rfl | rfl | rfl | rfl | rfl | rfl | rfl | rfl | rfl | rfl | rfl | rfl | rfl | rfl | rfl | rfl | rfl | rfl | rfl | rfl | rfl | rfl | rfl
  all_goals
    go_enter Tryd.func31, Tryd.ntmps31
    go_wp2
    go_ret
    exact ⟨rfl, (Below.refl _ _).alloc (Nat.le_refl _) _⟩
end Go.Proofs.YtnejpldbokodaaaDoor
