/- What each function of layer 2 returns: one contract a function. -/
import Derived.Test.YtgcifbamfdahdaaCalls
import Derived.Test.YtgcifbamfdahdaaCodeMath
import Derived.Deep.RegionWith
import Derived.WalkSmall
namespace Go.Proofs.Ytgcifbamfdahdaa
open Go.ChangeShapes Go.WideShapes Go.ChangeAt Go.RowKit
set_option linter.unusedVariables false

/-- The table of what operations have, as it lies in the program's first variable. -/
def Tab (w : World) : Prop := ∀ k : Nat, k < 26 → w.cell? ⟨0, k * 3, none⟩ = some (.int .i64 (regsOf k)) ∧ w.cell? ⟨0, k * 3 + 1, none⟩ = some (.int .i64 (widthOf k)) ∧ w.cell? ⟨0, k * 3 + 2, none⟩ = some (.bool (signedOf k))
theorem Tab.size {w : World} (h : Tab w) : 0 < w.heap.size := World.block_lt_of_cell? _ _ (h 0 (by omega)).1
theorem Tab.later {w w' : World} (h : Tab w) (hb : Below w.heap.size w w') : Tab w' := fun k hk => ⟨cell_later hb (h k hk).1, cell_later hb (h k hk).2.1, cell_later hb (h k hk).2.2⟩

