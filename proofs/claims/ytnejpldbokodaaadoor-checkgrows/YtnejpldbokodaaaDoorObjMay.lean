/- May an object be written? As the document says it. -/
import Derived.Test.YtnejpldbokodaaaDoorObjFew
import Derived.Test.YtnejpldbokodaaaDoorObjRef
namespace Go.Proofs.YtnejpldbokodaaaDoor
open Go.ChangeShapes Go.WideShapes Go.ChangeAt Go.RowKit
set_option linter.unusedVariables false
set_option linter.unusedSimpArgs false
def relsOk (l : List RelM) : Prop := l.length ≤ 64 ∧ ∀ r ∈ l, relOk r
theorem Says.yes' {e : Ending} {P : Prop} (h : Says e P) (hp : P) : e = .returned (.bool true) := by
  obtain ⟨b, rfl, hb⟩ := h
  rw [hb.mpr hp]
theorem Says.no' {e : Ending} {P : Prop} (h : Says e P) (hp : ¬ P) : e = .returned (.bool false) := by
  obtain ⟨b, rfl, hb⟩ := h
  cases b
  · rfl
  · exact absurd (hb.mp rfl) hp
theorem not_all {α : Type} {P : α → Prop} {l : List α} {k : Nat} {x : α} (hx : l[k]? = some x) (h : ¬ P x) : ¬ ∀ y ∈ l, P y := fun e => h (e x (List.mem_of_getElem? hx))
end Go.Proofs.YtnejpldbokodaaaDoor
