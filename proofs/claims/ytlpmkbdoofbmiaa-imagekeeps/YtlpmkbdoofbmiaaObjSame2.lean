/- Are objects alike? As the document says it. -/
import Derived.Test.YtlpmkbdoofbmiaaObjSame
namespace Go.Proofs.Ytlpmkbdoofbmiaa
open Go.ChangeShapes Go.WideShapes Go.ChangeAt Go.RowKit
set_option linter.unusedVariables false
set_option linter.unusedSimpArgs false
theorem rbytes_any {A A' : Nat → Prop} {w : World} {v v' : Value} {l m : Bs} (h1 : IsBytes A w v l) (h2 : IsBytes A' w v' m) :
    Calls Try.prog 11 #[v, v'] w fun e w' => Says e (l = m) ∧ Below w.heap.size w w' := by
  obtain ⟨a, c, rfl, ⟨hh, hc⟩, hb, -⟩ := h1.row
  obtain ⟨b, d, rfl, ⟨gh, gc⟩, gb, -⟩ := h2.row
  have l1 : l.length ≤ 9223372036854775807 := by have := hh.1; unfold maxLen at hc; omega
  have l2 : m.length ≤ 9223372036854775807 := by have := gh.1; unfold maxLen at gc; omega
  refine (bytes_eq w a b l.length m.length c d _ _ l1 l2 hb gb).mono ?_
  rintro e w' ⟨rfl, bel⟩
  refine ⟨says_of ?_, bel⟩
  unfold eqB
  rw [decide_eq_true_iff]
  constructor
  · rintro ⟨h1, h2⟩
    refine list_upto rfl h1.symm fun j hj => ?_
    rw [gF_get hj, gF_get (by omega : j < m.length), h2 j hj]
  · rintro rfl; exact ⟨rfl, fun _ _ => rfl⟩
end Go.Proofs.Ytlpmkbdoofbmiaa
