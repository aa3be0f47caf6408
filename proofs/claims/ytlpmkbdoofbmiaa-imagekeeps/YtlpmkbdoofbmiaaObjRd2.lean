/- Counts and names, taken by the document's reader. -/
import Derived.Test.YtlpmkbdoofbmiaaObjRd
namespace Go.Proofs.Ytlpmkbdoofbmiaa
open Go.ChangeShapes Go.WideShapes Go.ChangeAt Go.RowKit
set_option linter.unusedVariables false
set_option linter.unusedSimpArgs false
theorem Rd.code {B Z : Nat} {w : World} {g : Nat} {s : St} (h : Rd B Z w g s) : (∃ b, s = .good b ∧ w.cell? ⟨g, 2, none⟩ = some (.int .i64 0)) ∨ (∃ e, s = .bad e ∧ w.cell? ⟨g, 2, none⟩ = some (.int .i64 e) ∧ (e == 0) = false) := by
  obtain ⟨a, c, i, F, er, ⟨h0, h1, h2⟩, _, _, _, _, hs⟩ := h
  cases s with
  | good b => obtain ⟨rfl, _⟩ := hs; exact .inl ⟨b, rfl, h2⟩
  | bad e => obtain ⟨rfl, he⟩ := hs; exact .inr ⟨_, rfl, h2, by rcases he with rfl | rfl <;> rfl⟩
theorem Apart.same {O : Nat → Prop} {w w1 w2 : World} (h1 : Apart O w w1) (h2 : Apart O w1 w2) : Apart O w w2 := h1.trans h2 fun _ h => .inl h
end Go.Proofs.Ytlpmkbdoofbmiaa
