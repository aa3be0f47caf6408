/- When a state is right, and small: exactly, as the document's own answer for layer 6 says. -/
import Derived.Test.YtnpejnjigaalfaaDoorStateSame
import Derived.Deep.Cut
import Derived.Deep.MidRow
namespace Go.Proofs.YtnpejnjigaalfaaDoor
open Go.ChangeShapes Go.WideShapes Go.ChangeAt Go.RowKit
set_option linter.unusedVariables false

theorem at_range {w : World} {k : Nat} {cs : Array Value} (h : At w k cs) : w.rangeAt k 0 cs.toList := fun j v hv => by rw [Nat.zero_add]; exact h j v (by simpa using hv)
/-- May a state be? -/
def rightS (at1 : Int) (r0 : Int) (bn1 : Nat) (bf1 : Nat → Int) : Bool := decide (r0 = 0 ∧ 0 ≤ at1 ∧ at1 ≤ 1073741824 ∧ ∀ i, i < bn1 → 0 ≤ bf1 i ∧ bf1 i ≤ 1073741824)
/-- Right, and small? -/
def fewS (at1 : Int) (r0 : Int) (bn1 mn1 in1 on1 : Nat) (bf1 : Nat → Int) : Bool := rightS at1 r0 bn1 bf1 && decide ((bn1 : Int) ≤ 100) && decide ((mn1 : Int) ≤ 2000) && decide ((in1 : Int) ≤ 500) && decide ((on1 : Int) ≤ 5000)
theorem few_facts {at1 r0 : Int} {bn1 mn1 in1 on1 : Nat} {bf1 : Nat → Int} (h : fewS at1 r0 bn1 mn1 in1 on1 bf1 = true) : r0 = 0 ∧ 0 ≤ at1 ∧ at1 ≤ 1073741824 ∧ (∀ i, i < bn1 → 0 ≤ bf1 i ∧ bf1 i ≤ 1073741824) ∧ bn1 ≤ 100 ∧ mn1 ≤ 2000 ∧ in1 ≤ 500 ∧ on1 ≤ 5000 := by
  simp only [fewS, rightS, Bool.and_eq_true, decide_eq_true_eq] at h
  obtain ⟨⟨⟨⟨⟨h0, h1, h2, h3⟩, h4⟩, h5⟩, h6⟩, h7⟩ := h
  exact ⟨h0, h1, h2, h3, by omega, by omega, by omega, by omega⟩
end Go.Proofs.YtnpejnjigaalfaaDoor
