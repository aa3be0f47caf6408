/- Has an object few parts? As the document says it. -/
import Derived.Test.YtlmijnaimdknnaaObjKit
import Derived.BigQuiet
namespace Go.Proofs.Ytlmijnaimdknnaa
open Go.ChangeShapes Go.WideShapes Go.ChangeAt Go.RowKit
set_option linter.unusedVariables false
set_option linter.unusedSimpArgs false
def fewF (f : FuncM) : Prop := f.code.length ≤ 2100 ∧ f.rels.length ≤ 70 ∧ f.name.size ≤ 100
def fewD (d : DataM) : Prop := d.bytes.length ≤ 5000 ∧ d.rels.length ≤ 70 ∧ d.name.size ≤ 100
def fewO (o : ObjM) : Prop := (o.funcs.length ≤ 70 ∧ o.datas.length ≤ 70 ∧ o.notes.length ≤ 70) ∧ (∀ f ∈ o.funcs, fewF f) ∧ ∀ d ∈ o.datas, fewD d
theorem iff_no {P : Prop} (h : ¬ P) : (false = true ↔ P) := ⟨(fun e => by cases e), fun e => absurd e h⟩
theorem iff_yes {P : Prop} (h : P) : (true = true ↔ P) := ⟨fun _ => h, fun _ => rfl⟩
/-- The answer is whether it is so. -/
def Says (e : Ending) (P : Prop) : Prop := ∃ b, e = .returned (.bool b) ∧ (b = true ↔ P)
/-- All up to k, and the next one. -/
theorem upto_next {α : Type} {P : α → Prop} {l : List α} {k : Nat} {x : α} (h : ∀ j y, j < k → l[j]? = some y → P y) (hx : l[k]? = some x) (hp : P x) : ∀ j y, j < k + 1 → l[j]? = some y → P y := fun j y hj hy => by
  rcases (by omega : j < k ∨ j = k) with h1 | rfl
  · exact h j y h1 hy
  · rw [hx] at hy; cases hy; exact hp
theorem upto_all {α : Type} {P : α → Prop} {l : List α} (h : ∀ j y, j < l.length → l[j]? = some y → P y) : ∀ x ∈ l, P x := fun x hx => by
  obtain ⟨j, hj⟩ := List.mem_iff_getElem?.mp hx
  exact h j x ((List.getElem?_eq_some_iff.1 hj).1) hj
theorem LstA.open {α : Type} {sz : Nat} {el : Nat → Nat → α → Prop} {A : Nat → Prop} {v : Value} {l : List α} (h : LstA sz el A v l) : ∃ a c, v = .slice a l.length c ∧ l.length ≤ maxLen ∧ (Head a l.length c) ∧ ∀ k, k < l.length → ∃ b off x, a = some ⟨b, off, none⟩ ∧ A b ∧ l[k]? = some x ∧ el b (off + k * sz) x := by
  obtain ⟨a, c, e, ⟨hh, hc⟩, hA, hl⟩ := h
  refine ⟨a, c, e, Nat.le_trans hh.1 hc, hh, fun k hk => ?_⟩
  rcases hl with rfl | ⟨b, off, e, hx⟩
  · simp at hk
  · exact ⟨b, off, l[k], e, hA _ e, List.getElem?_eq_getElem hk, hx k _ (List.getElem?_eq_getElem hk)⟩
end Go.Proofs.Ytlmijnaimdknnaa
