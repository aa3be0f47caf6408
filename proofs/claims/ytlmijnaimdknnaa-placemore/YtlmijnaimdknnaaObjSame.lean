/- Are lists alike, are objects? As the document says it. -/
import Derived.Test.YtlmijnaimdknnaaObjFew
import Derived.Test.YtlmijnaimdknnaaStateCmp
import Derived.Laws.Strings
namespace Go.Proofs.Ytlmijnaimdknnaa
open Go.ChangeShapes Go.WideShapes Go.ChangeAt Go.RowKit
set_option linter.unusedVariables false
set_option linter.unusedSimpArgs false
theorem Says.yes {e : Ending} {P : Prop} (h : Says e P) (hp : P) : e = .returned (.bool true) := by
  obtain ⟨b, rfl, hb⟩ := h
  rw [hb.mpr hp]
theorem Says.no {e : Ending} {P : Prop} (h : Says e P) (hp : ¬ P) : e = .returned (.bool false) := by
  obtain ⟨b, rfl, hb⟩ := h
  cases b
  · rfl
  · exact absurd (hb.mp rfl) hp
theorem says_of {b : Bool} {P : Prop} (hb : b = true ↔ P) : Says (.returned (.bool b)) P := ⟨b, rfl, hb⟩
theorem str_beq (s t : ByteArray) : (s.toList == t.toList) = true ↔ s = t := by
  rw [beq_iff_eq, ByteArray.toList_eq, ByteArray.toList_eq]
  constructor
  · intro h
    cases s; cases t
    congr
    exact Array.toList_inj.mp h
  · rintro rfl; rfl
theorem str_ne {s t : ByteArray} (h : ¬ s = t) : (s.toList == t.toList) = false := by
  cases hb : (s.toList == t.toList)
  · rfl
  · exact absurd ((str_beq s t).mp hb) h
theorem list_len_ne {α : Type} {a b : List α} (h : a.length ≠ b.length) : ¬ a = b := fun e => h (by rw [e])
/-- Two lists that are alike up to k, and there not. -/
theorem list_at_ne {α : Type} {a b : List α} {k : Nat} {x y : α} (hx : a[k]? = some x) (hy : b[k]? = some y) (h : ¬ x = y) : ¬ a = b := fun e => by
  rw [e, hy] at hx; cases hx; exact h rfl
theorem list_upto {α : Type} {a b : List α} {n : Nat} (ha : a.length = n) (hb : b.length = n) (h : ∀ j, j < n → a[j]? = b[j]?) : a = b := by
  refine List.ext_getElem? fun j => ?_
  rcases Nat.lt_or_ge j n with h1 | h1
  · exact h j h1
  · rw [List.getElem?_eq_none (by omega), List.getElem?_eq_none (by omega)]
theorem same_next {α : Type} {a b : List α} {k : Nat} {x y : α} (h : ∀ j, j < k → a[j]? = b[j]?) (hx : a[k]? = some x) (hy : b[k]? = some y) (e : x = y) : ∀ j, j < k + 1 → a[j]? = b[j]? := fun j hj => by
  rcases (by omega : j < k ∨ j = k) with h1 | rfl
  · exact h j h1
  · rw [hx, hy, e]
end Go.Proofs.Ytlmijnaimdknnaa
