/- Names, and numbers of few bytes: in plain words. -/
import Derived.Test.YtlmijnaimdknnaaStateCmp
import Derived.Test.YtlmijnaimdknnaaSlices
import Derived.Test.YtlmijnaimdknnaaSliceLib
namespace Go.Proofs.Ytlmijnaimdknnaa
open Go.ChangeShapes Go.WideShapes Go.ChangeAt Go.RowKit
set_option linter.unusedVariables false
set_option linter.unusedSimpArgs false
/-- May the byte stand in a name? -/
def letterB (c : Int) : Bool := decide (97 ≤ c ∧ c ≤ 122 ∨ 65 ≤ c ∧ c ≤ 90 ∨ 48 ≤ c ∧ c ≤ 57 ∨ c = 95 ∨ c = 46)
/-- A text's byte. -/
def byteZ (s : ByteArray) (i : Nat) : Int := (s.data.getD i 0).toNat
/-- Is the text a name? -/
def namedB (s : ByteArray) : Bool := decide (1 ≤ s.size ∧ s.size ≤ 32 ∧ ∀ i, i < s.size → letterB (byteZ s i) = true)
theorem byteZ_bd (s : ByteArray) (i : Nat) : 0 ≤ byteZ s i ∧ byteZ s i < 256 := by
  unfold byteZ
  have := (s.data.getD i 0).toNat_lt
  omega
theorem index_str {P : Program} (t : TypeId) (ht : P.underlying t = some .string) (s : ByteArray) (k : Nat) (W : World) (hk : k < s.size) : (Instr.index t (.string s) (.int .i64 k)).run P W = .ok (.int .u8 (byteZ s k)) W := by
  rw [run_index_string W t s .i64 k ht, dif_pos ⟨by omega, by omega⟩]
  unfold byteZ
  have hk' : k < s.data.size := hk
  have e : s.data.getD k 0 = s.data[k] := by rw [Array.getD_eq_getD_getElem?, Array.getElem?_eq_getElem hk']; rfl
  rw [e]
  rfl
end Go.Proofs.Ytlmijnaimdknnaa
