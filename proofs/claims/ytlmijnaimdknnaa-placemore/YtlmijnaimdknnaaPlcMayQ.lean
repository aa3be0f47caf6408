/- What may be, with one data more. -/
import Derived.Test.YtlmijnaimdknnaaPlcMath
namespace Go.Proofs.Ytlmijnaimdknnaa
/-- As MayZ, but one data more. -/
def MayQ (p : ProgZ) : Prop := p.codes.length ≤ 300 ∧ p.datas.length ≤ 301 ∧ (∀ n ∈ p.codes, n ≤ 70000) ∧ DatOk p.datas
theorem MayZ.q {p : ProgZ} (h : MayZ p) : MayQ p := ⟨h.1, by have := h.2.1; omega, h.2.2.1, h.2.2.2⟩
end Go.Proofs.Ytlmijnaimdknnaa
