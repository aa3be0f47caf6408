/- What the laws of layer 12 begin with. -/
import Derived.Test.YtlmijnaimdknnaaPlcAwake
import Derived.Test.YtlmijnaimdknnaaPlcMay
import Derived.Test.YtlmijnaimdknnaaPlcApartM
namespace Go.Proofs.Ytlmijnaimdknnaa
open Go.ChangeShapes Go.WideShapes Go.ChangeAt Go.RowKit
set_option linter.unusedVariables false
set_option linter.unusedSimpArgs false
/-- A program in memory, opened: its value, its cells' places. -/
theorem IsP.open {w : World} {v : Value} {p : ProgZ} (h : IsP w v p) : ∃ fa fc da dc, v = .agg #[.slice fa p.codes.length fc, .slice da p.datas.length dc, .int .i64 p.entry] ∧
    (∀ k, k < p.codes.length → ∃ b off x, fa = some ⟨b, off, none⟩ ∧ Any8 b ∧ p.codes[k]? = some x ∧ PfAt w b (off + k * 5) x) ∧ (∀ k, k < p.datas.length → ∃ b off x, da = some ⟨b, off, none⟩ ∧ Any8 b ∧ p.datas[k]? = some x ∧ PdAt w b (off + k * 5) x) := by
  obtain ⟨vf, vd, rfl, hf, hd⟩ := h
  obtain ⟨fa, fc, rfl, -, -, fx⟩ := LstA.open hf
  obtain ⟨da, dc, rfl, -, -, dx⟩ := LstA.open hd
  exact ⟨fa, fc, da, dc, rfl, fx, dx⟩
/-- A plan that there is, opened. -/
theorem PlanPost.open {base : Nat} {p : ProgZ} {o : List Int} {e : Ending} {w : World} (h : PlanPost base (planZ p o) e w) : ∃ a n c b m d x y z er, e = .returned (.tuple #[.agg #[.slice a n c, .slice b m d, .int .i64 x, .int .i64 y, .int .i64 z], .int .i64 er]) ∧ er = (planZ p o).1 ∧ IsPlan base w (.agg #[.slice a n c, .slice b m d, .int .i64 x, .int .i64 y, .int .i64 z]) (planZ p o).2 := by
  obtain ⟨v, rfl, hp⟩ := h
  have hp0 := hp
  obtain ⟨vc, vd, rfl, hc, hd, -⟩ := hp
  obtain ⟨a, c, rfl, -, -, -⟩ := LstA.open hc.isNums
  obtain ⟨b, d, rfl, -, -, -⟩ := LstA.open hd.isNums
  exact ⟨_, _, _, _, _, _, _, _, _, _, rfl, rfl, hp0⟩
/-- An answer, opened. -/
theorem post_open {base : Nat} {R : Int × PlanZ} {e : Ending} {w : World} (h : PlanPost base R e w) : ∃ a n c b m d x y z, e = .returned (.tuple #[.agg #[.slice a n c, .slice b m d, .int .i64 x, .int .i64 y, .int .i64 z], .int .i64 R.1]) ∧ IsPlan base w (.agg #[.slice a n c, .slice b m d, .int .i64 x, .int .i64 y, .int .i64 z]) R.2 := by
  obtain ⟨v, rfl, hp⟩ := h
  have hp0 := hp
  obtain ⟨vc, vd, rfl, hc, hd, -⟩ := hp
  obtain ⟨a, c, rfl, -, -, -⟩ := LstA.open hc.isNums
  obtain ⟨b, d, rfl, -, -, -⟩ := LstA.open hd.isNums
  exact ⟨_, _, _, _, _, _, _, _, _, rfl, hp0⟩
theorem row_get {base : Nat} {w : World} {a : Option Addr} {n c : Nat} {l : List Int} (h : RowI base w (.slice a n c) l) : n = l.length ∧ (0 < n → ∃ g, a = some ⟨g, 0, none⟩ ∧ c = n ∧ base ≤ g ∧ g < w.heap.size ∧ XAt w g (nums l)) := by
  rcases h with ⟨h, rfl⟩ | ⟨g, h, h1, h2, h3, h4⟩
  · simp only [Value.slice.injEq] at h
    obtain ⟨-, rfl, -⟩ := h
    exact ⟨rfl, fun h => by omega⟩
  · simp only [Value.slice.injEq] at h
    obtain ⟨rfl, rfl, rfl⟩ := h
    exact ⟨rfl, fun _ => ⟨g, rfl, rfl, h1, h2, h3⟩⟩
theorem row_cell {base : Nat} {w : World} {a : Option Addr} {n c : Nat} {l : List Int} (h : RowI base w (.slice a n c) l) : n = l.length ∧ ∀ k, k < n → ∃ g x, a = some ⟨g, 0, none⟩ ∧ l[k]? = some x ∧ w.cell? ⟨g, k, none⟩ = some (.int .i64 x) := by
  obtain ⟨h1, h2⟩ := row_get h
  refine ⟨h1, fun k hk => ?_⟩
  obtain ⟨g, e, -, -, -, hx⟩ := h2 (by omega)
  obtain ⟨x, hx2⟩ := get_some (l := l) (k := k) (by omega)
  exact ⟨g, x, e, hx2, hx.1 k _ (nums_get hx2)⟩
end Go.Proofs.Ytlmijnaimdknnaa
