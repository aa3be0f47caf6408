/- What is asked of the code's own Write, Read and Same. -/
import Derived.Test.YtnejpldbokodaaaDoorObjApp
import Derived.Test.YtnejpldbokodaaaDoorObjSame
namespace Go.Proofs.YtnejpldbokodaaaDoor
open Go.ChangeShapes Go.WideShapes Go.ChangeAt Go.RowKit
theorem IsObj.open {A : Nat → Prop} {w : World} {u : Value} {p : ObjM} (h : IsObj A w u p) : ∃ fa fc da dc na nc, u = .agg #[.slice fa p.funcs.length fc, .slice da p.datas.length dc, .slice na p.notes.length nc] := by
  obtain ⟨vf, vd, vn, rfl, hf, hd, hn⟩ := h
  obtain ⟨fa, fc, rfl, -, -, -⟩ := LstA.open hf
  obtain ⟨da, dc, rfl, -, -, -⟩ := LstA.open hd
  obtain ⟨na, nc, rfl, -, -, -⟩ := LstA.open hn
  exact ⟨_, _, _, _, _, _, rfl⟩
/-- New blocks. -/
def Fresh (base : Nat) (w : World) : Nat → Prop := fun k => base ≤ k ∧ k < w.heap.size
/-- The data's bytes may be written to, and lie apart from the data. -/
def Loose (w : World) (u : Value) : Prop := ∀ vf vd vn, u = .agg #[vf, vd, vn] → ∀ b off n c, vd = .slice (some ⟨b, off, none⟩) n c → ∀ i, i < n → ∀ q o m cc, w.cell? ⟨b, off + i * 7 + 5, none⟩ = some (.slice (some ⟨q, o, none⟩) m cc) → q ≠ b ∧ ∀ j, j < m → w.frozen? ⟨q, o + j, none⟩ = false
/-- What Write answers. -/
def WritePost (w : World) (p : ObjM) (e : Ending) (w' : World) : Prop :=
  ((objOk p ∧ ∃ v', e = .returned (.tuple #[v', .int .i64 0]) ∧ OwnB w.heap.size w' v' (objW p)) ∨ (¬ objOk p ∧ ∃ a c, e = .returned (.tuple #[.slice a 0 c, .int .i64 4]))) ∧ Below w.heap.size w w'
/-- What Read answers. -/
def ReadPost (w : World) (l : Bs) (e : Ending) (w' : World) : Prop :=
  (∃ u, e = .returned (.tuple #[u, .int .i64 (readO l).2]) ∧ IsObj (Fresh w.heap.size w') w' u (readO l).1 ∧ Loose w' u) ∧ Below w.heap.size w w'
end Go.Proofs.YtnejpldbokodaaaDoor
