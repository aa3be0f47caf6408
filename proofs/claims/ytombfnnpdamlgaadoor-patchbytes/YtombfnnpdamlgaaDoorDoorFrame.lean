/- What the laid table's datum gives the walks of a seat whose code reads it, and its witness. -/
import Derived.Test.YtombfnnpdamlgaaDoorCode
import Derived.Test.YtombfnnpdamlgaaDoorFrame
import Derived.Test.YtombfnnpdamlgaaDoorTie
import Derived.Test.YtombfnnpdamlgaaDoorCards
import Derived.LaidMore
import Derived.OpenShut
import Derived.ShutString
import Derived.ChangeOld
import Derived.Stop.Joined
import Derived.Deep.Strs
import Derived.Lib.SmallJoins
import Derived.SevenTiedAt
namespace Go.Proofs.YtombfnnpdamlgaaDoor
open Go.ChangeShapes Go.WideShapes Go.ChangeAt Go.RowKit Go.Deep
set_option linter.unusedVariables false

def laidL : List (String × DataW Unit) := [("splice/code.shapes", Rows.laid_splice_code_shapes)]
theorem gShapes : Tryd.prog.globalNamed "splice/code.shapes" = some 0 := by kernel_rfl
theorem tShapes : (Tryd.prog.globals[0]?).map (·.type) = some 91 := by kernel_rfl

/-- The door's own heap meets the condition: three closed facts. -/
theorem door_met (os : Os) (args : Array Value) : laidMetH Tryd.prog laidL ((World.doorLaid Tryd.prog 40 os).forCall (fun _ _ => 0) ⟨#[], args, []⟩).memory :=
  laidMetH_of_parts3 (fuel := 8) (laidMet_of_run' 8 (by kernel_rfl) (by kernel_rfl)) (by kernel_rfl) (by kernel_rfl)

def rowD (k : Nat) : DataW Unit := .agg [.lit (.int .i64 (regsOf k)), .lit (.int .i64 (widthOf k)), .lit (.bool (signedOf k))]
theorem laid_rows : (Rows.laid_splice_code_shapes : DataW Unit) = .agg ((List.range 26).map rowD) := by kernel_rfl
theorem c3' : Tryd.prog.cellsOf 3 = 1 := by kernel_rfl
theorem c48 : Tryd.prog.cellsOf 90 = 3 := by kernel_rfl
theorem c4' : Tryd.prog.cellsOf 4 = 1 := by kernel_rfl

theorem tab_of {W : World} (h : laidMetH Tryd.prog laidL W) : Tab W := by
  unfold laidL at h
  rw [MakeChecks.laidMetH_plain _ _ _ (by kernel_rfl)] at h
  obtain ⟨ps, ⟨g0, t0, cs0, f0, p0, q0, hg0, ht0, hv0, hd0, _, _⟩, _, _⟩ := h
  obtain rfl := Option.some.inj (gShapes.symm.trans hg0)
  obtain rfl := Option.some.inj (tShapes.symm.trans ht0)
  rw [laid_rows] at hd0
  obtain ⟨xs, m, rfl, hx, hlen, hn, hel⟩ := DataW.trod_array Tryd.underlying91 hd0
  simp only [Prod.mk.injEq, DataW.agg.injEq] at hx
  intro k hk
  have hxk : (xs.map (·.1))[k]? = some (rowD k) := by rw [← hx.1]; simp [hk]
  have hk' := hel k hk
  rw [c48] at hk'
  obtain ⟨y, hy, hyd⟩ : ∃ y, xs[k]? = some y ∧ y.1 = rowD k := by
    rw [List.getElem?_map, Option.map_eq_some_iff] at hxk
    obtain ⟨y, h1, h2⟩ := hxk; exact ⟨y, h1, h2⟩
  rw [hy] at hk'
  obtain ⟨y0, y1, y2, n, hy', _, r0, r1, r2⟩ := trod_struct3 Tryd.underlying90 hk'
  rw [hy'] at hyd
  simp only [rowD, DataW.agg.injEq, List.cons.injEq, and_true] at hyd
  obtain ⟨d0, d1, d2⟩ := hyd
  obtain ⟨a0, e0, v0, _⟩ := DataW.trod_int Tryd.underlying3 r0
  obtain ⟨a1, e1, v1, _⟩ := DataW.trod_int Tryd.underlying3 r1
  obtain ⟨a2, e2, v2⟩ := DataW.trod_bool Tryd.underlying4 r2
  rw [v0] at d0; rw [v1] at d1; rw [v2] at d2
  simp only [DataW.lit.injEq, Lit.int.injEq, Lit.bool.injEq, true_and] at d0 d1 d2
  subst d0 d1 d2
  simp only [c3', c4'] at e0 e1 e2
  have g0 := congrArg (·[0]?) e0
  have g1 := congrArg (·[0]?) e1
  have g2 := congrArg (·[0]?) e2
  simp at g0 g1 g2
  have q0 := World.var?_cell hg0 hv0 (k * 3)
  have q1 := World.var?_cell hg0 hv0 (k * 3 + 1)
  have q2 := World.var?_cell hg0 hv0 (k * 3 + 2)
  refine ⟨?_, ?_, ?_⟩
  · rw [q0]; exact g0
  · rw [q1]; exact g1
  · rw [q2]; exact g2

end Go.Proofs.YtombfnnpdamlgaaDoor
