/- What the laid table's datum gives the walks, the witness, and how an instruction that came in is opened. -/
import Derived.Test.YtidfdhghgjdihaaDoorCodeAwake
import Derived.Test.YtidfdhghgjdihaaDoorTie
import Derived.Test.YtidfdhghgjdihaaDoorCards
import Derived.LaidMore
import Derived.OpenShut
import Derived.ShutString
import Derived.ChangeOld
import Derived.Stop.Joined
import Derived.Deep.Strs
import Derived.Lib.SmallJoins
import Derived.SevenTiedAt
namespace Go.Proofs.YtidfdhghgjdihaaDoor
open Go.ChangeShapes Go.WideShapes Go.ChangeAt Go.RowKit Go.Deep
set_option linter.unusedVariables false

theorem own : ownKnob Tryd.prog.godebug = none := by kernel_rfl
theorem laidOut : laidOutB Tryd.prog = true := by kernel_rfl
def laidL : List (String × DataW Unit) := [("splice/code.shapes", Rows.laid_splice_code_shapes)]
theorem gShapes : Tryd.prog.globalNamed "splice/code.shapes" = some 0 := by kernel_rfl
theorem tShapes : (Tryd.prog.globals[0]?).map (·.type) = some 49 := by kernel_rfl

/-- The door's own heap meets the condition: three closed facts. -/
theorem door_met (os : Os) (args : Array Value) : laidMetH Tryd.prog laidL ((World.doorLaid Tryd.prog 40 os).forCall (fun _ _ => 0) ⟨#[], args, []⟩).memory :=
  laidMetH_of_parts3 (fuel := 8) (laidMet_of_run' 8 (by kernel_rfl) (by kernel_rfl)) (by kernel_rfl) (by kernel_rfl)

def rowD (k : Nat) : DataW Unit := .agg [.lit (.int .i64 (regsOf k)), .lit (.int .i64 (widthOf k)), .lit (.bool (signedOf k))]
theorem laid_rows : (Rows.laid_splice_code_shapes : DataW Unit) = .agg ((List.range 26).map rowD) := by kernel_rfl
theorem c48 : Tryd.prog.cellsOf 48 = 3 := by kernel_rfl
theorem c3 : Tryd.prog.cellsOf 3 = 1 := by kernel_rfl
theorem c4 : Tryd.prog.cellsOf 4 = 1 := by kernel_rfl

theorem tab_of {W : World} (h : laidMetH Tryd.prog laidL W) : Tab W := by
  unfold laidL at h
  rw [MakeChecks.laidMetH_plain _ _ _ (by kernel_rfl)] at h
  obtain ⟨ps, ⟨g0, t0, cs0, f0, p0, q0, hg0, ht0, hv0, hd0, _, _⟩, _, _⟩ := h
  obtain rfl := Option.some.inj (gShapes.symm.trans hg0)
  obtain rfl := Option.some.inj (tShapes.symm.trans ht0)
  rw [laid_rows] at hd0
  obtain ⟨xs, m, rfl, hx, hlen, hn, hel⟩ := DataW.trod_array Tryd.underlying49 hd0
  simp only [Prod.mk.injEq, DataW.agg.injEq] at hx
  intro k hk
  have hxk : (xs.map (·.1))[k]? = some (rowD k) := by rw [← hx.1]; simp [hk]
  have hk' := hel k hk
  rw [c48] at hk'
  obtain ⟨y, hy, hyd⟩ : ∃ y, xs[k]? = some y ∧ y.1 = rowD k := by
    rw [List.getElem?_map, Option.map_eq_some_iff] at hxk
    obtain ⟨y, h1, h2⟩ := hxk; exact ⟨y, h1, h2⟩
  rw [hy] at hk'
  obtain ⟨y0, y1, y2, n, hy', _, r0, r1, r2⟩ := trod_struct3 Tryd.underlying48 hk'
  rw [hy'] at hyd
  simp only [rowD, DataW.agg.injEq, List.cons.injEq, and_true] at hyd
  obtain ⟨d0, d1, d2⟩ := hyd
  obtain ⟨a0, e0, v0, _⟩ := DataW.trod_int Tryd.underlying3 r0
  obtain ⟨a1, e1, v1, _⟩ := DataW.trod_int Tryd.underlying3 r1
  obtain ⟨a2, e2, v2⟩ := DataW.trod_bool Tryd.underlying4 r2
  rw [v0] at d0; rw [v1] at d1; rw [v2] at d2
  simp only [DataW.lit.injEq, Lit.int.injEq, Lit.bool.injEq, true_and] at d0 d1 d2
  subst d0 d1 d2
  simp only [c3, c4] at e0 e1 e2
  have g0 := congrArg (·[0]?) e0
  have g1 := congrArg (·[0]?) e1
  have g2 := congrArg (·[0]?) e2
  simp at g0 g1 g2
  have q0 := World.var?_cell hg0 hv0 (k * 3)
  have q1 := World.var?_cell hg0 hv0 (k * 3 + 1)
  have q2 := World.var?_cell hg0 hv0 (k * 3 + 2)
  refine ⟨?_, ?_, ?_⟩
  · rw [q0]; exact g0
  · rw [q1]; exact g1
  · rw [q2]; exact g2

/-- An instruction that came in. -/
theorem open_ins {H : Type} {enc : TypeId × Value → H} {W : World} {r : Reach} {b0 base : Nat} {sp : Nat → Bool} {held : Bool} {v : Value} {d : DataW H} {p : List MemPlace}
    (hv : Value.okWide Tryd.prog W r b0 23 v) (h : DataW.Trod enc Tryd.prog W base sp held 23 v d p) :
    ∃ op a b c imm : Int, v = .agg (insV op a b c imm) ∧ ((Lit.int .i64 op).wf = true ∧ (Lit.int .i64 a).wf = true ∧ (Lit.int .i64 b).wf = true ∧ (Lit.int .i64 c).wf = true ∧ (Lit.int .i64 imm).wf = true) := by
  obtain ⟨cs, rfl, hsz⟩ := Go.WideShapes.okWide_struct Tryd.underlying23 hv
  obtain ⟨fuel, hf⟩ := h
  obtain ⟨xs, n, _, hx, hl, hlen, hfs⟩ := DataW.trod_struct Tryd.underlying23 hf
  have hc : Tryd.prog.cellsOf 23 = 5 := by kernel_rfl
  rw [hc] at hsz
  have hl5 : xs.length = 5 := hlen
  have key : ∀ (i : Nat) (f : Field), i < 5 → f.type = 3 → f.offset = i → (#[{ name := "Op", type := 3, offset := 0, embedded := false, tag := "", pkgPath := "", byteOffset := 0 }, { name := "A", type := 3, offset := 1, embedded := false, tag := "", pkgPath := "", byteOffset := 8 }, { name := "B", type := 3, offset := 2, embedded := false, tag := "", pkgPath := "", byteOffset := 16 }, { name := "C", type := 3, offset := 3, embedded := false, tag := "", pkgPath := "", byteOffset := 24 }, { name := "Imm", type := 3, offset := 4, embedded := false, tag := "", pkgPath := "", byteOffset := 32 }] : Array Field)[i]? = some f → ∃ x : Int, cs.toList[i]? = some (.int .i64 x) ∧ (Lit.int .i64 x).wf = true := by
    intro i f hi ht ho hf'
    have h1 := hfs i f hf'
    rw [ht, ho, c3, List.getElem?_eq_getElem (by omega)] at h1
    obtain ⟨x, e, _, w⟩ := DataW.trod_int Tryd.underlying3 h1
    have g := congrArg (·[0]?) e
    simp [Value.cells] at g
    exact ⟨x, by simpa using g, w⟩
  obtain ⟨x0, g0, w0⟩ := key 0 _ (by omega) rfl rfl rfl
  obtain ⟨x1, g1, w1⟩ := key 1 _ (by omega) rfl rfl rfl
  obtain ⟨x2, g2, w2⟩ := key 2 _ (by omega) rfl rfl rfl
  obtain ⟨x3, g3, w3⟩ := key 3 _ (by omega) rfl rfl rfl
  obtain ⟨x4, g4, w4⟩ := key 4 _ (by omega) rfl rfl rfl
  refine ⟨x0, x1, x2, x3, x4, ?_, w0, w1, w2, w3, w4⟩
  obtain ⟨l⟩ := cs
  have hl' : l.length = 5 := hsz
  match l, hl' with
  | [c0, c1, c2, c3, c4], _ =>
    simp at g0 g1 g2 g3 g4
    subst g0 g1 g2 g3 g4
    rfl

/-- An instruction's five cells stand at the head of a block. -/
def InsAt (w : World) (k : Nat) (op a b c imm : Int) : Prop :=
  w.cell? ⟨k, 0, none⟩ = some (.int .i64 op) ∧ w.cell? ⟨k, 1, none⟩ = some (.int .i64 a) ∧ w.cell? ⟨k, 2, none⟩ = some (.int .i64 b) ∧ w.cell? ⟨k, 3, none⟩ = some (.int .i64 c) ∧ w.cell? ⟨k, 4, none⟩ = some (.int .i64 imm)
theorem InsAt.later {w w' : World} {k : Nat} {op a b c imm : Int} (h : InsAt w k op a b c imm) (hb : Below w.heap.size w w') : InsAt w' k op a b c imm :=
  ⟨cell_later hb h.1, cell_later hb h.2.1, cell_later hb h.2.2.1, cell_later hb h.2.2.2.1, cell_later hb h.2.2.2.2⟩
theorem InsAt.new (w : World) (op a b c imm : Int) (t : TypeId) : InsAt (w.alloc (.cells (insV op a b c imm) t)) w.heap.size op a b c imm :=
  ⟨new_cell w _ _ 0 _ rfl, new_cell w _ _ 1 _ rfl, new_cell w _ _ 2 _ rfl, new_cell w _ _ 3 _ rfl, new_cell w _ _ 4 _ rfl⟩
end Go.Proofs.YtidfdhghgjdihaaDoor
