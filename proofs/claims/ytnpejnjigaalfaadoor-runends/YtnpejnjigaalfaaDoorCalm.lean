/- A region that draws its order, whose own operations only read and whose callees keep what stood: walked once, in the order of the text, an operation a law. -/
import Derived.Test.YtnpejnjigaalfaaDoorStepSpec
import Derived.Deep.Quiet
import Derived.Deep.MidRow
import Derived.Deep.RegionHeld3
import Derived.Tactics
namespace Go.Proofs.YtnpejnjigaalfaaDoor
open Go.ChangeShapes Go.WideShapes Go.ChangeAt Go.RowKit
set_option linter.unusedVariables false
section
variable {P : Program} {ops : Array Oper} {C : World → Prop} {Q : Act → Prop} {a : Act} {o : Oper} {rest : List Oper}
theorem calm_want (hw : Region.wanted o (yielded ops a.tmps) = true) (v : Value) (h1 : ∀ W, C W → o.quietAt P a C W v) (h2 : wpQuiet P ops C Q rest (a.put o.dst v)) : wpQuiet P ops C Q (o :: rest) a := by
  unfold wpQuiet; rw [if_pos hw]; exact ⟨v, h1, h2⟩
theorem calm_skip (hw : Region.wanted o (yielded ops a.tmps) = false) (h2 : wpQuiet P ops C Q rest (a.put o.dst undef)) : wpQuiet P ops C Q (o :: rest) a := by
  unfold wpQuiet; rw [if_neg (by rw [hw]; decide)]; exact h2
theorem calm_move (hw : Region.wanted o (yielded ops a.tmps) = true) (x : Operand) (ho : o.op = .move x) (h2 : wpQuiet P ops C Q rest (a.put o.dst (a.eval x))) : wpQuiet P ops C Q (o :: rest) a :=
  calm_want hw _ (fun W _ => by unfold Oper.quietAt execOp; simp only [ho, Sem.run_pure]; exact ⟨rfl, rfl⟩) h2
theorem calm_assign (hw : Region.wanted o (yielded ops a.tmps) = true) (x : Operand) (ho : o.op = .assign x) (h2 : wpQuiet P ops C Q rest (a.put o.dst (a.eval x))) : wpQuiet P ops C Q (o :: rest) a :=
  calm_want hw _ (fun W _ => by unfold Oper.quietAt execOp; simp only [ho, Sem.run_pure]; exact ⟨rfl, rfl⟩) h2
theorem calm_load (hw : Region.wanted o (yielded ops a.tmps) = true) (ty : TypeId) (x : Operand) (ho : o.op = .load ty x) (b off : Nat) (hx : a.eval x = .pointer (some ⟨b, off, none⟩)) (cs : List Value) (d : TypeDesc)
    (hc : ∀ W, C W → W.rangeAt b off cs) (hu : P.underlying ty = some d) (hd : d.isRow = true) (hi : (P.info? ty).map (·.size) = some cs.length)
    (h2 : wpQuiet P ops C Q rest (a.put o.dst (.agg cs.toArray))) : wpQuiet P ops C Q (o :: rest) a :=
  calm_want hw _ (fun W hW => by
    unfold Oper.quietAt execOp
    simp only [ho, hx, Instr.loadAt, Instr.sureAddr, Sem.run_bind, Sem.run_pure, Result.andThen_ok, run_loadVar_mid W b off ty cs d (hc W hW) hu hd hi]
    exact ⟨rfl, rfl⟩) h2
theorem calm_region {id : Nat} {Q : Exit → Act → World → Prop} {w : World} {l : List Oper} (hm : P.follows .mixedOrders = true) (hB : Region.lexB .any l.toArray = true) (hC : C w.drew)
    (h : wpQuiet P l.toArray C (fun a' => ∀ w', C w' → Q .normal a' w') l a) : (Code.region id l.toArray true).wp P Q a w :=
  wp_region_quiet (C := C) hm hB hC (by simpa using h)
end
/-- A whole state's load, taken first in a region that draws. -/
theorem yields_st {ops : Array Oper} {S : World → Prop} {op : Oper} {a : Act} (hw : Region.wanted op (yielded ops a.tmps) = true) (x : Operand) (ho : op.op = .load 37 x) (b : Nat) (hx : a.eval x = .pointer (some ⟨b, 0, none⟩)) {w0 : World} {C : Array Value} {s : St} (hI : IsSt w0 (.agg C) s)
    (hS : ∀ w, S w → At w b C) : YieldsIf Tryd.prog ops S op (.agg C) a := by
  have h := yieldsIf_load_mid (P := Tryd.prog) (ops := ops) (S := S) (op := op) (a := a) hw 37 x ho b 0 hx C.toList _ (fun w h => at_range (hS w h)) Tryd.underlying37 rfl (st_info hI).2
  rwa [Array.toArray_toList] at h
end Go.Proofs.YtnpejnjigaalfaaDoor
