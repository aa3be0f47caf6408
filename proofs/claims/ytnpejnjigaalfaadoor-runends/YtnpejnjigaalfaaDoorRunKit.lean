/- Traces' contents, and what the statements' own helpers of layer 7 answer. -/
import Derived.Test.YtnpejnjigaalfaaDoorRunSpec
import Derived.Test.YtnpejnjigaalfaaDoorRefNew
namespace Go.Proofs.YtnpejnjigaalfaaDoor
open Go.ChangeShapes Go.WideShapes Go.ChangeAt Go.RowKit
set_option linter.unusedVariables false
set_option linter.unusedSimpArgs false
/-- A trace's contents. -/
structure Tr where
  on_ : Nat
  of_ : Nat → Int
  en : Bool
  cd : Int
  ft : Int
  mn : Nat
  mf : Nat → Int
  st : Int
/-- A trace's value. -/
abbrev traceV (oa : Option Addr) (on oc : Nat) (en : Bool) (cd ft : Int) (ma : Option Addr) (mn mc : Nat) (st : Int) : Array Value := #[.slice oa on oc, .bool en, .int .u32 cd, .int .i64 ft, .slice ma mn mc, .int .i64 st]
/-- The value holds the trace. -/
def IsTr (w : World) (v : Value) (t : Tr) : Prop :=
  ∃ oa oc ma mc, v = .agg (traceV oa t.on_ oc t.en t.cd t.ft ma t.mn mc t.st) ∧ (Head oa t.on_ oc ∧ Bytes w oa t.on_ t.of_) ∧ (Head ma t.mn mc ∧ Bytes w ma t.mn t.mf)
theorem IsTr.later {w w' : World} {v : Value} {t : Tr} (h : IsTr w v t) (hb : Below w.heap.size w w') : IsTr w' v t := by
  obtain ⟨oa, oc, ma, mc, e, ⟨o1, o2⟩, m1, m2⟩ := h
  exact ⟨oa, oc, ma, mc, e, ⟨o1, o2.later hb⟩, m1, m2.later hb⟩
/-- Are they alike, but for their steps? -/
def alikeZ (s t : Tr) : Bool := eqB s.on_ t.on_ s.of_ t.of_ && (s.en == t.en) && (s.cd == t.cd) && (s.ft == t.ft) && eqB s.mn t.mn s.mf t.mf
/-- A state's trace. -/
def trZ (s : St) (k : Int) : Tr := { on_ := s.on_, of_ := s.of_, en := s.en, cd := s.cd, ft := s.ft, mn := s.mn, mf := s.mf, st := k }
theorem alike_self (t : Tr) : alikeZ t t = true := by simp [alikeZ, eqB_self]
theorem trace_info : (Tryd.prog.info? 30).map (·.size) = some 6 := by kernel_rfl
/-- May the image be, and is it small? -/
def fineZ (en wt mo : Int) (dn cn : Nat) : Bool := decide (0 ≤ en ∧ 0 ≤ wt ∧ 0 ≤ mo ∧ en ≤ 1048576 ∧ wt ≤ 1048576 ∧ mo ≤ 500 ∧ dn ≤ 500 ∧ cn ≤ 500)
set_option maxRecDepth 100000 in
set_option maxHeartbeats 2000000 in
theorem fine_st (w : World) (ca : Option Addr) (cn cc : Nat) (en : Int) (da : Option Addr) (dn dc : Nat) (wt mo : Int) :
    Calls Tryd.prog 9 #[.agg (imageV ca cn cc en da dn dc wt mo)] w fun e w' => e = .returned (.bool (fineZ en wt mo dn cn)) ∧ Below w.heap.size w w' := by
  have HA : Hid (Below w.heap.size w (w.alloc (.cells (imageV ca cn cc en da dn dc wt mo) 25))) := (Below.refl _ w).alloc (Nat.le_refl _) _
  have X0 : Hid (∀ j v, (imageV ca cn cc en da dn dc wt mo)[j]? = some v → (w.alloc (.cells (imageV ca cn cc en da dn dc wt mo) 25)).cell? ⟨w.heap.size, j, none⟩ = some v) := fun j v h => new_cell' w _ _ j v h
  obtain ⟨b, eb⟩ : ∃ b, fineZ en wt mo dn cn = b := ⟨_, rfl⟩
  rw [eb]
  have EB : Hid (fineZ en wt mo dn cn = b) := eb
  clear eb
  go_enter Tryd.func9, Tryd.ntmps9
  go_upto_region 1 with fail
  generalize w.alloc (.cells (imageV ca cn cc en da dn dc wt mo) 25) = w0 at HA X0 ⊢
  have x0 : w0.cell? ⟨w.heap.size, 0, none⟩ = some (.slice ca cn cc) := X0.out 0 _ rfl
  have x1 : w0.cell? ⟨w.heap.size, 1, none⟩ = some (.int .i64 en) := X0.out 1 _ rfl
  have x2 : w0.cell? ⟨w.heap.size, 2, none⟩ = some (.slice da dn dc) := X0.out 2 _ rfl
  have x3 : w0.cell? ⟨w.heap.size, 3, none⟩ = some (.int .i64 wt) := X0.out 3 _ rfl
  have x4 : w0.cell? ⟨w.heap.size, 4, none⟩ = some (.int .i64 mo) := X0.out 4 _ rfl
  clear X0
  go_wp2
  all_goals
    go_ret
    refine ⟨ret_bool ?_, HA.out⟩
    rw [← EB.out]
    unfold fineZ
    first
    | (symm; rw [decide_eq_false_iff_not]; omega)
    | (symm; rw [decide_eq_true_eq]; omega)
    | (rw [decide_eq_decide]; omega)
theorem fuel_any (x : Int) (w : World) : Calls Tryd.prog 12 #[.int .i64 x] w fun e w' => e = .returned (.int .i64 (x.toNat : Int)) ∧ w' = w := by
  by_cases h : x < 0
  · have e : (x.toNat : Int) = 0 := by omega
    rw [e]
    go_enter Tryd.func12, Tryd.ntmps12
    go_wp2
    go_ret
    exact ⟨rfl, rfl⟩
  · have e : (x.toNat : Int) = x := by omega
    rw [e]
    go_enter Tryd.func12, Tryd.ntmps12
    go_wp2
    go_ret
    exact ⟨rfl, rfl⟩
end Go.Proofs.YtnpejnjigaalfaaDoor
