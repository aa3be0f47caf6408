/- When the document's own answer for layer 6 calls two states alike: exactly. -/
import Derived.Test.YtnpejnjigaalfaaDoorStateCmp
import Derived.Deep.Cut
namespace Go.Proofs.YtnpejnjigaalfaaDoor
open Go.ChangeShapes Go.WideShapes Go.ChangeAt Go.RowKit
set_option linter.unusedVariables false

/-- A block's first cells are these. -/
def At (w : World) (k : Nat) (cs : Array Value) : Prop := ∀ j v, cs[j]? = some v → w.cell? ⟨k, j, none⟩ = some v
theorem At.later {w w' : World} {k : Nat} {cs : Array Value} (h : At w k cs) (hb : Below w.heap.size w w') : At w' k cs := fun j v hv => cell_later' (h j v hv) hb
theorem At.new (w : World) (cs : Array Value) (t : TypeId) : At (w.alloc (.cells cs t)) w.heap.size cs := fun j v h => new_cell' w cs t j v h
theorem bnext' {a b c : World} (h : Below a.heap.size a b) (k : Below b.heap.size b c) : Below a.heap.size a c := bnext h k
/-- Two states are alike. -/
def sameS (at1 : Int) (r1 : Nat → Int) (ba1 : Option Addr) (bn1 bc1 : Nat) (bf1 : Nat → Int) (wt1 : Int) (ma1 : Option Addr) (mn1 mc1 : Nat) (mf1 : Nat → Int) (ia1 : Option Addr) (in1 ic1 : Nat) (if1 : Nat → Int) (oa1 : Option Addr) (on1 oc1 : Nat) (of1 : Nat → Int) (en1 : Bool) (cd1 ft1 : Int) (at2 : Int) (r2 : Nat → Int) (ba2 : Option Addr) (bn2 bc2 : Nat) (bf2 : Nat → Int) (wt2 : Int) (ma2 : Option Addr) (mn2 mc2 : Nat) (mf2 : Nat → Int) (ia2 : Option Addr) (in2 ic2 : Nat) (if2 : Nat → Int) (oa2 : Option Addr) (on2 oc2 : Nat) (of2 : Nat → Int) (en2 : Bool) (cd2 ft2 : Int) : Bool :=
  (at1 == at2) && regsB r1 r2 && eqB bn1 bn2 bf1 bf2 && (wt1 == wt2 && eqB mn1 mn2 mf1 mf2) && eqB in1 in2 if1 if2 && eqB on1 on2 of1 of2 && (en1 == en2) && (cd1 == cd2) && (ft1 == ft2)
set_option maxRecDepth 100000 in
set_option maxHeartbeats 8000000 in
theorem rsame6_any (w : World) (at1 : Int) (r1 : Nat → Int) (ba1 : Option Addr) (bn1 bc1 : Nat) (bf1 : Nat → Int) (wt1 : Int) (ma1 : Option Addr) (mn1 mc1 : Nat) (mf1 : Nat → Int) (ia1 : Option Addr) (in1 ic1 : Nat) (if1 : Nat → Int) (oa1 : Option Addr) (on1 oc1 : Nat) (of1 : Nat → Int) (en1 : Bool) (cd1 ft1 : Int) (at2 : Int) (r2 : Nat → Int) (ba2 : Option Addr) (bn2 bc2 : Nat) (bf2 : Nat → Int) (wt2 : Int) (ma2 : Option Addr) (mn2 mc2 : Nat) (mf2 : Nat → Int) (ia2 : Option Addr) (in2 ic2 : Nat) (if2 : Nat → Int) (oa2 : Option Addr) (on2 oc2 : Nat) (of2 : Nat → Int) (en2 : Bool) (cd2 ft2 : Int)
    (l1 : bn1 ≤ 9223372036854775807 ∧ mn1 ≤ 9223372036854775807 ∧ in1 ≤ 9223372036854775807 ∧ on1 ≤ 9223372036854775807) (l2 : bn2 ≤ 9223372036854775807 ∧ mn2 ≤ 9223372036854775807 ∧ in2 ≤ 9223372036854775807 ∧ on2 ≤ 9223372036854775807)
    (h1 : RowK .i64 w ba1 bn1 bf1 ∧ Bytes w ma1 mn1 mf1 ∧ Bytes w ia1 in1 if1 ∧ Bytes w oa1 on1 of1) (h2 : RowK .i64 w ba2 bn2 bf2 ∧ Bytes w ma2 mn2 mf2 ∧ Bytes w ia2 in2 if2 ∧ Bytes w oa2 on2 of2) :
    Calls Tryd.prog 16 #[stateV at1 r1 ba1 bn1 bc1 wt1 ma1 mn1 mc1 ia1 in1 ic1 oa1 on1 oc1 en1 cd1 ft1, stateV at2 r2 ba2 bn2 bc2 wt2 ma2 mn2 mc2 ia2 in2 ic2 oa2 on2 oc2 en2 cd2 ft2] w fun e w' => e = .returned (.bool (sameS at1 r1 ba1 bn1 bc1 bf1 wt1 ma1 mn1 mc1 mf1 ia1 in1 ic1 if1 oa1 on1 oc1 of1 en1 cd1 ft1 at2 r2 ba2 bn2 bc2 bf2 wt2 ma2 mn2 mc2 mf2 ia2 in2 ic2 if2 oa2 on2 oc2 of2 en2 cd2 ft2)) ∧ Below w.heap.size w w' := by
  have HA : Hid (Below w.heap.size w ((w.alloc (.cells (#[.int .i64 at1, .int .u32 (r1 0), .int .u32 (r1 1), .int .u32 (r1 2), .int .u32 (r1 3), .int .u32 (r1 4), .int .u32 (r1 5), .int .u32 (r1 6), .int .u32 (r1 7), .int .u32 (r1 8), .int .u32 (r1 9), .int .u32 (r1 10), .int .u32 (r1 11), .int .u32 (r1 12), .int .u32 (r1 13), .int .u32 (r1 14), .int .u32 (r1 15), .slice ba1 bn1 bc1, .int .i64 wt1, .slice ma1 mn1 mc1, .slice ia1 in1 ic1, .slice oa1 on1 oc1, .bool en1, .int .u32 cd1, .int .i64 ft1]) 37)).alloc (.cells (#[.int .i64 at2, .int .u32 (r2 0), .int .u32 (r2 1), .int .u32 (r2 2), .int .u32 (r2 3), .int .u32 (r2 4), .int .u32 (r2 5), .int .u32 (r2 6), .int .u32 (r2 7), .int .u32 (r2 8), .int .u32 (r2 9), .int .u32 (r2 10), .int .u32 (r2 11), .int .u32 (r2 12), .int .u32 (r2 13), .int .u32 (r2 14), .int .u32 (r2 15), .slice ba2 bn2 bc2, .int .i64 wt2, .slice ma2 mn2 mc2, .slice ia2 in2 ic2, .slice oa2 on2 oc2, .bool en2, .int .u32 cd2, .int .i64 ft2]) 37))) := ((Below.refl _ w).alloc (Nat.le_refl _) _).alloc (by simp) _
  have A1 : At ((w.alloc (.cells (#[.int .i64 at1, .int .u32 (r1 0), .int .u32 (r1 1), .int .u32 (r1 2), .int .u32 (r1 3), .int .u32 (r1 4), .int .u32 (r1 5), .int .u32 (r1 6), .int .u32 (r1 7), .int .u32 (r1 8), .int .u32 (r1 9), .int .u32 (r1 10), .int .u32 (r1 11), .int .u32 (r1 12), .int .u32 (r1 13), .int .u32 (r1 14), .int .u32 (r1 15), .slice ba1 bn1 bc1, .int .i64 wt1, .slice ma1 mn1 mc1, .slice ia1 in1 ic1, .slice oa1 on1 oc1, .bool en1, .int .u32 cd1, .int .i64 ft1]) 37)).alloc (.cells (#[.int .i64 at2, .int .u32 (r2 0), .int .u32 (r2 1), .int .u32 (r2 2), .int .u32 (r2 3), .int .u32 (r2 4), .int .u32 (r2 5), .int .u32 (r2 6), .int .u32 (r2 7), .int .u32 (r2 8), .int .u32 (r2 9), .int .u32 (r2 10), .int .u32 (r2 11), .int .u32 (r2 12), .int .u32 (r2 13), .int .u32 (r2 14), .int .u32 (r2 15), .slice ba2 bn2 bc2, .int .i64 wt2, .slice ma2 mn2 mc2, .slice ia2 in2 ic2, .slice oa2 on2 oc2, .bool en2, .int .u32 cd2, .int .i64 ft2]) 37)) w.heap.size (#[.int .i64 at1, .int .u32 (r1 0), .int .u32 (r1 1), .int .u32 (r1 2), .int .u32 (r1 3), .int .u32 (r1 4), .int .u32 (r1 5), .int .u32 (r1 6), .int .u32 (r1 7), .int .u32 (r1 8), .int .u32 (r1 9), .int .u32 (r1 10), .int .u32 (r1 11), .int .u32 (r1 12), .int .u32 (r1 13), .int .u32 (r1 14), .int .u32 (r1 15), .slice ba1 bn1 bc1, .int .i64 wt1, .slice ma1 mn1 mc1, .slice ia1 in1 ic1, .slice oa1 on1 oc1, .bool en1, .int .u32 cd1, .int .i64 ft1]) := (At.new w _ 37).later ((Below.refl _ _).alloc (Nat.le_refl _) _)
  have A2 : At ((w.alloc (.cells (#[.int .i64 at1, .int .u32 (r1 0), .int .u32 (r1 1), .int .u32 (r1 2), .int .u32 (r1 3), .int .u32 (r1 4), .int .u32 (r1 5), .int .u32 (r1 6), .int .u32 (r1 7), .int .u32 (r1 8), .int .u32 (r1 9), .int .u32 (r1 10), .int .u32 (r1 11), .int .u32 (r1 12), .int .u32 (r1 13), .int .u32 (r1 14), .int .u32 (r1 15), .slice ba1 bn1 bc1, .int .i64 wt1, .slice ma1 mn1 mc1, .slice ia1 in1 ic1, .slice oa1 on1 oc1, .bool en1, .int .u32 cd1, .int .i64 ft1]) 37)).alloc (.cells (#[.int .i64 at2, .int .u32 (r2 0), .int .u32 (r2 1), .int .u32 (r2 2), .int .u32 (r2 3), .int .u32 (r2 4), .int .u32 (r2 5), .int .u32 (r2 6), .int .u32 (r2 7), .int .u32 (r2 8), .int .u32 (r2 9), .int .u32 (r2 10), .int .u32 (r2 11), .int .u32 (r2 12), .int .u32 (r2 13), .int .u32 (r2 14), .int .u32 (r2 15), .slice ba2 bn2 bc2, .int .i64 wt2, .slice ma2 mn2 mc2, .slice ia2 in2 ic2, .slice oa2 on2 oc2, .bool en2, .int .u32 cd2, .int .i64 ft2]) 37)) (w.heap.size + 1) (#[.int .i64 at2, .int .u32 (r2 0), .int .u32 (r2 1), .int .u32 (r2 2), .int .u32 (r2 3), .int .u32 (r2 4), .int .u32 (r2 5), .int .u32 (r2 6), .int .u32 (r2 7), .int .u32 (r2 8), .int .u32 (r2 9), .int .u32 (r2 10), .int .u32 (r2 11), .int .u32 (r2 12), .int .u32 (r2 13), .int .u32 (r2 14), .int .u32 (r2 15), .slice ba2 bn2 bc2, .int .i64 wt2, .slice ma2 mn2 mc2, .slice ia2 in2 ic2, .slice oa2 on2 oc2, .bool en2, .int .u32 cd2, .int .i64 ft2]) := by
    have h := At.new (w.alloc (.cells (#[.int .i64 at1, .int .u32 (r1 0), .int .u32 (r1 1), .int .u32 (r1 2), .int .u32 (r1 3), .int .u32 (r1 4), .int .u32 (r1 5), .int .u32 (r1 6), .int .u32 (r1 7), .int .u32 (r1 8), .int .u32 (r1 9), .int .u32 (r1 10), .int .u32 (r1 11), .int .u32 (r1 12), .int .u32 (r1 13), .int .u32 (r1 14), .int .u32 (r1 15), .slice ba1 bn1 bc1, .int .i64 wt1, .slice ma1 mn1 mc1, .slice ia1 in1 ic1, .slice oa1 on1 oc1, .bool en1, .int .u32 cd1, .int .i64 ft1]) 37)) (#[.int .i64 at2, .int .u32 (r2 0), .int .u32 (r2 1), .int .u32 (r2 2), .int .u32 (r2 3), .int .u32 (r2 4), .int .u32 (r2 5), .int .u32 (r2 6), .int .u32 (r2 7), .int .u32 (r2 8), .int .u32 (r2 9), .int .u32 (r2 10), .int .u32 (r2 11), .int .u32 (r2 12), .int .u32 (r2 13), .int .u32 (r2 14), .int .u32 (r2 15), .slice ba2 bn2 bc2, .int .i64 wt2, .slice ma2 mn2 mc2, .slice ia2 in2 ic2, .slice oa2 on2 oc2, .bool en2, .int .u32 cd2, .int .i64 ft2]) 37
    rwa [show (w.alloc (.cells (#[.int .i64 at1, .int .u32 (r1 0), .int .u32 (r1 1), .int .u32 (r1 2), .int .u32 (r1 3), .int .u32 (r1 4), .int .u32 (r1 5), .int .u32 (r1 6), .int .u32 (r1 7), .int .u32 (r1 8), .int .u32 (r1 9), .int .u32 (r1 10), .int .u32 (r1 11), .int .u32 (r1 12), .int .u32 (r1 13), .int .u32 (r1 14), .int .u32 (r1 15), .slice ba1 bn1 bc1, .int .i64 wt1, .slice ma1 mn1 mc1, .slice ia1 in1 ic1, .slice oa1 on1 oc1, .bool en1, .int .u32 cd1, .int .i64 ft1]) 37)).heap.size = w.heap.size + 1 from by simp] at h
  have H2 : Hid (∀ W, Below ((w.alloc (.cells (#[.int .i64 at1, .int .u32 (r1 0), .int .u32 (r1 1), .int .u32 (r1 2), .int .u32 (r1 3), .int .u32 (r1 4), .int .u32 (r1 5), .int .u32 (r1 6), .int .u32 (r1 7), .int .u32 (r1 8), .int .u32 (r1 9), .int .u32 (r1 10), .int .u32 (r1 11), .int .u32 (r1 12), .int .u32 (r1 13), .int .u32 (r1 14), .int .u32 (r1 15), .slice ba1 bn1 bc1, .int .i64 wt1, .slice ma1 mn1 mc1, .slice ia1 in1 ic1, .slice oa1 on1 oc1, .bool en1, .int .u32 cd1, .int .i64 ft1]) 37)).alloc (.cells (#[.int .i64 at2, .int .u32 (r2 0), .int .u32 (r2 1), .int .u32 (r2 2), .int .u32 (r2 3), .int .u32 (r2 4), .int .u32 (r2 5), .int .u32 (r2 6), .int .u32 (r2 7), .int .u32 (r2 8), .int .u32 (r2 9), .int .u32 (r2 10), .int .u32 (r2 11), .int .u32 (r2 12), .int .u32 (r2 13), .int .u32 (r2 14), .int .u32 (r2 15), .slice ba2 bn2 bc2, .int .i64 wt2, .slice ma2 mn2 mc2, .slice ia2 in2 ic2, .slice oa2 on2 oc2, .bool en2, .int .u32 cd2, .int .i64 ft2]) 37)).heap.size ((w.alloc (.cells (#[.int .i64 at1, .int .u32 (r1 0), .int .u32 (r1 1), .int .u32 (r1 2), .int .u32 (r1 3), .int .u32 (r1 4), .int .u32 (r1 5), .int .u32 (r1 6), .int .u32 (r1 7), .int .u32 (r1 8), .int .u32 (r1 9), .int .u32 (r1 10), .int .u32 (r1 11), .int .u32 (r1 12), .int .u32 (r1 13), .int .u32 (r1 14), .int .u32 (r1 15), .slice ba1 bn1 bc1, .int .i64 wt1, .slice ma1 mn1 mc1, .slice ia1 in1 ic1, .slice oa1 on1 oc1, .bool en1, .int .u32 cd1, .int .i64 ft1]) 37)).alloc (.cells (#[.int .i64 at2, .int .u32 (r2 0), .int .u32 (r2 1), .int .u32 (r2 2), .int .u32 (r2 3), .int .u32 (r2 4), .int .u32 (r2 5), .int .u32 (r2 6), .int .u32 (r2 7), .int .u32 (r2 8), .int .u32 (r2 9), .int .u32 (r2 10), .int .u32 (r2 11), .int .u32 (r2 12), .int .u32 (r2 13), .int .u32 (r2 14), .int .u32 (r2 15), .slice ba2 bn2 bc2, .int .i64 wt2, .slice ma2 mn2 mc2, .slice ia2 in2 ic2, .slice oa2 on2 oc2, .bool en2, .int .u32 cd2, .int .i64 ft2]) 37)) W → Calls Tryd.prog 30 #[.slice ba1 bn1 bc1, .slice ba2 bn2 bc2] W fun e w' => e = .returned (.bool (eqB bn1 bn2 bf1 bf2)) ∧ Below W.heap.size W w') := fun W hW => ints_eq W ba1 ba2 bn1 bn2 bc1 bc2 bf1 bf2 l1.1 l2.1 ((h1.1.later HA.out).later hW) ((h2.1.later HA.out).later hW)
  have H3 : Hid (∀ W, Below ((w.alloc (.cells (#[.int .i64 at1, .int .u32 (r1 0), .int .u32 (r1 1), .int .u32 (r1 2), .int .u32 (r1 3), .int .u32 (r1 4), .int .u32 (r1 5), .int .u32 (r1 6), .int .u32 (r1 7), .int .u32 (r1 8), .int .u32 (r1 9), .int .u32 (r1 10), .int .u32 (r1 11), .int .u32 (r1 12), .int .u32 (r1 13), .int .u32 (r1 14), .int .u32 (r1 15), .slice ba1 bn1 bc1, .int .i64 wt1, .slice ma1 mn1 mc1, .slice ia1 in1 ic1, .slice oa1 on1 oc1, .bool en1, .int .u32 cd1, .int .i64 ft1]) 37)).alloc (.cells (#[.int .i64 at2, .int .u32 (r2 0), .int .u32 (r2 1), .int .u32 (r2 2), .int .u32 (r2 3), .int .u32 (r2 4), .int .u32 (r2 5), .int .u32 (r2 6), .int .u32 (r2 7), .int .u32 (r2 8), .int .u32 (r2 9), .int .u32 (r2 10), .int .u32 (r2 11), .int .u32 (r2 12), .int .u32 (r2 13), .int .u32 (r2 14), .int .u32 (r2 15), .slice ba2 bn2 bc2, .int .i64 wt2, .slice ma2 mn2 mc2, .slice ia2 in2 ic2, .slice oa2 on2 oc2, .bool en2, .int .u32 cd2, .int .i64 ft2]) 37)).heap.size ((w.alloc (.cells (#[.int .i64 at1, .int .u32 (r1 0), .int .u32 (r1 1), .int .u32 (r1 2), .int .u32 (r1 3), .int .u32 (r1 4), .int .u32 (r1 5), .int .u32 (r1 6), .int .u32 (r1 7), .int .u32 (r1 8), .int .u32 (r1 9), .int .u32 (r1 10), .int .u32 (r1 11), .int .u32 (r1 12), .int .u32 (r1 13), .int .u32 (r1 14), .int .u32 (r1 15), .slice ba1 bn1 bc1, .int .i64 wt1, .slice ma1 mn1 mc1, .slice ia1 in1 ic1, .slice oa1 on1 oc1, .bool en1, .int .u32 cd1, .int .i64 ft1]) 37)).alloc (.cells (#[.int .i64 at2, .int .u32 (r2 0), .int .u32 (r2 1), .int .u32 (r2 2), .int .u32 (r2 3), .int .u32 (r2 4), .int .u32 (r2 5), .int .u32 (r2 6), .int .u32 (r2 7), .int .u32 (r2 8), .int .u32 (r2 9), .int .u32 (r2 10), .int .u32 (r2 11), .int .u32 (r2 12), .int .u32 (r2 13), .int .u32 (r2 14), .int .u32 (r2 15), .slice ba2 bn2 bc2, .int .i64 wt2, .slice ma2 mn2 mc2, .slice ia2 in2 ic2, .slice oa2 on2 oc2, .bool en2, .int .u32 cd2, .int .i64 ft2]) 37)) W → Calls Tryd.prog 31 #[.agg #[.int .i64 wt1, .slice ma1 mn1 mc1], .agg #[.int .i64 wt2, .slice ma2 mn2 mc2]] W fun e w' => e = .returned (.bool ((wt1 == wt2 && eqB mn1 mn2 mf1 mf2))) ∧ Below W.heap.size W w') := fun W hW => mem_eq W wt1 wt2 ma1 ma2 mn1 mn2 mc1 mc2 mf1 mf2 l1.2.1 l2.2.1 ((h1.2.1.later HA.out).later hW) ((h2.2.1.later HA.out).later hW)
  have H4 : Hid (∀ W, Below ((w.alloc (.cells (#[.int .i64 at1, .int .u32 (r1 0), .int .u32 (r1 1), .int .u32 (r1 2), .int .u32 (r1 3), .int .u32 (r1 4), .int .u32 (r1 5), .int .u32 (r1 6), .int .u32 (r1 7), .int .u32 (r1 8), .int .u32 (r1 9), .int .u32 (r1 10), .int .u32 (r1 11), .int .u32 (r1 12), .int .u32 (r1 13), .int .u32 (r1 14), .int .u32 (r1 15), .slice ba1 bn1 bc1, .int .i64 wt1, .slice ma1 mn1 mc1, .slice ia1 in1 ic1, .slice oa1 on1 oc1, .bool en1, .int .u32 cd1, .int .i64 ft1]) 37)).alloc (.cells (#[.int .i64 at2, .int .u32 (r2 0), .int .u32 (r2 1), .int .u32 (r2 2), .int .u32 (r2 3), .int .u32 (r2 4), .int .u32 (r2 5), .int .u32 (r2 6), .int .u32 (r2 7), .int .u32 (r2 8), .int .u32 (r2 9), .int .u32 (r2 10), .int .u32 (r2 11), .int .u32 (r2 12), .int .u32 (r2 13), .int .u32 (r2 14), .int .u32 (r2 15), .slice ba2 bn2 bc2, .int .i64 wt2, .slice ma2 mn2 mc2, .slice ia2 in2 ic2, .slice oa2 on2 oc2, .bool en2, .int .u32 cd2, .int .i64 ft2]) 37)).heap.size ((w.alloc (.cells (#[.int .i64 at1, .int .u32 (r1 0), .int .u32 (r1 1), .int .u32 (r1 2), .int .u32 (r1 3), .int .u32 (r1 4), .int .u32 (r1 5), .int .u32 (r1 6), .int .u32 (r1 7), .int .u32 (r1 8), .int .u32 (r1 9), .int .u32 (r1 10), .int .u32 (r1 11), .int .u32 (r1 12), .int .u32 (r1 13), .int .u32 (r1 14), .int .u32 (r1 15), .slice ba1 bn1 bc1, .int .i64 wt1, .slice ma1 mn1 mc1, .slice ia1 in1 ic1, .slice oa1 on1 oc1, .bool en1, .int .u32 cd1, .int .i64 ft1]) 37)).alloc (.cells (#[.int .i64 at2, .int .u32 (r2 0), .int .u32 (r2 1), .int .u32 (r2 2), .int .u32 (r2 3), .int .u32 (r2 4), .int .u32 (r2 5), .int .u32 (r2 6), .int .u32 (r2 7), .int .u32 (r2 8), .int .u32 (r2 9), .int .u32 (r2 10), .int .u32 (r2 11), .int .u32 (r2 12), .int .u32 (r2 13), .int .u32 (r2 14), .int .u32 (r2 15), .slice ba2 bn2 bc2, .int .i64 wt2, .slice ma2 mn2 mc2, .slice ia2 in2 ic2, .slice oa2 on2 oc2, .bool en2, .int .u32 cd2, .int .i64 ft2]) 37)) W → Calls Tryd.prog 14 #[.slice ia1 in1 ic1, .slice ia2 in2 ic2] W fun e w' => e = .returned (.bool (eqB in1 in2 if1 if2)) ∧ Below W.heap.size W w') := fun W hW => bytes_eq W ia1 ia2 in1 in2 ic1 ic2 if1 if2 l1.2.2.1 l2.2.2.1 ((h1.2.2.1.later HA.out).later hW) ((h2.2.2.1.later HA.out).later hW)
  have H5 : Hid (∀ W, Below ((w.alloc (.cells (#[.int .i64 at1, .int .u32 (r1 0), .int .u32 (r1 1), .int .u32 (r1 2), .int .u32 (r1 3), .int .u32 (r1 4), .int .u32 (r1 5), .int .u32 (r1 6), .int .u32 (r1 7), .int .u32 (r1 8), .int .u32 (r1 9), .int .u32 (r1 10), .int .u32 (r1 11), .int .u32 (r1 12), .int .u32 (r1 13), .int .u32 (r1 14), .int .u32 (r1 15), .slice ba1 bn1 bc1, .int .i64 wt1, .slice ma1 mn1 mc1, .slice ia1 in1 ic1, .slice oa1 on1 oc1, .bool en1, .int .u32 cd1, .int .i64 ft1]) 37)).alloc (.cells (#[.int .i64 at2, .int .u32 (r2 0), .int .u32 (r2 1), .int .u32 (r2 2), .int .u32 (r2 3), .int .u32 (r2 4), .int .u32 (r2 5), .int .u32 (r2 6), .int .u32 (r2 7), .int .u32 (r2 8), .int .u32 (r2 9), .int .u32 (r2 10), .int .u32 (r2 11), .int .u32 (r2 12), .int .u32 (r2 13), .int .u32 (r2 14), .int .u32 (r2 15), .slice ba2 bn2 bc2, .int .i64 wt2, .slice ma2 mn2 mc2, .slice ia2 in2 ic2, .slice oa2 on2 oc2, .bool en2, .int .u32 cd2, .int .i64 ft2]) 37)).heap.size ((w.alloc (.cells (#[.int .i64 at1, .int .u32 (r1 0), .int .u32 (r1 1), .int .u32 (r1 2), .int .u32 (r1 3), .int .u32 (r1 4), .int .u32 (r1 5), .int .u32 (r1 6), .int .u32 (r1 7), .int .u32 (r1 8), .int .u32 (r1 9), .int .u32 (r1 10), .int .u32 (r1 11), .int .u32 (r1 12), .int .u32 (r1 13), .int .u32 (r1 14), .int .u32 (r1 15), .slice ba1 bn1 bc1, .int .i64 wt1, .slice ma1 mn1 mc1, .slice ia1 in1 ic1, .slice oa1 on1 oc1, .bool en1, .int .u32 cd1, .int .i64 ft1]) 37)).alloc (.cells (#[.int .i64 at2, .int .u32 (r2 0), .int .u32 (r2 1), .int .u32 (r2 2), .int .u32 (r2 3), .int .u32 (r2 4), .int .u32 (r2 5), .int .u32 (r2 6), .int .u32 (r2 7), .int .u32 (r2 8), .int .u32 (r2 9), .int .u32 (r2 10), .int .u32 (r2 11), .int .u32 (r2 12), .int .u32 (r2 13), .int .u32 (r2 14), .int .u32 (r2 15), .slice ba2 bn2 bc2, .int .i64 wt2, .slice ma2 mn2 mc2, .slice ia2 in2 ic2, .slice oa2 on2 oc2, .bool en2, .int .u32 cd2, .int .i64 ft2]) 37)) W → Calls Tryd.prog 14 #[.slice oa1 on1 oc1, .slice oa2 on2 oc2] W fun e w' => e = .returned (.bool (eqB on1 on2 of1 of2)) ∧ Below W.heap.size W w') := fun W hW => bytes_eq W oa1 oa2 on1 on2 oc1 oc2 of1 of2 l1.2.2.2 l2.2.2.2 ((h1.2.2.2.later HA.out).later hW) ((h2.2.2.2.later HA.out).later hW)
  have HE : Hid (∀ W, (binOp .eql 32 (.agg (regsV r1)) (.agg (regsV r2))).run Tryd.prog W = .ok (.bool (regsB r1 r2)) W) := fun W => run_eql_regs W r1 r2
  have HU : Hid (sameS at1 r1 ba1 bn1 bc1 bf1 wt1 ma1 mn1 mc1 mf1 ia1 in1 ic1 if1 oa1 on1 oc1 of1 en1 cd1 ft1 at2 r2 ba2 bn2 bc2 bf2 wt2 ma2 mn2 mc2 mf2 ia2 in2 ic2 if2 oa2 on2 oc2 of2 en2 cd2 ft2 = ((at1 == at2) && regsB r1 r2 && eqB bn1 bn2 bf1 bf2 && (wt1 == wt2 && eqB mn1 mn2 mf1 mf2) && eqB in1 in2 if1 if2 && eqB on1 on2 of1 of2 && (en1 == en2) && (cd1 == cd2) && (ft1 == ft2))) := rfl
  generalize sameS at1 r1 ba1 bn1 bc1 bf1 wt1 ma1 mn1 mc1 mf1 ia1 in1 ic1 if1 oa1 on1 oc1 of1 en1 cd1 ft1 at2 r2 ba2 bn2 bc2 bf2 wt2 ma2 mn2 mc2 mf2 ia2 in2 ic2 if2 oa2 on2 oc2 of2 en2 cd2 ft2 = S at HU ⊢
  generalize eqB bn1 bn2 bf1 bf2 = c2 at H2 HU
  generalize (wt1 == wt2 && eqB mn1 mn2 mf1 mf2) = c3 at H3 HU
  generalize eqB in1 in2 if1 if2 = c4 at H4 HU
  generalize eqB on1 on2 of1 of2 = c5 at H5 HU
  generalize regsB r1 r2 = c1 at HE HU
  cases hq0 : (at1 == at2)
  · have e : S = false := by have h := HU.out; simpa [hq0] using h
    subst e
    clear HU
    have heq := HE.out
    simp only [regsV] at heq
    go_enter Tryd.func16, Tryd.ntmps16
    go_upto_region 1 with fail
    generalize ((w.alloc (.cells (#[.int .i64 at1, .int .u32 (r1 0), .int .u32 (r1 1), .int .u32 (r1 2), .int .u32 (r1 3), .int .u32 (r1 4), .int .u32 (r1 5), .int .u32 (r1 6), .int .u32 (r1 7), .int .u32 (r1 8), .int .u32 (r1 9), .int .u32 (r1 10), .int .u32 (r1 11), .int .u32 (r1 12), .int .u32 (r1 13), .int .u32 (r1 14), .int .u32 (r1 15), .slice ba1 bn1 bc1, .int .i64 wt1, .slice ma1 mn1 mc1, .slice ia1 in1 ic1, .slice oa1 on1 oc1, .bool en1, .int .u32 cd1, .int .i64 ft1]) 37)).alloc (.cells (#[.int .i64 at2, .int .u32 (r2 0), .int .u32 (r2 1), .int .u32 (r2 2), .int .u32 (r2 3), .int .u32 (r2 4), .int .u32 (r2 5), .int .u32 (r2 6), .int .u32 (r2 7), .int .u32 (r2 8), .int .u32 (r2 9), .int .u32 (r2 10), .int .u32 (r2 11), .int .u32 (r2 12), .int .u32 (r2 13), .int .u32 (r2 14), .int .u32 (r2 15), .slice ba2 bn2 bc2, .int .i64 wt2, .slice ma2 mn2 mc2, .slice ia2 in2 ic2, .slice oa2 on2 oc2, .bool en2, .int .u32 cd2, .int .i64 ft2]) 37)) = w0 at HA A1 A2 H2 H3 H4 H5 ⊢
    have p0 : w0.cell? ⟨w.heap.size, 0, none⟩ = some (.int .i64 at1) := (A1) 0 _ rfl
    have p1 : w0.cell? ⟨w.heap.size, 1, none⟩ = some (.int .u32 (r1 0)) := (A1) 1 _ rfl
    have p2 : w0.cell? ⟨w.heap.size, 2, none⟩ = some (.int .u32 (r1 1)) := (A1) 2 _ rfl
    have p3 : w0.cell? ⟨w.heap.size, 3, none⟩ = some (.int .u32 (r1 2)) := (A1) 3 _ rfl
    have p4 : w0.cell? ⟨w.heap.size, 4, none⟩ = some (.int .u32 (r1 3)) := (A1) 4 _ rfl
    have p5 : w0.cell? ⟨w.heap.size, 5, none⟩ = some (.int .u32 (r1 4)) := (A1) 5 _ rfl
    have p6 : w0.cell? ⟨w.heap.size, 6, none⟩ = some (.int .u32 (r1 5)) := (A1) 6 _ rfl
    have p7 : w0.cell? ⟨w.heap.size, 7, none⟩ = some (.int .u32 (r1 6)) := (A1) 7 _ rfl
    have p8 : w0.cell? ⟨w.heap.size, 8, none⟩ = some (.int .u32 (r1 7)) := (A1) 8 _ rfl
    have p9 : w0.cell? ⟨w.heap.size, 9, none⟩ = some (.int .u32 (r1 8)) := (A1) 9 _ rfl
    have p10 : w0.cell? ⟨w.heap.size, 10, none⟩ = some (.int .u32 (r1 9)) := (A1) 10 _ rfl
    have p11 : w0.cell? ⟨w.heap.size, 11, none⟩ = some (.int .u32 (r1 10)) := (A1) 11 _ rfl
    have p12 : w0.cell? ⟨w.heap.size, 12, none⟩ = some (.int .u32 (r1 11)) := (A1) 12 _ rfl
    have p13 : w0.cell? ⟨w.heap.size, 13, none⟩ = some (.int .u32 (r1 12)) := (A1) 13 _ rfl
    have p14 : w0.cell? ⟨w.heap.size, 14, none⟩ = some (.int .u32 (r1 13)) := (A1) 14 _ rfl
    have p15 : w0.cell? ⟨w.heap.size, 15, none⟩ = some (.int .u32 (r1 14)) := (A1) 15 _ rfl
    have p16 : w0.cell? ⟨w.heap.size, 16, none⟩ = some (.int .u32 (r1 15)) := (A1) 16 _ rfl
    have p17 : w0.cell? ⟨w.heap.size, 17, none⟩ = some (.slice ba1 bn1 bc1) := (A1) 17 _ rfl
    have q0 : w0.cell? ⟨w.heap.size + 1, 0, none⟩ = some (.int .i64 at2) := (A2) 0 _ rfl
    have q1 : w0.cell? ⟨w.heap.size + 1, 1, none⟩ = some (.int .u32 (r2 0)) := (A2) 1 _ rfl
    have q2 : w0.cell? ⟨w.heap.size + 1, 2, none⟩ = some (.int .u32 (r2 1)) := (A2) 2 _ rfl
    have q3 : w0.cell? ⟨w.heap.size + 1, 3, none⟩ = some (.int .u32 (r2 2)) := (A2) 3 _ rfl
    have q4 : w0.cell? ⟨w.heap.size + 1, 4, none⟩ = some (.int .u32 (r2 3)) := (A2) 4 _ rfl
    have q5 : w0.cell? ⟨w.heap.size + 1, 5, none⟩ = some (.int .u32 (r2 4)) := (A2) 5 _ rfl
    have q6 : w0.cell? ⟨w.heap.size + 1, 6, none⟩ = some (.int .u32 (r2 5)) := (A2) 6 _ rfl
    have q7 : w0.cell? ⟨w.heap.size + 1, 7, none⟩ = some (.int .u32 (r2 6)) := (A2) 7 _ rfl
    have q8 : w0.cell? ⟨w.heap.size + 1, 8, none⟩ = some (.int .u32 (r2 7)) := (A2) 8 _ rfl
    have q9 : w0.cell? ⟨w.heap.size + 1, 9, none⟩ = some (.int .u32 (r2 8)) := (A2) 9 _ rfl
    have q10 : w0.cell? ⟨w.heap.size + 1, 10, none⟩ = some (.int .u32 (r2 9)) := (A2) 10 _ rfl
    have q11 : w0.cell? ⟨w.heap.size + 1, 11, none⟩ = some (.int .u32 (r2 10)) := (A2) 11 _ rfl
    have q12 : w0.cell? ⟨w.heap.size + 1, 12, none⟩ = some (.int .u32 (r2 11)) := (A2) 12 _ rfl
    have q13 : w0.cell? ⟨w.heap.size + 1, 13, none⟩ = some (.int .u32 (r2 12)) := (A2) 13 _ rfl
    have q14 : w0.cell? ⟨w.heap.size + 1, 14, none⟩ = some (.int .u32 (r2 13)) := (A2) 14 _ rfl
    have q15 : w0.cell? ⟨w.heap.size + 1, 15, none⟩ = some (.int .u32 (r2 14)) := (A2) 15 _ rfl
    have q16 : w0.cell? ⟨w.heap.size + 1, 16, none⟩ = some (.int .u32 (r2 15)) := (A2) 16 _ rfl
    have q17 : w0.cell? ⟨w.heap.size + 1, 17, none⟩ = some (.slice ba2 bn2 bc2) := (A2) 17 _ rfl
    go_wp2_with (first
      | (go_at_call 30; refine (H2.out _ (Below.refl _ _)).mono ?_; rintro e w1 ⟨rfl, hb1⟩; have p18 : w1.cell? ⟨w.heap.size, 18, none⟩ = some (.int .i64 wt1) := (A1.later hb1) 18 _ rfl; have p19 : w1.cell? ⟨w.heap.size, 19, none⟩ = some (.slice ma1 mn1 mc1) := (A1.later hb1) 19 _ rfl; have q18 : w1.cell? ⟨w.heap.size + 1, 18, none⟩ = some (.int .i64 wt2) := (A2.later hb1) 18 _ rfl; have q19 : w1.cell? ⟨w.heap.size + 1, 19, none⟩ = some (.slice ma2 mn2 mc2) := (A2.later hb1) 19 _ rfl)
      | (go_at_call 31; refine (H3.out _ hb1).mono ?_; rintro e w2 ⟨rfl, hb2⟩; have k2 := bnext hb1 hb2; have p20 : w2.cell? ⟨w.heap.size, 20, none⟩ = some (.slice ia1 in1 ic1) := (A1.later k2) 20 _ rfl; have q20 : w2.cell? ⟨w.heap.size + 1, 20, none⟩ = some (.slice ia2 in2 ic2) := (A2.later k2) 20 _ rfl)
      | (go_at_call 14; revert hb3; intro hb3; refine (H5.out _ k3).mono ?_; rintro e w4 ⟨rfl, hb4⟩; have k4 := bnext k3 hb4; have p22 : w4.cell? ⟨w.heap.size, 22, none⟩ = some (.bool en1) := (A1.later k4) 22 _ rfl; have p23 : w4.cell? ⟨w.heap.size, 23, none⟩ = some (.int .u32 cd1) := (A1.later k4) 23 _ rfl; have p24 : w4.cell? ⟨w.heap.size, 24, none⟩ = some (.int .i64 ft1) := (A1.later k4) 24 _ rfl; have q22 : w4.cell? ⟨w.heap.size + 1, 22, none⟩ = some (.bool en2) := (A2.later k4) 22 _ rfl; have q23 : w4.cell? ⟨w.heap.size + 1, 23, none⟩ = some (.int .u32 cd2) := (A2.later k4) 23 _ rfl; have q24 : w4.cell? ⟨w.heap.size + 1, 24, none⟩ = some (.int .i64 ft2) := (A2.later k4) 24 _ rfl)
      | (go_at_call 14; refine (H4.out _ k2).mono ?_; rintro e w3 ⟨rfl, hb3⟩; have k3 := bnext k2 hb3; have p21 : w3.cell? ⟨w.heap.size, 21, none⟩ = some (.slice oa1 on1 oc1) := (A1.later k3) 21 _ rfl; have q21 : w3.cell? ⟨w.heap.size + 1, 21, none⟩ = some (.slice oa2 on2 oc2) := (A2.later k3) 21 _ rfl))
    go_ret
    exact ⟨rfl, HA.out⟩
  · skip
    cases c1
    · have e : S = false := by have h := HU.out; simpa [hq0] using h
      subst e
      clear HU
      have heq := HE.out
      simp only [regsV] at heq
      go_enter Tryd.func16, Tryd.ntmps16
      go_upto_region 1 with fail
      generalize ((w.alloc (.cells (#[.int .i64 at1, .int .u32 (r1 0), .int .u32 (r1 1), .int .u32 (r1 2), .int .u32 (r1 3), .int .u32 (r1 4), .int .u32 (r1 5), .int .u32 (r1 6), .int .u32 (r1 7), .int .u32 (r1 8), .int .u32 (r1 9), .int .u32 (r1 10), .int .u32 (r1 11), .int .u32 (r1 12), .int .u32 (r1 13), .int .u32 (r1 14), .int .u32 (r1 15), .slice ba1 bn1 bc1, .int .i64 wt1, .slice ma1 mn1 mc1, .slice ia1 in1 ic1, .slice oa1 on1 oc1, .bool en1, .int .u32 cd1, .int .i64 ft1]) 37)).alloc (.cells (#[.int .i64 at2, .int .u32 (r2 0), .int .u32 (r2 1), .int .u32 (r2 2), .int .u32 (r2 3), .int .u32 (r2 4), .int .u32 (r2 5), .int .u32 (r2 6), .int .u32 (r2 7), .int .u32 (r2 8), .int .u32 (r2 9), .int .u32 (r2 10), .int .u32 (r2 11), .int .u32 (r2 12), .int .u32 (r2 13), .int .u32 (r2 14), .int .u32 (r2 15), .slice ba2 bn2 bc2, .int .i64 wt2, .slice ma2 mn2 mc2, .slice ia2 in2 ic2, .slice oa2 on2 oc2, .bool en2, .int .u32 cd2, .int .i64 ft2]) 37)) = w0 at HA A1 A2 H2 H3 H4 H5 ⊢
      have p0 : w0.cell? ⟨w.heap.size, 0, none⟩ = some (.int .i64 at1) := (A1) 0 _ rfl
      have p1 : w0.cell? ⟨w.heap.size, 1, none⟩ = some (.int .u32 (r1 0)) := (A1) 1 _ rfl
      have p2 : w0.cell? ⟨w.heap.size, 2, none⟩ = some (.int .u32 (r1 1)) := (A1) 2 _ rfl
      have p3 : w0.cell? ⟨w.heap.size, 3, none⟩ = some (.int .u32 (r1 2)) := (A1) 3 _ rfl
      have p4 : w0.cell? ⟨w.heap.size, 4, none⟩ = some (.int .u32 (r1 3)) := (A1) 4 _ rfl
      have p5 : w0.cell? ⟨w.heap.size, 5, none⟩ = some (.int .u32 (r1 4)) := (A1) 5 _ rfl
      have p6 : w0.cell? ⟨w.heap.size, 6, none⟩ = some (.int .u32 (r1 5)) := (A1) 6 _ rfl
      have p7 : w0.cell? ⟨w.heap.size, 7, none⟩ = some (.int .u32 (r1 6)) := (A1) 7 _ rfl
      have p8 : w0.cell? ⟨w.heap.size, 8, none⟩ = some (.int .u32 (r1 7)) := (A1) 8 _ rfl
      have p9 : w0.cell? ⟨w.heap.size, 9, none⟩ = some (.int .u32 (r1 8)) := (A1) 9 _ rfl
      have p10 : w0.cell? ⟨w.heap.size, 10, none⟩ = some (.int .u32 (r1 9)) := (A1) 10 _ rfl
      have p11 : w0.cell? ⟨w.heap.size, 11, none⟩ = some (.int .u32 (r1 10)) := (A1) 11 _ rfl
      have p12 : w0.cell? ⟨w.heap.size, 12, none⟩ = some (.int .u32 (r1 11)) := (A1) 12 _ rfl
      have p13 : w0.cell? ⟨w.heap.size, 13, none⟩ = some (.int .u32 (r1 12)) := (A1) 13 _ rfl
      have p14 : w0.cell? ⟨w.heap.size, 14, none⟩ = some (.int .u32 (r1 13)) := (A1) 14 _ rfl
      have p15 : w0.cell? ⟨w.heap.size, 15, none⟩ = some (.int .u32 (r1 14)) := (A1) 15 _ rfl
      have p16 : w0.cell? ⟨w.heap.size, 16, none⟩ = some (.int .u32 (r1 15)) := (A1) 16 _ rfl
      have p17 : w0.cell? ⟨w.heap.size, 17, none⟩ = some (.slice ba1 bn1 bc1) := (A1) 17 _ rfl
      have q0 : w0.cell? ⟨w.heap.size + 1, 0, none⟩ = some (.int .i64 at2) := (A2) 0 _ rfl
      have q1 : w0.cell? ⟨w.heap.size + 1, 1, none⟩ = some (.int .u32 (r2 0)) := (A2) 1 _ rfl
      have q2 : w0.cell? ⟨w.heap.size + 1, 2, none⟩ = some (.int .u32 (r2 1)) := (A2) 2 _ rfl
      have q3 : w0.cell? ⟨w.heap.size + 1, 3, none⟩ = some (.int .u32 (r2 2)) := (A2) 3 _ rfl
      have q4 : w0.cell? ⟨w.heap.size + 1, 4, none⟩ = some (.int .u32 (r2 3)) := (A2) 4 _ rfl
      have q5 : w0.cell? ⟨w.heap.size + 1, 5, none⟩ = some (.int .u32 (r2 4)) := (A2) 5 _ rfl
      have q6 : w0.cell? ⟨w.heap.size + 1, 6, none⟩ = some (.int .u32 (r2 5)) := (A2) 6 _ rfl
      have q7 : w0.cell? ⟨w.heap.size + 1, 7, none⟩ = some (.int .u32 (r2 6)) := (A2) 7 _ rfl
      have q8 : w0.cell? ⟨w.heap.size + 1, 8, none⟩ = some (.int .u32 (r2 7)) := (A2) 8 _ rfl
      have q9 : w0.cell? ⟨w.heap.size + 1, 9, none⟩ = some (.int .u32 (r2 8)) := (A2) 9 _ rfl
      have q10 : w0.cell? ⟨w.heap.size + 1, 10, none⟩ = some (.int .u32 (r2 9)) := (A2) 10 _ rfl
      have q11 : w0.cell? ⟨w.heap.size + 1, 11, none⟩ = some (.int .u32 (r2 10)) := (A2) 11 _ rfl
      have q12 : w0.cell? ⟨w.heap.size + 1, 12, none⟩ = some (.int .u32 (r2 11)) := (A2) 12 _ rfl
      have q13 : w0.cell? ⟨w.heap.size + 1, 13, none⟩ = some (.int .u32 (r2 12)) := (A2) 13 _ rfl
      have q14 : w0.cell? ⟨w.heap.size + 1, 14, none⟩ = some (.int .u32 (r2 13)) := (A2) 14 _ rfl
      have q15 : w0.cell? ⟨w.heap.size + 1, 15, none⟩ = some (.int .u32 (r2 14)) := (A2) 15 _ rfl
      have q16 : w0.cell? ⟨w.heap.size + 1, 16, none⟩ = some (.int .u32 (r2 15)) := (A2) 16 _ rfl
      have q17 : w0.cell? ⟨w.heap.size + 1, 17, none⟩ = some (.slice ba2 bn2 bc2) := (A2) 17 _ rfl
      go_wp2_with (first
        | (go_at_call 30; refine (H2.out _ (Below.refl _ _)).mono ?_; rintro e w1 ⟨rfl, hb1⟩; have p18 : w1.cell? ⟨w.heap.size, 18, none⟩ = some (.int .i64 wt1) := (A1.later hb1) 18 _ rfl; have p19 : w1.cell? ⟨w.heap.size, 19, none⟩ = some (.slice ma1 mn1 mc1) := (A1.later hb1) 19 _ rfl; have q18 : w1.cell? ⟨w.heap.size + 1, 18, none⟩ = some (.int .i64 wt2) := (A2.later hb1) 18 _ rfl; have q19 : w1.cell? ⟨w.heap.size + 1, 19, none⟩ = some (.slice ma2 mn2 mc2) := (A2.later hb1) 19 _ rfl)
        | (go_at_call 31; refine (H3.out _ hb1).mono ?_; rintro e w2 ⟨rfl, hb2⟩; have k2 := bnext hb1 hb2; have p20 : w2.cell? ⟨w.heap.size, 20, none⟩ = some (.slice ia1 in1 ic1) := (A1.later k2) 20 _ rfl; have q20 : w2.cell? ⟨w.heap.size + 1, 20, none⟩ = some (.slice ia2 in2 ic2) := (A2.later k2) 20 _ rfl)
        | (go_at_call 14; revert hb3; intro hb3; refine (H5.out _ k3).mono ?_; rintro e w4 ⟨rfl, hb4⟩; have k4 := bnext k3 hb4; have p22 : w4.cell? ⟨w.heap.size, 22, none⟩ = some (.bool en1) := (A1.later k4) 22 _ rfl; have p23 : w4.cell? ⟨w.heap.size, 23, none⟩ = some (.int .u32 cd1) := (A1.later k4) 23 _ rfl; have p24 : w4.cell? ⟨w.heap.size, 24, none⟩ = some (.int .i64 ft1) := (A1.later k4) 24 _ rfl; have q22 : w4.cell? ⟨w.heap.size + 1, 22, none⟩ = some (.bool en2) := (A2.later k4) 22 _ rfl; have q23 : w4.cell? ⟨w.heap.size + 1, 23, none⟩ = some (.int .u32 cd2) := (A2.later k4) 23 _ rfl; have q24 : w4.cell? ⟨w.heap.size + 1, 24, none⟩ = some (.int .i64 ft2) := (A2.later k4) 24 _ rfl)
        | (go_at_call 14; refine (H4.out _ k2).mono ?_; rintro e w3 ⟨rfl, hb3⟩; have k3 := bnext k2 hb3; have p21 : w3.cell? ⟨w.heap.size, 21, none⟩ = some (.slice oa1 on1 oc1) := (A1.later k3) 21 _ rfl; have q21 : w3.cell? ⟨w.heap.size + 1, 21, none⟩ = some (.slice oa2 on2 oc2) := (A2.later k3) 21 _ rfl))
      go_ret
      exact ⟨rfl, HA.out⟩
    · skip
      cases c2
      · have e : S = false := by have h := HU.out; simpa [hq0] using h
        subst e
        clear HU
        have heq := HE.out
        simp only [regsV] at heq
        go_enter Tryd.func16, Tryd.ntmps16
        go_upto_region 1 with fail
        generalize ((w.alloc (.cells (#[.int .i64 at1, .int .u32 (r1 0), .int .u32 (r1 1), .int .u32 (r1 2), .int .u32 (r1 3), .int .u32 (r1 4), .int .u32 (r1 5), .int .u32 (r1 6), .int .u32 (r1 7), .int .u32 (r1 8), .int .u32 (r1 9), .int .u32 (r1 10), .int .u32 (r1 11), .int .u32 (r1 12), .int .u32 (r1 13), .int .u32 (r1 14), .int .u32 (r1 15), .slice ba1 bn1 bc1, .int .i64 wt1, .slice ma1 mn1 mc1, .slice ia1 in1 ic1, .slice oa1 on1 oc1, .bool en1, .int .u32 cd1, .int .i64 ft1]) 37)).alloc (.cells (#[.int .i64 at2, .int .u32 (r2 0), .int .u32 (r2 1), .int .u32 (r2 2), .int .u32 (r2 3), .int .u32 (r2 4), .int .u32 (r2 5), .int .u32 (r2 6), .int .u32 (r2 7), .int .u32 (r2 8), .int .u32 (r2 9), .int .u32 (r2 10), .int .u32 (r2 11), .int .u32 (r2 12), .int .u32 (r2 13), .int .u32 (r2 14), .int .u32 (r2 15), .slice ba2 bn2 bc2, .int .i64 wt2, .slice ma2 mn2 mc2, .slice ia2 in2 ic2, .slice oa2 on2 oc2, .bool en2, .int .u32 cd2, .int .i64 ft2]) 37)) = w0 at HA A1 A2 H2 H3 H4 H5 ⊢
        have p0 : w0.cell? ⟨w.heap.size, 0, none⟩ = some (.int .i64 at1) := (A1) 0 _ rfl
        have p1 : w0.cell? ⟨w.heap.size, 1, none⟩ = some (.int .u32 (r1 0)) := (A1) 1 _ rfl
        have p2 : w0.cell? ⟨w.heap.size, 2, none⟩ = some (.int .u32 (r1 1)) := (A1) 2 _ rfl
        have p3 : w0.cell? ⟨w.heap.size, 3, none⟩ = some (.int .u32 (r1 2)) := (A1) 3 _ rfl
        have p4 : w0.cell? ⟨w.heap.size, 4, none⟩ = some (.int .u32 (r1 3)) := (A1) 4 _ rfl
        have p5 : w0.cell? ⟨w.heap.size, 5, none⟩ = some (.int .u32 (r1 4)) := (A1) 5 _ rfl
        have p6 : w0.cell? ⟨w.heap.size, 6, none⟩ = some (.int .u32 (r1 5)) := (A1) 6 _ rfl
        have p7 : w0.cell? ⟨w.heap.size, 7, none⟩ = some (.int .u32 (r1 6)) := (A1) 7 _ rfl
        have p8 : w0.cell? ⟨w.heap.size, 8, none⟩ = some (.int .u32 (r1 7)) := (A1) 8 _ rfl
        have p9 : w0.cell? ⟨w.heap.size, 9, none⟩ = some (.int .u32 (r1 8)) := (A1) 9 _ rfl
        have p10 : w0.cell? ⟨w.heap.size, 10, none⟩ = some (.int .u32 (r1 9)) := (A1) 10 _ rfl
        have p11 : w0.cell? ⟨w.heap.size, 11, none⟩ = some (.int .u32 (r1 10)) := (A1) 11 _ rfl
        have p12 : w0.cell? ⟨w.heap.size, 12, none⟩ = some (.int .u32 (r1 11)) := (A1) 12 _ rfl
        have p13 : w0.cell? ⟨w.heap.size, 13, none⟩ = some (.int .u32 (r1 12)) := (A1) 13 _ rfl
        have p14 : w0.cell? ⟨w.heap.size, 14, none⟩ = some (.int .u32 (r1 13)) := (A1) 14 _ rfl
        have p15 : w0.cell? ⟨w.heap.size, 15, none⟩ = some (.int .u32 (r1 14)) := (A1) 15 _ rfl
        have p16 : w0.cell? ⟨w.heap.size, 16, none⟩ = some (.int .u32 (r1 15)) := (A1) 16 _ rfl
        have p17 : w0.cell? ⟨w.heap.size, 17, none⟩ = some (.slice ba1 bn1 bc1) := (A1) 17 _ rfl
        have q0 : w0.cell? ⟨w.heap.size + 1, 0, none⟩ = some (.int .i64 at2) := (A2) 0 _ rfl
        have q1 : w0.cell? ⟨w.heap.size + 1, 1, none⟩ = some (.int .u32 (r2 0)) := (A2) 1 _ rfl
        have q2 : w0.cell? ⟨w.heap.size + 1, 2, none⟩ = some (.int .u32 (r2 1)) := (A2) 2 _ rfl
        have q3 : w0.cell? ⟨w.heap.size + 1, 3, none⟩ = some (.int .u32 (r2 2)) := (A2) 3 _ rfl
        have q4 : w0.cell? ⟨w.heap.size + 1, 4, none⟩ = some (.int .u32 (r2 3)) := (A2) 4 _ rfl
        have q5 : w0.cell? ⟨w.heap.size + 1, 5, none⟩ = some (.int .u32 (r2 4)) := (A2) 5 _ rfl
        have q6 : w0.cell? ⟨w.heap.size + 1, 6, none⟩ = some (.int .u32 (r2 5)) := (A2) 6 _ rfl
        have q7 : w0.cell? ⟨w.heap.size + 1, 7, none⟩ = some (.int .u32 (r2 6)) := (A2) 7 _ rfl
        have q8 : w0.cell? ⟨w.heap.size + 1, 8, none⟩ = some (.int .u32 (r2 7)) := (A2) 8 _ rfl
        have q9 : w0.cell? ⟨w.heap.size + 1, 9, none⟩ = some (.int .u32 (r2 8)) := (A2) 9 _ rfl
        have q10 : w0.cell? ⟨w.heap.size + 1, 10, none⟩ = some (.int .u32 (r2 9)) := (A2) 10 _ rfl
        have q11 : w0.cell? ⟨w.heap.size + 1, 11, none⟩ = some (.int .u32 (r2 10)) := (A2) 11 _ rfl
        have q12 : w0.cell? ⟨w.heap.size + 1, 12, none⟩ = some (.int .u32 (r2 11)) := (A2) 12 _ rfl
        have q13 : w0.cell? ⟨w.heap.size + 1, 13, none⟩ = some (.int .u32 (r2 12)) := (A2) 13 _ rfl
        have q14 : w0.cell? ⟨w.heap.size + 1, 14, none⟩ = some (.int .u32 (r2 13)) := (A2) 14 _ rfl
        have q15 : w0.cell? ⟨w.heap.size + 1, 15, none⟩ = some (.int .u32 (r2 14)) := (A2) 15 _ rfl
        have q16 : w0.cell? ⟨w.heap.size + 1, 16, none⟩ = some (.int .u32 (r2 15)) := (A2) 16 _ rfl
        have q17 : w0.cell? ⟨w.heap.size + 1, 17, none⟩ = some (.slice ba2 bn2 bc2) := (A2) 17 _ rfl
        go_wp2_with (first
          | (go_at_call 30; refine (H2.out _ (Below.refl _ _)).mono ?_; rintro e w1 ⟨rfl, hb1⟩; have p18 : w1.cell? ⟨w.heap.size, 18, none⟩ = some (.int .i64 wt1) := (A1.later hb1) 18 _ rfl; have p19 : w1.cell? ⟨w.heap.size, 19, none⟩ = some (.slice ma1 mn1 mc1) := (A1.later hb1) 19 _ rfl; have q18 : w1.cell? ⟨w.heap.size + 1, 18, none⟩ = some (.int .i64 wt2) := (A2.later hb1) 18 _ rfl; have q19 : w1.cell? ⟨w.heap.size + 1, 19, none⟩ = some (.slice ma2 mn2 mc2) := (A2.later hb1) 19 _ rfl)
          | (go_at_call 31; refine (H3.out _ hb1).mono ?_; rintro e w2 ⟨rfl, hb2⟩; have k2 := bnext hb1 hb2; have p20 : w2.cell? ⟨w.heap.size, 20, none⟩ = some (.slice ia1 in1 ic1) := (A1.later k2) 20 _ rfl; have q20 : w2.cell? ⟨w.heap.size + 1, 20, none⟩ = some (.slice ia2 in2 ic2) := (A2.later k2) 20 _ rfl)
          | (go_at_call 14; revert hb3; intro hb3; refine (H5.out _ k3).mono ?_; rintro e w4 ⟨rfl, hb4⟩; have k4 := bnext k3 hb4; have p22 : w4.cell? ⟨w.heap.size, 22, none⟩ = some (.bool en1) := (A1.later k4) 22 _ rfl; have p23 : w4.cell? ⟨w.heap.size, 23, none⟩ = some (.int .u32 cd1) := (A1.later k4) 23 _ rfl; have p24 : w4.cell? ⟨w.heap.size, 24, none⟩ = some (.int .i64 ft1) := (A1.later k4) 24 _ rfl; have q22 : w4.cell? ⟨w.heap.size + 1, 22, none⟩ = some (.bool en2) := (A2.later k4) 22 _ rfl; have q23 : w4.cell? ⟨w.heap.size + 1, 23, none⟩ = some (.int .u32 cd2) := (A2.later k4) 23 _ rfl; have q24 : w4.cell? ⟨w.heap.size + 1, 24, none⟩ = some (.int .i64 ft2) := (A2.later k4) 24 _ rfl)
          | (go_at_call 14; refine (H4.out _ k2).mono ?_; rintro e w3 ⟨rfl, hb3⟩; have k3 := bnext k2 hb3; have p21 : w3.cell? ⟨w.heap.size, 21, none⟩ = some (.slice oa1 on1 oc1) := (A1.later k3) 21 _ rfl; have q21 : w3.cell? ⟨w.heap.size + 1, 21, none⟩ = some (.slice oa2 on2 oc2) := (A2.later k3) 21 _ rfl))
        go_ret
        exact ⟨rfl, bnext' HA.out hb1⟩
      · skip
        cases c3
        · have e : S = false := by have h := HU.out; simpa [hq0] using h
          subst e
          clear HU
          have heq := HE.out
          simp only [regsV] at heq
          go_enter Tryd.func16, Tryd.ntmps16
          go_upto_region 1 with fail
          generalize ((w.alloc (.cells (#[.int .i64 at1, .int .u32 (r1 0), .int .u32 (r1 1), .int .u32 (r1 2), .int .u32 (r1 3), .int .u32 (r1 4), .int .u32 (r1 5), .int .u32 (r1 6), .int .u32 (r1 7), .int .u32 (r1 8), .int .u32 (r1 9), .int .u32 (r1 10), .int .u32 (r1 11), .int .u32 (r1 12), .int .u32 (r1 13), .int .u32 (r1 14), .int .u32 (r1 15), .slice ba1 bn1 bc1, .int .i64 wt1, .slice ma1 mn1 mc1, .slice ia1 in1 ic1, .slice oa1 on1 oc1, .bool en1, .int .u32 cd1, .int .i64 ft1]) 37)).alloc (.cells (#[.int .i64 at2, .int .u32 (r2 0), .int .u32 (r2 1), .int .u32 (r2 2), .int .u32 (r2 3), .int .u32 (r2 4), .int .u32 (r2 5), .int .u32 (r2 6), .int .u32 (r2 7), .int .u32 (r2 8), .int .u32 (r2 9), .int .u32 (r2 10), .int .u32 (r2 11), .int .u32 (r2 12), .int .u32 (r2 13), .int .u32 (r2 14), .int .u32 (r2 15), .slice ba2 bn2 bc2, .int .i64 wt2, .slice ma2 mn2 mc2, .slice ia2 in2 ic2, .slice oa2 on2 oc2, .bool en2, .int .u32 cd2, .int .i64 ft2]) 37)) = w0 at HA A1 A2 H2 H3 H4 H5 ⊢
          have p0 : w0.cell? ⟨w.heap.size, 0, none⟩ = some (.int .i64 at1) := (A1) 0 _ rfl
          have p1 : w0.cell? ⟨w.heap.size, 1, none⟩ = some (.int .u32 (r1 0)) := (A1) 1 _ rfl
          have p2 : w0.cell? ⟨w.heap.size, 2, none⟩ = some (.int .u32 (r1 1)) := (A1) 2 _ rfl
          have p3 : w0.cell? ⟨w.heap.size, 3, none⟩ = some (.int .u32 (r1 2)) := (A1) 3 _ rfl
          have p4 : w0.cell? ⟨w.heap.size, 4, none⟩ = some (.int .u32 (r1 3)) := (A1) 4 _ rfl
          have p5 : w0.cell? ⟨w.heap.size, 5, none⟩ = some (.int .u32 (r1 4)) := (A1) 5 _ rfl
          have p6 : w0.cell? ⟨w.heap.size, 6, none⟩ = some (.int .u32 (r1 5)) := (A1) 6 _ rfl
          have p7 : w0.cell? ⟨w.heap.size, 7, none⟩ = some (.int .u32 (r1 6)) := (A1) 7 _ rfl
          have p8 : w0.cell? ⟨w.heap.size, 8, none⟩ = some (.int .u32 (r1 7)) := (A1) 8 _ rfl
          have p9 : w0.cell? ⟨w.heap.size, 9, none⟩ = some (.int .u32 (r1 8)) := (A1) 9 _ rfl
          have p10 : w0.cell? ⟨w.heap.size, 10, none⟩ = some (.int .u32 (r1 9)) := (A1) 10 _ rfl
          have p11 : w0.cell? ⟨w.heap.size, 11, none⟩ = some (.int .u32 (r1 10)) := (A1) 11 _ rfl
          have p12 : w0.cell? ⟨w.heap.size, 12, none⟩ = some (.int .u32 (r1 11)) := (A1) 12 _ rfl
          have p13 : w0.cell? ⟨w.heap.size, 13, none⟩ = some (.int .u32 (r1 12)) := (A1) 13 _ rfl
          have p14 : w0.cell? ⟨w.heap.size, 14, none⟩ = some (.int .u32 (r1 13)) := (A1) 14 _ rfl
          have p15 : w0.cell? ⟨w.heap.size, 15, none⟩ = some (.int .u32 (r1 14)) := (A1) 15 _ rfl
          have p16 : w0.cell? ⟨w.heap.size, 16, none⟩ = some (.int .u32 (r1 15)) := (A1) 16 _ rfl
          have p17 : w0.cell? ⟨w.heap.size, 17, none⟩ = some (.slice ba1 bn1 bc1) := (A1) 17 _ rfl
          have q0 : w0.cell? ⟨w.heap.size + 1, 0, none⟩ = some (.int .i64 at2) := (A2) 0 _ rfl
          have q1 : w0.cell? ⟨w.heap.size + 1, 1, none⟩ = some (.int .u32 (r2 0)) := (A2) 1 _ rfl
          have q2 : w0.cell? ⟨w.heap.size + 1, 2, none⟩ = some (.int .u32 (r2 1)) := (A2) 2 _ rfl
          have q3 : w0.cell? ⟨w.heap.size + 1, 3, none⟩ = some (.int .u32 (r2 2)) := (A2) 3 _ rfl
          have q4 : w0.cell? ⟨w.heap.size + 1, 4, none⟩ = some (.int .u32 (r2 3)) := (A2) 4 _ rfl
          have q5 : w0.cell? ⟨w.heap.size + 1, 5, none⟩ = some (.int .u32 (r2 4)) := (A2) 5 _ rfl
          have q6 : w0.cell? ⟨w.heap.size + 1, 6, none⟩ = some (.int .u32 (r2 5)) := (A2) 6 _ rfl
          have q7 : w0.cell? ⟨w.heap.size + 1, 7, none⟩ = some (.int .u32 (r2 6)) := (A2) 7 _ rfl
          have q8 : w0.cell? ⟨w.heap.size + 1, 8, none⟩ = some (.int .u32 (r2 7)) := (A2) 8 _ rfl
          have q9 : w0.cell? ⟨w.heap.size + 1, 9, none⟩ = some (.int .u32 (r2 8)) := (A2) 9 _ rfl
          have q10 : w0.cell? ⟨w.heap.size + 1, 10, none⟩ = some (.int .u32 (r2 9)) := (A2) 10 _ rfl
          have q11 : w0.cell? ⟨w.heap.size + 1, 11, none⟩ = some (.int .u32 (r2 10)) := (A2) 11 _ rfl
          have q12 : w0.cell? ⟨w.heap.size + 1, 12, none⟩ = some (.int .u32 (r2 11)) := (A2) 12 _ rfl
          have q13 : w0.cell? ⟨w.heap.size + 1, 13, none⟩ = some (.int .u32 (r2 12)) := (A2) 13 _ rfl
          have q14 : w0.cell? ⟨w.heap.size + 1, 14, none⟩ = some (.int .u32 (r2 13)) := (A2) 14 _ rfl
          have q15 : w0.cell? ⟨w.heap.size + 1, 15, none⟩ = some (.int .u32 (r2 14)) := (A2) 15 _ rfl
          have q16 : w0.cell? ⟨w.heap.size + 1, 16, none⟩ = some (.int .u32 (r2 15)) := (A2) 16 _ rfl
          have q17 : w0.cell? ⟨w.heap.size + 1, 17, none⟩ = some (.slice ba2 bn2 bc2) := (A2) 17 _ rfl
          go_wp2_with (first
            | (go_at_call 30; refine (H2.out _ (Below.refl _ _)).mono ?_; rintro e w1 ⟨rfl, hb1⟩; have p18 : w1.cell? ⟨w.heap.size, 18, none⟩ = some (.int .i64 wt1) := (A1.later hb1) 18 _ rfl; have p19 : w1.cell? ⟨w.heap.size, 19, none⟩ = some (.slice ma1 mn1 mc1) := (A1.later hb1) 19 _ rfl; have q18 : w1.cell? ⟨w.heap.size + 1, 18, none⟩ = some (.int .i64 wt2) := (A2.later hb1) 18 _ rfl; have q19 : w1.cell? ⟨w.heap.size + 1, 19, none⟩ = some (.slice ma2 mn2 mc2) := (A2.later hb1) 19 _ rfl)
            | (go_at_call 31; refine (H3.out _ hb1).mono ?_; rintro e w2 ⟨rfl, hb2⟩; have k2 := bnext hb1 hb2; have p20 : w2.cell? ⟨w.heap.size, 20, none⟩ = some (.slice ia1 in1 ic1) := (A1.later k2) 20 _ rfl; have q20 : w2.cell? ⟨w.heap.size + 1, 20, none⟩ = some (.slice ia2 in2 ic2) := (A2.later k2) 20 _ rfl)
            | (go_at_call 14; revert hb3; intro hb3; refine (H5.out _ k3).mono ?_; rintro e w4 ⟨rfl, hb4⟩; have k4 := bnext k3 hb4; have p22 : w4.cell? ⟨w.heap.size, 22, none⟩ = some (.bool en1) := (A1.later k4) 22 _ rfl; have p23 : w4.cell? ⟨w.heap.size, 23, none⟩ = some (.int .u32 cd1) := (A1.later k4) 23 _ rfl; have p24 : w4.cell? ⟨w.heap.size, 24, none⟩ = some (.int .i64 ft1) := (A1.later k4) 24 _ rfl; have q22 : w4.cell? ⟨w.heap.size + 1, 22, none⟩ = some (.bool en2) := (A2.later k4) 22 _ rfl; have q23 : w4.cell? ⟨w.heap.size + 1, 23, none⟩ = some (.int .u32 cd2) := (A2.later k4) 23 _ rfl; have q24 : w4.cell? ⟨w.heap.size + 1, 24, none⟩ = some (.int .i64 ft2) := (A2.later k4) 24 _ rfl)
            | (go_at_call 14; refine (H4.out _ k2).mono ?_; rintro e w3 ⟨rfl, hb3⟩; have k3 := bnext k2 hb3; have p21 : w3.cell? ⟨w.heap.size, 21, none⟩ = some (.slice oa1 on1 oc1) := (A1.later k3) 21 _ rfl; have q21 : w3.cell? ⟨w.heap.size + 1, 21, none⟩ = some (.slice oa2 on2 oc2) := (A2.later k3) 21 _ rfl))
          go_ret
          exact ⟨rfl, bnext' HA.out k2⟩
        · skip
          cases c4
          · have e : S = false := by have h := HU.out; simpa [hq0] using h
            subst e
            clear HU
            have heq := HE.out
            simp only [regsV] at heq
            go_enter Tryd.func16, Tryd.ntmps16
            go_upto_region 1 with fail
            generalize ((w.alloc (.cells (#[.int .i64 at1, .int .u32 (r1 0), .int .u32 (r1 1), .int .u32 (r1 2), .int .u32 (r1 3), .int .u32 (r1 4), .int .u32 (r1 5), .int .u32 (r1 6), .int .u32 (r1 7), .int .u32 (r1 8), .int .u32 (r1 9), .int .u32 (r1 10), .int .u32 (r1 11), .int .u32 (r1 12), .int .u32 (r1 13), .int .u32 (r1 14), .int .u32 (r1 15), .slice ba1 bn1 bc1, .int .i64 wt1, .slice ma1 mn1 mc1, .slice ia1 in1 ic1, .slice oa1 on1 oc1, .bool en1, .int .u32 cd1, .int .i64 ft1]) 37)).alloc (.cells (#[.int .i64 at2, .int .u32 (r2 0), .int .u32 (r2 1), .int .u32 (r2 2), .int .u32 (r2 3), .int .u32 (r2 4), .int .u32 (r2 5), .int .u32 (r2 6), .int .u32 (r2 7), .int .u32 (r2 8), .int .u32 (r2 9), .int .u32 (r2 10), .int .u32 (r2 11), .int .u32 (r2 12), .int .u32 (r2 13), .int .u32 (r2 14), .int .u32 (r2 15), .slice ba2 bn2 bc2, .int .i64 wt2, .slice ma2 mn2 mc2, .slice ia2 in2 ic2, .slice oa2 on2 oc2, .bool en2, .int .u32 cd2, .int .i64 ft2]) 37)) = w0 at HA A1 A2 H2 H3 H4 H5 ⊢
            have p0 : w0.cell? ⟨w.heap.size, 0, none⟩ = some (.int .i64 at1) := (A1) 0 _ rfl
            have p1 : w0.cell? ⟨w.heap.size, 1, none⟩ = some (.int .u32 (r1 0)) := (A1) 1 _ rfl
            have p2 : w0.cell? ⟨w.heap.size, 2, none⟩ = some (.int .u32 (r1 1)) := (A1) 2 _ rfl
            have p3 : w0.cell? ⟨w.heap.size, 3, none⟩ = some (.int .u32 (r1 2)) := (A1) 3 _ rfl
            have p4 : w0.cell? ⟨w.heap.size, 4, none⟩ = some (.int .u32 (r1 3)) := (A1) 4 _ rfl
            have p5 : w0.cell? ⟨w.heap.size, 5, none⟩ = some (.int .u32 (r1 4)) := (A1) 5 _ rfl
            have p6 : w0.cell? ⟨w.heap.size, 6, none⟩ = some (.int .u32 (r1 5)) := (A1) 6 _ rfl
            have p7 : w0.cell? ⟨w.heap.size, 7, none⟩ = some (.int .u32 (r1 6)) := (A1) 7 _ rfl
            have p8 : w0.cell? ⟨w.heap.size, 8, none⟩ = some (.int .u32 (r1 7)) := (A1) 8 _ rfl
            have p9 : w0.cell? ⟨w.heap.size, 9, none⟩ = some (.int .u32 (r1 8)) := (A1) 9 _ rfl
            have p10 : w0.cell? ⟨w.heap.size, 10, none⟩ = some (.int .u32 (r1 9)) := (A1) 10 _ rfl
            have p11 : w0.cell? ⟨w.heap.size, 11, none⟩ = some (.int .u32 (r1 10)) := (A1) 11 _ rfl
            have p12 : w0.cell? ⟨w.heap.size, 12, none⟩ = some (.int .u32 (r1 11)) := (A1) 12 _ rfl
            have p13 : w0.cell? ⟨w.heap.size, 13, none⟩ = some (.int .u32 (r1 12)) := (A1) 13 _ rfl
            have p14 : w0.cell? ⟨w.heap.size, 14, none⟩ = some (.int .u32 (r1 13)) := (A1) 14 _ rfl
            have p15 : w0.cell? ⟨w.heap.size, 15, none⟩ = some (.int .u32 (r1 14)) := (A1) 15 _ rfl
            have p16 : w0.cell? ⟨w.heap.size, 16, none⟩ = some (.int .u32 (r1 15)) := (A1) 16 _ rfl
            have p17 : w0.cell? ⟨w.heap.size, 17, none⟩ = some (.slice ba1 bn1 bc1) := (A1) 17 _ rfl
            have q0 : w0.cell? ⟨w.heap.size + 1, 0, none⟩ = some (.int .i64 at2) := (A2) 0 _ rfl
            have q1 : w0.cell? ⟨w.heap.size + 1, 1, none⟩ = some (.int .u32 (r2 0)) := (A2) 1 _ rfl
            have q2 : w0.cell? ⟨w.heap.size + 1, 2, none⟩ = some (.int .u32 (r2 1)) := (A2) 2 _ rfl
            have q3 : w0.cell? ⟨w.heap.size + 1, 3, none⟩ = some (.int .u32 (r2 2)) := (A2) 3 _ rfl
            have q4 : w0.cell? ⟨w.heap.size + 1, 4, none⟩ = some (.int .u32 (r2 3)) := (A2) 4 _ rfl
            have q5 : w0.cell? ⟨w.heap.size + 1, 5, none⟩ = some (.int .u32 (r2 4)) := (A2) 5 _ rfl
            have q6 : w0.cell? ⟨w.heap.size + 1, 6, none⟩ = some (.int .u32 (r2 5)) := (A2) 6 _ rfl
            have q7 : w0.cell? ⟨w.heap.size + 1, 7, none⟩ = some (.int .u32 (r2 6)) := (A2) 7 _ rfl
            have q8 : w0.cell? ⟨w.heap.size + 1, 8, none⟩ = some (.int .u32 (r2 7)) := (A2) 8 _ rfl
            have q9 : w0.cell? ⟨w.heap.size + 1, 9, none⟩ = some (.int .u32 (r2 8)) := (A2) 9 _ rfl
            have q10 : w0.cell? ⟨w.heap.size + 1, 10, none⟩ = some (.int .u32 (r2 9)) := (A2) 10 _ rfl
            have q11 : w0.cell? ⟨w.heap.size + 1, 11, none⟩ = some (.int .u32 (r2 10)) := (A2) 11 _ rfl
            have q12 : w0.cell? ⟨w.heap.size + 1, 12, none⟩ = some (.int .u32 (r2 11)) := (A2) 12 _ rfl
            have q13 : w0.cell? ⟨w.heap.size + 1, 13, none⟩ = some (.int .u32 (r2 12)) := (A2) 13 _ rfl
            have q14 : w0.cell? ⟨w.heap.size + 1, 14, none⟩ = some (.int .u32 (r2 13)) := (A2) 14 _ rfl
            have q15 : w0.cell? ⟨w.heap.size + 1, 15, none⟩ = some (.int .u32 (r2 14)) := (A2) 15 _ rfl
            have q16 : w0.cell? ⟨w.heap.size + 1, 16, none⟩ = some (.int .u32 (r2 15)) := (A2) 16 _ rfl
            have q17 : w0.cell? ⟨w.heap.size + 1, 17, none⟩ = some (.slice ba2 bn2 bc2) := (A2) 17 _ rfl
            go_wp2_with (first
              | (go_at_call 30; refine (H2.out _ (Below.refl _ _)).mono ?_; rintro e w1 ⟨rfl, hb1⟩; have p18 : w1.cell? ⟨w.heap.size, 18, none⟩ = some (.int .i64 wt1) := (A1.later hb1) 18 _ rfl; have p19 : w1.cell? ⟨w.heap.size, 19, none⟩ = some (.slice ma1 mn1 mc1) := (A1.later hb1) 19 _ rfl; have q18 : w1.cell? ⟨w.heap.size + 1, 18, none⟩ = some (.int .i64 wt2) := (A2.later hb1) 18 _ rfl; have q19 : w1.cell? ⟨w.heap.size + 1, 19, none⟩ = some (.slice ma2 mn2 mc2) := (A2.later hb1) 19 _ rfl)
              | (go_at_call 31; refine (H3.out _ hb1).mono ?_; rintro e w2 ⟨rfl, hb2⟩; have k2 := bnext hb1 hb2; have p20 : w2.cell? ⟨w.heap.size, 20, none⟩ = some (.slice ia1 in1 ic1) := (A1.later k2) 20 _ rfl; have q20 : w2.cell? ⟨w.heap.size + 1, 20, none⟩ = some (.slice ia2 in2 ic2) := (A2.later k2) 20 _ rfl)
              | (go_at_call 14; revert hb3; intro hb3; refine (H5.out _ k3).mono ?_; rintro e w4 ⟨rfl, hb4⟩; have k4 := bnext k3 hb4; have p22 : w4.cell? ⟨w.heap.size, 22, none⟩ = some (.bool en1) := (A1.later k4) 22 _ rfl; have p23 : w4.cell? ⟨w.heap.size, 23, none⟩ = some (.int .u32 cd1) := (A1.later k4) 23 _ rfl; have p24 : w4.cell? ⟨w.heap.size, 24, none⟩ = some (.int .i64 ft1) := (A1.later k4) 24 _ rfl; have q22 : w4.cell? ⟨w.heap.size + 1, 22, none⟩ = some (.bool en2) := (A2.later k4) 22 _ rfl; have q23 : w4.cell? ⟨w.heap.size + 1, 23, none⟩ = some (.int .u32 cd2) := (A2.later k4) 23 _ rfl; have q24 : w4.cell? ⟨w.heap.size + 1, 24, none⟩ = some (.int .i64 ft2) := (A2.later k4) 24 _ rfl)
              | (go_at_call 14; refine (H4.out _ k2).mono ?_; rintro e w3 ⟨rfl, hb3⟩; have k3 := bnext k2 hb3; have p21 : w3.cell? ⟨w.heap.size, 21, none⟩ = some (.slice oa1 on1 oc1) := (A1.later k3) 21 _ rfl; have q21 : w3.cell? ⟨w.heap.size + 1, 21, none⟩ = some (.slice oa2 on2 oc2) := (A2.later k3) 21 _ rfl))
            go_ret
            exact ⟨rfl, bnext' HA.out k3⟩
          · skip
            cases c5
            · have e : S = false := by have h := HU.out; simpa [hq0] using h
              subst e
              clear HU
              have heq := HE.out
              simp only [regsV] at heq
              go_enter Tryd.func16, Tryd.ntmps16
              go_upto_region 1 with fail
              generalize ((w.alloc (.cells (#[.int .i64 at1, .int .u32 (r1 0), .int .u32 (r1 1), .int .u32 (r1 2), .int .u32 (r1 3), .int .u32 (r1 4), .int .u32 (r1 5), .int .u32 (r1 6), .int .u32 (r1 7), .int .u32 (r1 8), .int .u32 (r1 9), .int .u32 (r1 10), .int .u32 (r1 11), .int .u32 (r1 12), .int .u32 (r1 13), .int .u32 (r1 14), .int .u32 (r1 15), .slice ba1 bn1 bc1, .int .i64 wt1, .slice ma1 mn1 mc1, .slice ia1 in1 ic1, .slice oa1 on1 oc1, .bool en1, .int .u32 cd1, .int .i64 ft1]) 37)).alloc (.cells (#[.int .i64 at2, .int .u32 (r2 0), .int .u32 (r2 1), .int .u32 (r2 2), .int .u32 (r2 3), .int .u32 (r2 4), .int .u32 (r2 5), .int .u32 (r2 6), .int .u32 (r2 7), .int .u32 (r2 8), .int .u32 (r2 9), .int .u32 (r2 10), .int .u32 (r2 11), .int .u32 (r2 12), .int .u32 (r2 13), .int .u32 (r2 14), .int .u32 (r2 15), .slice ba2 bn2 bc2, .int .i64 wt2, .slice ma2 mn2 mc2, .slice ia2 in2 ic2, .slice oa2 on2 oc2, .bool en2, .int .u32 cd2, .int .i64 ft2]) 37)) = w0 at HA A1 A2 H2 H3 H4 H5 ⊢
              have p0 : w0.cell? ⟨w.heap.size, 0, none⟩ = some (.int .i64 at1) := (A1) 0 _ rfl
              have p1 : w0.cell? ⟨w.heap.size, 1, none⟩ = some (.int .u32 (r1 0)) := (A1) 1 _ rfl
              have p2 : w0.cell? ⟨w.heap.size, 2, none⟩ = some (.int .u32 (r1 1)) := (A1) 2 _ rfl
              have p3 : w0.cell? ⟨w.heap.size, 3, none⟩ = some (.int .u32 (r1 2)) := (A1) 3 _ rfl
              have p4 : w0.cell? ⟨w.heap.size, 4, none⟩ = some (.int .u32 (r1 3)) := (A1) 4 _ rfl
              have p5 : w0.cell? ⟨w.heap.size, 5, none⟩ = some (.int .u32 (r1 4)) := (A1) 5 _ rfl
              have p6 : w0.cell? ⟨w.heap.size, 6, none⟩ = some (.int .u32 (r1 5)) := (A1) 6 _ rfl
              have p7 : w0.cell? ⟨w.heap.size, 7, none⟩ = some (.int .u32 (r1 6)) := (A1) 7 _ rfl
              have p8 : w0.cell? ⟨w.heap.size, 8, none⟩ = some (.int .u32 (r1 7)) := (A1) 8 _ rfl
              have p9 : w0.cell? ⟨w.heap.size, 9, none⟩ = some (.int .u32 (r1 8)) := (A1) 9 _ rfl
              have p10 : w0.cell? ⟨w.heap.size, 10, none⟩ = some (.int .u32 (r1 9)) := (A1) 10 _ rfl
              have p11 : w0.cell? ⟨w.heap.size, 11, none⟩ = some (.int .u32 (r1 10)) := (A1) 11 _ rfl
              have p12 : w0.cell? ⟨w.heap.size, 12, none⟩ = some (.int .u32 (r1 11)) := (A1) 12 _ rfl
              have p13 : w0.cell? ⟨w.heap.size, 13, none⟩ = some (.int .u32 (r1 12)) := (A1) 13 _ rfl
              have p14 : w0.cell? ⟨w.heap.size, 14, none⟩ = some (.int .u32 (r1 13)) := (A1) 14 _ rfl
              have p15 : w0.cell? ⟨w.heap.size, 15, none⟩ = some (.int .u32 (r1 14)) := (A1) 15 _ rfl
              have p16 : w0.cell? ⟨w.heap.size, 16, none⟩ = some (.int .u32 (r1 15)) := (A1) 16 _ rfl
              have p17 : w0.cell? ⟨w.heap.size, 17, none⟩ = some (.slice ba1 bn1 bc1) := (A1) 17 _ rfl
              have q0 : w0.cell? ⟨w.heap.size + 1, 0, none⟩ = some (.int .i64 at2) := (A2) 0 _ rfl
              have q1 : w0.cell? ⟨w.heap.size + 1, 1, none⟩ = some (.int .u32 (r2 0)) := (A2) 1 _ rfl
              have q2 : w0.cell? ⟨w.heap.size + 1, 2, none⟩ = some (.int .u32 (r2 1)) := (A2) 2 _ rfl
              have q3 : w0.cell? ⟨w.heap.size + 1, 3, none⟩ = some (.int .u32 (r2 2)) := (A2) 3 _ rfl
              have q4 : w0.cell? ⟨w.heap.size + 1, 4, none⟩ = some (.int .u32 (r2 3)) := (A2) 4 _ rfl
              have q5 : w0.cell? ⟨w.heap.size + 1, 5, none⟩ = some (.int .u32 (r2 4)) := (A2) 5 _ rfl
              have q6 : w0.cell? ⟨w.heap.size + 1, 6, none⟩ = some (.int .u32 (r2 5)) := (A2) 6 _ rfl
              have q7 : w0.cell? ⟨w.heap.size + 1, 7, none⟩ = some (.int .u32 (r2 6)) := (A2) 7 _ rfl
              have q8 : w0.cell? ⟨w.heap.size + 1, 8, none⟩ = some (.int .u32 (r2 7)) := (A2) 8 _ rfl
              have q9 : w0.cell? ⟨w.heap.size + 1, 9, none⟩ = some (.int .u32 (r2 8)) := (A2) 9 _ rfl
              have q10 : w0.cell? ⟨w.heap.size + 1, 10, none⟩ = some (.int .u32 (r2 9)) := (A2) 10 _ rfl
              have q11 : w0.cell? ⟨w.heap.size + 1, 11, none⟩ = some (.int .u32 (r2 10)) := (A2) 11 _ rfl
              have q12 : w0.cell? ⟨w.heap.size + 1, 12, none⟩ = some (.int .u32 (r2 11)) := (A2) 12 _ rfl
              have q13 : w0.cell? ⟨w.heap.size + 1, 13, none⟩ = some (.int .u32 (r2 12)) := (A2) 13 _ rfl
              have q14 : w0.cell? ⟨w.heap.size + 1, 14, none⟩ = some (.int .u32 (r2 13)) := (A2) 14 _ rfl
              have q15 : w0.cell? ⟨w.heap.size + 1, 15, none⟩ = some (.int .u32 (r2 14)) := (A2) 15 _ rfl
              have q16 : w0.cell? ⟨w.heap.size + 1, 16, none⟩ = some (.int .u32 (r2 15)) := (A2) 16 _ rfl
              have q17 : w0.cell? ⟨w.heap.size + 1, 17, none⟩ = some (.slice ba2 bn2 bc2) := (A2) 17 _ rfl
              go_wp2_with (first
                | (go_at_call 30; refine (H2.out _ (Below.refl _ _)).mono ?_; rintro e w1 ⟨rfl, hb1⟩; have p18 : w1.cell? ⟨w.heap.size, 18, none⟩ = some (.int .i64 wt1) := (A1.later hb1) 18 _ rfl; have p19 : w1.cell? ⟨w.heap.size, 19, none⟩ = some (.slice ma1 mn1 mc1) := (A1.later hb1) 19 _ rfl; have q18 : w1.cell? ⟨w.heap.size + 1, 18, none⟩ = some (.int .i64 wt2) := (A2.later hb1) 18 _ rfl; have q19 : w1.cell? ⟨w.heap.size + 1, 19, none⟩ = some (.slice ma2 mn2 mc2) := (A2.later hb1) 19 _ rfl)
                | (go_at_call 31; refine (H3.out _ hb1).mono ?_; rintro e w2 ⟨rfl, hb2⟩; have k2 := bnext hb1 hb2; have p20 : w2.cell? ⟨w.heap.size, 20, none⟩ = some (.slice ia1 in1 ic1) := (A1.later k2) 20 _ rfl; have q20 : w2.cell? ⟨w.heap.size + 1, 20, none⟩ = some (.slice ia2 in2 ic2) := (A2.later k2) 20 _ rfl)
                | (go_at_call 14; revert hb3; intro hb3; refine (H5.out _ k3).mono ?_; rintro e w4 ⟨rfl, hb4⟩; have k4 := bnext k3 hb4; have p22 : w4.cell? ⟨w.heap.size, 22, none⟩ = some (.bool en1) := (A1.later k4) 22 _ rfl; have p23 : w4.cell? ⟨w.heap.size, 23, none⟩ = some (.int .u32 cd1) := (A1.later k4) 23 _ rfl; have p24 : w4.cell? ⟨w.heap.size, 24, none⟩ = some (.int .i64 ft1) := (A1.later k4) 24 _ rfl; have q22 : w4.cell? ⟨w.heap.size + 1, 22, none⟩ = some (.bool en2) := (A2.later k4) 22 _ rfl; have q23 : w4.cell? ⟨w.heap.size + 1, 23, none⟩ = some (.int .u32 cd2) := (A2.later k4) 23 _ rfl; have q24 : w4.cell? ⟨w.heap.size + 1, 24, none⟩ = some (.int .i64 ft2) := (A2.later k4) 24 _ rfl)
                | (go_at_call 14; refine (H4.out _ k2).mono ?_; rintro e w3 ⟨rfl, hb3⟩; have k3 := bnext k2 hb3; have p21 : w3.cell? ⟨w.heap.size, 21, none⟩ = some (.slice oa1 on1 oc1) := (A1.later k3) 21 _ rfl; have q21 : w3.cell? ⟨w.heap.size + 1, 21, none⟩ = some (.slice oa2 on2 oc2) := (A2.later k3) 21 _ rfl))
              go_ret
              exact ⟨rfl, bnext' HA.out k4⟩
            · skip
              cases hq6 : (en1 == en2)
              · have e : S = false := by have h := HU.out; simpa [hq0, hq6] using h
                subst e
                clear HU
                have heq := HE.out
                simp only [regsV] at heq
                go_enter Tryd.func16, Tryd.ntmps16
                go_upto_region 1 with fail
                generalize ((w.alloc (.cells (#[.int .i64 at1, .int .u32 (r1 0), .int .u32 (r1 1), .int .u32 (r1 2), .int .u32 (r1 3), .int .u32 (r1 4), .int .u32 (r1 5), .int .u32 (r1 6), .int .u32 (r1 7), .int .u32 (r1 8), .int .u32 (r1 9), .int .u32 (r1 10), .int .u32 (r1 11), .int .u32 (r1 12), .int .u32 (r1 13), .int .u32 (r1 14), .int .u32 (r1 15), .slice ba1 bn1 bc1, .int .i64 wt1, .slice ma1 mn1 mc1, .slice ia1 in1 ic1, .slice oa1 on1 oc1, .bool en1, .int .u32 cd1, .int .i64 ft1]) 37)).alloc (.cells (#[.int .i64 at2, .int .u32 (r2 0), .int .u32 (r2 1), .int .u32 (r2 2), .int .u32 (r2 3), .int .u32 (r2 4), .int .u32 (r2 5), .int .u32 (r2 6), .int .u32 (r2 7), .int .u32 (r2 8), .int .u32 (r2 9), .int .u32 (r2 10), .int .u32 (r2 11), .int .u32 (r2 12), .int .u32 (r2 13), .int .u32 (r2 14), .int .u32 (r2 15), .slice ba2 bn2 bc2, .int .i64 wt2, .slice ma2 mn2 mc2, .slice ia2 in2 ic2, .slice oa2 on2 oc2, .bool en2, .int .u32 cd2, .int .i64 ft2]) 37)) = w0 at HA A1 A2 H2 H3 H4 H5 ⊢
                have p0 : w0.cell? ⟨w.heap.size, 0, none⟩ = some (.int .i64 at1) := (A1) 0 _ rfl
                have p1 : w0.cell? ⟨w.heap.size, 1, none⟩ = some (.int .u32 (r1 0)) := (A1) 1 _ rfl
                have p2 : w0.cell? ⟨w.heap.size, 2, none⟩ = some (.int .u32 (r1 1)) := (A1) 2 _ rfl
                have p3 : w0.cell? ⟨w.heap.size, 3, none⟩ = some (.int .u32 (r1 2)) := (A1) 3 _ rfl
                have p4 : w0.cell? ⟨w.heap.size, 4, none⟩ = some (.int .u32 (r1 3)) := (A1) 4 _ rfl
                have p5 : w0.cell? ⟨w.heap.size, 5, none⟩ = some (.int .u32 (r1 4)) := (A1) 5 _ rfl
                have p6 : w0.cell? ⟨w.heap.size, 6, none⟩ = some (.int .u32 (r1 5)) := (A1) 6 _ rfl
                have p7 : w0.cell? ⟨w.heap.size, 7, none⟩ = some (.int .u32 (r1 6)) := (A1) 7 _ rfl
                have p8 : w0.cell? ⟨w.heap.size, 8, none⟩ = some (.int .u32 (r1 7)) := (A1) 8 _ rfl
                have p9 : w0.cell? ⟨w.heap.size, 9, none⟩ = some (.int .u32 (r1 8)) := (A1) 9 _ rfl
                have p10 : w0.cell? ⟨w.heap.size, 10, none⟩ = some (.int .u32 (r1 9)) := (A1) 10 _ rfl
                have p11 : w0.cell? ⟨w.heap.size, 11, none⟩ = some (.int .u32 (r1 10)) := (A1) 11 _ rfl
                have p12 : w0.cell? ⟨w.heap.size, 12, none⟩ = some (.int .u32 (r1 11)) := (A1) 12 _ rfl
                have p13 : w0.cell? ⟨w.heap.size, 13, none⟩ = some (.int .u32 (r1 12)) := (A1) 13 _ rfl
                have p14 : w0.cell? ⟨w.heap.size, 14, none⟩ = some (.int .u32 (r1 13)) := (A1) 14 _ rfl
                have p15 : w0.cell? ⟨w.heap.size, 15, none⟩ = some (.int .u32 (r1 14)) := (A1) 15 _ rfl
                have p16 : w0.cell? ⟨w.heap.size, 16, none⟩ = some (.int .u32 (r1 15)) := (A1) 16 _ rfl
                have p17 : w0.cell? ⟨w.heap.size, 17, none⟩ = some (.slice ba1 bn1 bc1) := (A1) 17 _ rfl
                have q0 : w0.cell? ⟨w.heap.size + 1, 0, none⟩ = some (.int .i64 at2) := (A2) 0 _ rfl
                have q1 : w0.cell? ⟨w.heap.size + 1, 1, none⟩ = some (.int .u32 (r2 0)) := (A2) 1 _ rfl
                have q2 : w0.cell? ⟨w.heap.size + 1, 2, none⟩ = some (.int .u32 (r2 1)) := (A2) 2 _ rfl
                have q3 : w0.cell? ⟨w.heap.size + 1, 3, none⟩ = some (.int .u32 (r2 2)) := (A2) 3 _ rfl
                have q4 : w0.cell? ⟨w.heap.size + 1, 4, none⟩ = some (.int .u32 (r2 3)) := (A2) 4 _ rfl
                have q5 : w0.cell? ⟨w.heap.size + 1, 5, none⟩ = some (.int .u32 (r2 4)) := (A2) 5 _ rfl
                have q6 : w0.cell? ⟨w.heap.size + 1, 6, none⟩ = some (.int .u32 (r2 5)) := (A2) 6 _ rfl
                have q7 : w0.cell? ⟨w.heap.size + 1, 7, none⟩ = some (.int .u32 (r2 6)) := (A2) 7 _ rfl
                have q8 : w0.cell? ⟨w.heap.size + 1, 8, none⟩ = some (.int .u32 (r2 7)) := (A2) 8 _ rfl
                have q9 : w0.cell? ⟨w.heap.size + 1, 9, none⟩ = some (.int .u32 (r2 8)) := (A2) 9 _ rfl
                have q10 : w0.cell? ⟨w.heap.size + 1, 10, none⟩ = some (.int .u32 (r2 9)) := (A2) 10 _ rfl
                have q11 : w0.cell? ⟨w.heap.size + 1, 11, none⟩ = some (.int .u32 (r2 10)) := (A2) 11 _ rfl
                have q12 : w0.cell? ⟨w.heap.size + 1, 12, none⟩ = some (.int .u32 (r2 11)) := (A2) 12 _ rfl
                have q13 : w0.cell? ⟨w.heap.size + 1, 13, none⟩ = some (.int .u32 (r2 12)) := (A2) 13 _ rfl
                have q14 : w0.cell? ⟨w.heap.size + 1, 14, none⟩ = some (.int .u32 (r2 13)) := (A2) 14 _ rfl
                have q15 : w0.cell? ⟨w.heap.size + 1, 15, none⟩ = some (.int .u32 (r2 14)) := (A2) 15 _ rfl
                have q16 : w0.cell? ⟨w.heap.size + 1, 16, none⟩ = some (.int .u32 (r2 15)) := (A2) 16 _ rfl
                have q17 : w0.cell? ⟨w.heap.size + 1, 17, none⟩ = some (.slice ba2 bn2 bc2) := (A2) 17 _ rfl
                go_wp2_with (first
                  | (go_at_call 30; refine (H2.out _ (Below.refl _ _)).mono ?_; rintro e w1 ⟨rfl, hb1⟩; have p18 : w1.cell? ⟨w.heap.size, 18, none⟩ = some (.int .i64 wt1) := (A1.later hb1) 18 _ rfl; have p19 : w1.cell? ⟨w.heap.size, 19, none⟩ = some (.slice ma1 mn1 mc1) := (A1.later hb1) 19 _ rfl; have q18 : w1.cell? ⟨w.heap.size + 1, 18, none⟩ = some (.int .i64 wt2) := (A2.later hb1) 18 _ rfl; have q19 : w1.cell? ⟨w.heap.size + 1, 19, none⟩ = some (.slice ma2 mn2 mc2) := (A2.later hb1) 19 _ rfl)
                  | (go_at_call 31; refine (H3.out _ hb1).mono ?_; rintro e w2 ⟨rfl, hb2⟩; have k2 := bnext hb1 hb2; have p20 : w2.cell? ⟨w.heap.size, 20, none⟩ = some (.slice ia1 in1 ic1) := (A1.later k2) 20 _ rfl; have q20 : w2.cell? ⟨w.heap.size + 1, 20, none⟩ = some (.slice ia2 in2 ic2) := (A2.later k2) 20 _ rfl)
                  | (go_at_call 14; revert hb3; intro hb3; refine (H5.out _ k3).mono ?_; rintro e w4 ⟨rfl, hb4⟩; have k4 := bnext k3 hb4; have p22 : w4.cell? ⟨w.heap.size, 22, none⟩ = some (.bool en1) := (A1.later k4) 22 _ rfl; have p23 : w4.cell? ⟨w.heap.size, 23, none⟩ = some (.int .u32 cd1) := (A1.later k4) 23 _ rfl; have p24 : w4.cell? ⟨w.heap.size, 24, none⟩ = some (.int .i64 ft1) := (A1.later k4) 24 _ rfl; have q22 : w4.cell? ⟨w.heap.size + 1, 22, none⟩ = some (.bool en2) := (A2.later k4) 22 _ rfl; have q23 : w4.cell? ⟨w.heap.size + 1, 23, none⟩ = some (.int .u32 cd2) := (A2.later k4) 23 _ rfl; have q24 : w4.cell? ⟨w.heap.size + 1, 24, none⟩ = some (.int .i64 ft2) := (A2.later k4) 24 _ rfl)
                  | (go_at_call 14; refine (H4.out _ k2).mono ?_; rintro e w3 ⟨rfl, hb3⟩; have k3 := bnext k2 hb3; have p21 : w3.cell? ⟨w.heap.size, 21, none⟩ = some (.slice oa1 on1 oc1) := (A1.later k3) 21 _ rfl; have q21 : w3.cell? ⟨w.heap.size + 1, 21, none⟩ = some (.slice oa2 on2 oc2) := (A2.later k3) 21 _ rfl))
                go_ret
                exact ⟨rfl, bnext' HA.out k4⟩
              · skip
                cases hq7 : (cd1 == cd2)
                · have e : S = false := by have h := HU.out; simpa [hq0, hq6, hq7] using h
                  subst e
                  clear HU
                  have heq := HE.out
                  simp only [regsV] at heq
                  go_enter Tryd.func16, Tryd.ntmps16
                  go_upto_region 1 with fail
                  generalize ((w.alloc (.cells (#[.int .i64 at1, .int .u32 (r1 0), .int .u32 (r1 1), .int .u32 (r1 2), .int .u32 (r1 3), .int .u32 (r1 4), .int .u32 (r1 5), .int .u32 (r1 6), .int .u32 (r1 7), .int .u32 (r1 8), .int .u32 (r1 9), .int .u32 (r1 10), .int .u32 (r1 11), .int .u32 (r1 12), .int .u32 (r1 13), .int .u32 (r1 14), .int .u32 (r1 15), .slice ba1 bn1 bc1, .int .i64 wt1, .slice ma1 mn1 mc1, .slice ia1 in1 ic1, .slice oa1 on1 oc1, .bool en1, .int .u32 cd1, .int .i64 ft1]) 37)).alloc (.cells (#[.int .i64 at2, .int .u32 (r2 0), .int .u32 (r2 1), .int .u32 (r2 2), .int .u32 (r2 3), .int .u32 (r2 4), .int .u32 (r2 5), .int .u32 (r2 6), .int .u32 (r2 7), .int .u32 (r2 8), .int .u32 (r2 9), .int .u32 (r2 10), .int .u32 (r2 11), .int .u32 (r2 12), .int .u32 (r2 13), .int .u32 (r2 14), .int .u32 (r2 15), .slice ba2 bn2 bc2, .int .i64 wt2, .slice ma2 mn2 mc2, .slice ia2 in2 ic2, .slice oa2 on2 oc2, .bool en2, .int .u32 cd2, .int .i64 ft2]) 37)) = w0 at HA A1 A2 H2 H3 H4 H5 ⊢
                  have p0 : w0.cell? ⟨w.heap.size, 0, none⟩ = some (.int .i64 at1) := (A1) 0 _ rfl
                  have p1 : w0.cell? ⟨w.heap.size, 1, none⟩ = some (.int .u32 (r1 0)) := (A1) 1 _ rfl
                  have p2 : w0.cell? ⟨w.heap.size, 2, none⟩ = some (.int .u32 (r1 1)) := (A1) 2 _ rfl
                  have p3 : w0.cell? ⟨w.heap.size, 3, none⟩ = some (.int .u32 (r1 2)) := (A1) 3 _ rfl
                  have p4 : w0.cell? ⟨w.heap.size, 4, none⟩ = some (.int .u32 (r1 3)) := (A1) 4 _ rfl
                  have p5 : w0.cell? ⟨w.heap.size, 5, none⟩ = some (.int .u32 (r1 4)) := (A1) 5 _ rfl
                  have p6 : w0.cell? ⟨w.heap.size, 6, none⟩ = some (.int .u32 (r1 5)) := (A1) 6 _ rfl
                  have p7 : w0.cell? ⟨w.heap.size, 7, none⟩ = some (.int .u32 (r1 6)) := (A1) 7 _ rfl
                  have p8 : w0.cell? ⟨w.heap.size, 8, none⟩ = some (.int .u32 (r1 7)) := (A1) 8 _ rfl
                  have p9 : w0.cell? ⟨w.heap.size, 9, none⟩ = some (.int .u32 (r1 8)) := (A1) 9 _ rfl
                  have p10 : w0.cell? ⟨w.heap.size, 10, none⟩ = some (.int .u32 (r1 9)) := (A1) 10 _ rfl
                  have p11 : w0.cell? ⟨w.heap.size, 11, none⟩ = some (.int .u32 (r1 10)) := (A1) 11 _ rfl
                  have p12 : w0.cell? ⟨w.heap.size, 12, none⟩ = some (.int .u32 (r1 11)) := (A1) 12 _ rfl
                  have p13 : w0.cell? ⟨w.heap.size, 13, none⟩ = some (.int .u32 (r1 12)) := (A1) 13 _ rfl
                  have p14 : w0.cell? ⟨w.heap.size, 14, none⟩ = some (.int .u32 (r1 13)) := (A1) 14 _ rfl
                  have p15 : w0.cell? ⟨w.heap.size, 15, none⟩ = some (.int .u32 (r1 14)) := (A1) 15 _ rfl
                  have p16 : w0.cell? ⟨w.heap.size, 16, none⟩ = some (.int .u32 (r1 15)) := (A1) 16 _ rfl
                  have p17 : w0.cell? ⟨w.heap.size, 17, none⟩ = some (.slice ba1 bn1 bc1) := (A1) 17 _ rfl
                  have q0 : w0.cell? ⟨w.heap.size + 1, 0, none⟩ = some (.int .i64 at2) := (A2) 0 _ rfl
                  have q1 : w0.cell? ⟨w.heap.size + 1, 1, none⟩ = some (.int .u32 (r2 0)) := (A2) 1 _ rfl
                  have q2 : w0.cell? ⟨w.heap.size + 1, 2, none⟩ = some (.int .u32 (r2 1)) := (A2) 2 _ rfl
                  have q3 : w0.cell? ⟨w.heap.size + 1, 3, none⟩ = some (.int .u32 (r2 2)) := (A2) 3 _ rfl
                  have q4 : w0.cell? ⟨w.heap.size + 1, 4, none⟩ = some (.int .u32 (r2 3)) := (A2) 4 _ rfl
                  have q5 : w0.cell? ⟨w.heap.size + 1, 5, none⟩ = some (.int .u32 (r2 4)) := (A2) 5 _ rfl
                  have q6 : w0.cell? ⟨w.heap.size + 1, 6, none⟩ = some (.int .u32 (r2 5)) := (A2) 6 _ rfl
                  have q7 : w0.cell? ⟨w.heap.size + 1, 7, none⟩ = some (.int .u32 (r2 6)) := (A2) 7 _ rfl
                  have q8 : w0.cell? ⟨w.heap.size + 1, 8, none⟩ = some (.int .u32 (r2 7)) := (A2) 8 _ rfl
                  have q9 : w0.cell? ⟨w.heap.size + 1, 9, none⟩ = some (.int .u32 (r2 8)) := (A2) 9 _ rfl
                  have q10 : w0.cell? ⟨w.heap.size + 1, 10, none⟩ = some (.int .u32 (r2 9)) := (A2) 10 _ rfl
                  have q11 : w0.cell? ⟨w.heap.size + 1, 11, none⟩ = some (.int .u32 (r2 10)) := (A2) 11 _ rfl
                  have q12 : w0.cell? ⟨w.heap.size + 1, 12, none⟩ = some (.int .u32 (r2 11)) := (A2) 12 _ rfl
                  have q13 : w0.cell? ⟨w.heap.size + 1, 13, none⟩ = some (.int .u32 (r2 12)) := (A2) 13 _ rfl
                  have q14 : w0.cell? ⟨w.heap.size + 1, 14, none⟩ = some (.int .u32 (r2 13)) := (A2) 14 _ rfl
                  have q15 : w0.cell? ⟨w.heap.size + 1, 15, none⟩ = some (.int .u32 (r2 14)) := (A2) 15 _ rfl
                  have q16 : w0.cell? ⟨w.heap.size + 1, 16, none⟩ = some (.int .u32 (r2 15)) := (A2) 16 _ rfl
                  have q17 : w0.cell? ⟨w.heap.size + 1, 17, none⟩ = some (.slice ba2 bn2 bc2) := (A2) 17 _ rfl
                  go_wp2_with (first
                    | (go_at_call 30; refine (H2.out _ (Below.refl _ _)).mono ?_; rintro e w1 ⟨rfl, hb1⟩; have p18 : w1.cell? ⟨w.heap.size, 18, none⟩ = some (.int .i64 wt1) := (A1.later hb1) 18 _ rfl; have p19 : w1.cell? ⟨w.heap.size, 19, none⟩ = some (.slice ma1 mn1 mc1) := (A1.later hb1) 19 _ rfl; have q18 : w1.cell? ⟨w.heap.size + 1, 18, none⟩ = some (.int .i64 wt2) := (A2.later hb1) 18 _ rfl; have q19 : w1.cell? ⟨w.heap.size + 1, 19, none⟩ = some (.slice ma2 mn2 mc2) := (A2.later hb1) 19 _ rfl)
                    | (go_at_call 31; refine (H3.out _ hb1).mono ?_; rintro e w2 ⟨rfl, hb2⟩; have k2 := bnext hb1 hb2; have p20 : w2.cell? ⟨w.heap.size, 20, none⟩ = some (.slice ia1 in1 ic1) := (A1.later k2) 20 _ rfl; have q20 : w2.cell? ⟨w.heap.size + 1, 20, none⟩ = some (.slice ia2 in2 ic2) := (A2.later k2) 20 _ rfl)
                    | (go_at_call 14; revert hb3; intro hb3; refine (H5.out _ k3).mono ?_; rintro e w4 ⟨rfl, hb4⟩; have k4 := bnext k3 hb4; have p22 : w4.cell? ⟨w.heap.size, 22, none⟩ = some (.bool en1) := (A1.later k4) 22 _ rfl; have p23 : w4.cell? ⟨w.heap.size, 23, none⟩ = some (.int .u32 cd1) := (A1.later k4) 23 _ rfl; have p24 : w4.cell? ⟨w.heap.size, 24, none⟩ = some (.int .i64 ft1) := (A1.later k4) 24 _ rfl; have q22 : w4.cell? ⟨w.heap.size + 1, 22, none⟩ = some (.bool en2) := (A2.later k4) 22 _ rfl; have q23 : w4.cell? ⟨w.heap.size + 1, 23, none⟩ = some (.int .u32 cd2) := (A2.later k4) 23 _ rfl; have q24 : w4.cell? ⟨w.heap.size + 1, 24, none⟩ = some (.int .i64 ft2) := (A2.later k4) 24 _ rfl)
                    | (go_at_call 14; refine (H4.out _ k2).mono ?_; rintro e w3 ⟨rfl, hb3⟩; have k3 := bnext k2 hb3; have p21 : w3.cell? ⟨w.heap.size, 21, none⟩ = some (.slice oa1 on1 oc1) := (A1.later k3) 21 _ rfl; have q21 : w3.cell? ⟨w.heap.size + 1, 21, none⟩ = some (.slice oa2 on2 oc2) := (A2.later k3) 21 _ rfl))
                  go_ret
                  exact ⟨rfl, bnext' HA.out k4⟩
                · skip
                  cases hq8 : (ft1 == ft2)
                  · have e : S = false := by have h := HU.out; simpa [hq0, hq6, hq7, hq8] using h
                    subst e
                    clear HU
                    have heq := HE.out
                    simp only [regsV] at heq
                    go_enter Tryd.func16, Tryd.ntmps16
                    go_upto_region 1 with fail
                    generalize ((w.alloc (.cells (#[.int .i64 at1, .int .u32 (r1 0), .int .u32 (r1 1), .int .u32 (r1 2), .int .u32 (r1 3), .int .u32 (r1 4), .int .u32 (r1 5), .int .u32 (r1 6), .int .u32 (r1 7), .int .u32 (r1 8), .int .u32 (r1 9), .int .u32 (r1 10), .int .u32 (r1 11), .int .u32 (r1 12), .int .u32 (r1 13), .int .u32 (r1 14), .int .u32 (r1 15), .slice ba1 bn1 bc1, .int .i64 wt1, .slice ma1 mn1 mc1, .slice ia1 in1 ic1, .slice oa1 on1 oc1, .bool en1, .int .u32 cd1, .int .i64 ft1]) 37)).alloc (.cells (#[.int .i64 at2, .int .u32 (r2 0), .int .u32 (r2 1), .int .u32 (r2 2), .int .u32 (r2 3), .int .u32 (r2 4), .int .u32 (r2 5), .int .u32 (r2 6), .int .u32 (r2 7), .int .u32 (r2 8), .int .u32 (r2 9), .int .u32 (r2 10), .int .u32 (r2 11), .int .u32 (r2 12), .int .u32 (r2 13), .int .u32 (r2 14), .int .u32 (r2 15), .slice ba2 bn2 bc2, .int .i64 wt2, .slice ma2 mn2 mc2, .slice ia2 in2 ic2, .slice oa2 on2 oc2, .bool en2, .int .u32 cd2, .int .i64 ft2]) 37)) = w0 at HA A1 A2 H2 H3 H4 H5 ⊢
                    have p0 : w0.cell? ⟨w.heap.size, 0, none⟩ = some (.int .i64 at1) := (A1) 0 _ rfl
                    have p1 : w0.cell? ⟨w.heap.size, 1, none⟩ = some (.int .u32 (r1 0)) := (A1) 1 _ rfl
                    have p2 : w0.cell? ⟨w.heap.size, 2, none⟩ = some (.int .u32 (r1 1)) := (A1) 2 _ rfl
                    have p3 : w0.cell? ⟨w.heap.size, 3, none⟩ = some (.int .u32 (r1 2)) := (A1) 3 _ rfl
                    have p4 : w0.cell? ⟨w.heap.size, 4, none⟩ = some (.int .u32 (r1 3)) := (A1) 4 _ rfl
                    have p5 : w0.cell? ⟨w.heap.size, 5, none⟩ = some (.int .u32 (r1 4)) := (A1) 5 _ rfl
                    have p6 : w0.cell? ⟨w.heap.size, 6, none⟩ = some (.int .u32 (r1 5)) := (A1) 6 _ rfl
                    have p7 : w0.cell? ⟨w.heap.size, 7, none⟩ = some (.int .u32 (r1 6)) := (A1) 7 _ rfl
                    have p8 : w0.cell? ⟨w.heap.size, 8, none⟩ = some (.int .u32 (r1 7)) := (A1) 8 _ rfl
                    have p9 : w0.cell? ⟨w.heap.size, 9, none⟩ = some (.int .u32 (r1 8)) := (A1) 9 _ rfl
                    have p10 : w0.cell? ⟨w.heap.size, 10, none⟩ = some (.int .u32 (r1 9)) := (A1) 10 _ rfl
                    have p11 : w0.cell? ⟨w.heap.size, 11, none⟩ = some (.int .u32 (r1 10)) := (A1) 11 _ rfl
                    have p12 : w0.cell? ⟨w.heap.size, 12, none⟩ = some (.int .u32 (r1 11)) := (A1) 12 _ rfl
                    have p13 : w0.cell? ⟨w.heap.size, 13, none⟩ = some (.int .u32 (r1 12)) := (A1) 13 _ rfl
                    have p14 : w0.cell? ⟨w.heap.size, 14, none⟩ = some (.int .u32 (r1 13)) := (A1) 14 _ rfl
                    have p15 : w0.cell? ⟨w.heap.size, 15, none⟩ = some (.int .u32 (r1 14)) := (A1) 15 _ rfl
                    have p16 : w0.cell? ⟨w.heap.size, 16, none⟩ = some (.int .u32 (r1 15)) := (A1) 16 _ rfl
                    have p17 : w0.cell? ⟨w.heap.size, 17, none⟩ = some (.slice ba1 bn1 bc1) := (A1) 17 _ rfl
                    have q0 : w0.cell? ⟨w.heap.size + 1, 0, none⟩ = some (.int .i64 at2) := (A2) 0 _ rfl
                    have q1 : w0.cell? ⟨w.heap.size + 1, 1, none⟩ = some (.int .u32 (r2 0)) := (A2) 1 _ rfl
                    have q2 : w0.cell? ⟨w.heap.size + 1, 2, none⟩ = some (.int .u32 (r2 1)) := (A2) 2 _ rfl
                    have q3 : w0.cell? ⟨w.heap.size + 1, 3, none⟩ = some (.int .u32 (r2 2)) := (A2) 3 _ rfl
                    have q4 : w0.cell? ⟨w.heap.size + 1, 4, none⟩ = some (.int .u32 (r2 3)) := (A2) 4 _ rfl
                    have q5 : w0.cell? ⟨w.heap.size + 1, 5, none⟩ = some (.int .u32 (r2 4)) := (A2) 5 _ rfl
                    have q6 : w0.cell? ⟨w.heap.size + 1, 6, none⟩ = some (.int .u32 (r2 5)) := (A2) 6 _ rfl
                    have q7 : w0.cell? ⟨w.heap.size + 1, 7, none⟩ = some (.int .u32 (r2 6)) := (A2) 7 _ rfl
                    have q8 : w0.cell? ⟨w.heap.size + 1, 8, none⟩ = some (.int .u32 (r2 7)) := (A2) 8 _ rfl
                    have q9 : w0.cell? ⟨w.heap.size + 1, 9, none⟩ = some (.int .u32 (r2 8)) := (A2) 9 _ rfl
                    have q10 : w0.cell? ⟨w.heap.size + 1, 10, none⟩ = some (.int .u32 (r2 9)) := (A2) 10 _ rfl
                    have q11 : w0.cell? ⟨w.heap.size + 1, 11, none⟩ = some (.int .u32 (r2 10)) := (A2) 11 _ rfl
                    have q12 : w0.cell? ⟨w.heap.size + 1, 12, none⟩ = some (.int .u32 (r2 11)) := (A2) 12 _ rfl
                    have q13 : w0.cell? ⟨w.heap.size + 1, 13, none⟩ = some (.int .u32 (r2 12)) := (A2) 13 _ rfl
                    have q14 : w0.cell? ⟨w.heap.size + 1, 14, none⟩ = some (.int .u32 (r2 13)) := (A2) 14 _ rfl
                    have q15 : w0.cell? ⟨w.heap.size + 1, 15, none⟩ = some (.int .u32 (r2 14)) := (A2) 15 _ rfl
                    have q16 : w0.cell? ⟨w.heap.size + 1, 16, none⟩ = some (.int .u32 (r2 15)) := (A2) 16 _ rfl
                    have q17 : w0.cell? ⟨w.heap.size + 1, 17, none⟩ = some (.slice ba2 bn2 bc2) := (A2) 17 _ rfl
                    go_wp2_with (first
                      | (go_at_call 30; refine (H2.out _ (Below.refl _ _)).mono ?_; rintro e w1 ⟨rfl, hb1⟩; have p18 : w1.cell? ⟨w.heap.size, 18, none⟩ = some (.int .i64 wt1) := (A1.later hb1) 18 _ rfl; have p19 : w1.cell? ⟨w.heap.size, 19, none⟩ = some (.slice ma1 mn1 mc1) := (A1.later hb1) 19 _ rfl; have q18 : w1.cell? ⟨w.heap.size + 1, 18, none⟩ = some (.int .i64 wt2) := (A2.later hb1) 18 _ rfl; have q19 : w1.cell? ⟨w.heap.size + 1, 19, none⟩ = some (.slice ma2 mn2 mc2) := (A2.later hb1) 19 _ rfl)
                      | (go_at_call 31; refine (H3.out _ hb1).mono ?_; rintro e w2 ⟨rfl, hb2⟩; have k2 := bnext hb1 hb2; have p20 : w2.cell? ⟨w.heap.size, 20, none⟩ = some (.slice ia1 in1 ic1) := (A1.later k2) 20 _ rfl; have q20 : w2.cell? ⟨w.heap.size + 1, 20, none⟩ = some (.slice ia2 in2 ic2) := (A2.later k2) 20 _ rfl)
                      | (go_at_call 14; revert hb3; intro hb3; refine (H5.out _ k3).mono ?_; rintro e w4 ⟨rfl, hb4⟩; have k4 := bnext k3 hb4; have p22 : w4.cell? ⟨w.heap.size, 22, none⟩ = some (.bool en1) := (A1.later k4) 22 _ rfl; have p23 : w4.cell? ⟨w.heap.size, 23, none⟩ = some (.int .u32 cd1) := (A1.later k4) 23 _ rfl; have p24 : w4.cell? ⟨w.heap.size, 24, none⟩ = some (.int .i64 ft1) := (A1.later k4) 24 _ rfl; have q22 : w4.cell? ⟨w.heap.size + 1, 22, none⟩ = some (.bool en2) := (A2.later k4) 22 _ rfl; have q23 : w4.cell? ⟨w.heap.size + 1, 23, none⟩ = some (.int .u32 cd2) := (A2.later k4) 23 _ rfl; have q24 : w4.cell? ⟨w.heap.size + 1, 24, none⟩ = some (.int .i64 ft2) := (A2.later k4) 24 _ rfl)
                      | (go_at_call 14; refine (H4.out _ k2).mono ?_; rintro e w3 ⟨rfl, hb3⟩; have k3 := bnext k2 hb3; have p21 : w3.cell? ⟨w.heap.size, 21, none⟩ = some (.slice oa1 on1 oc1) := (A1.later k3) 21 _ rfl; have q21 : w3.cell? ⟨w.heap.size + 1, 21, none⟩ = some (.slice oa2 on2 oc2) := (A2.later k3) 21 _ rfl))
                    go_ret
                    exact ⟨rfl, bnext' HA.out k4⟩
                  · have e : S = true := by have h := HU.out; simpa [hq0, hq6, hq7, hq8] using h
                    subst e
                    clear HU
                    have heq := HE.out
                    simp only [regsV] at heq
                    go_enter Tryd.func16, Tryd.ntmps16
                    go_upto_region 1 with fail
                    generalize ((w.alloc (.cells (#[.int .i64 at1, .int .u32 (r1 0), .int .u32 (r1 1), .int .u32 (r1 2), .int .u32 (r1 3), .int .u32 (r1 4), .int .u32 (r1 5), .int .u32 (r1 6), .int .u32 (r1 7), .int .u32 (r1 8), .int .u32 (r1 9), .int .u32 (r1 10), .int .u32 (r1 11), .int .u32 (r1 12), .int .u32 (r1 13), .int .u32 (r1 14), .int .u32 (r1 15), .slice ba1 bn1 bc1, .int .i64 wt1, .slice ma1 mn1 mc1, .slice ia1 in1 ic1, .slice oa1 on1 oc1, .bool en1, .int .u32 cd1, .int .i64 ft1]) 37)).alloc (.cells (#[.int .i64 at2, .int .u32 (r2 0), .int .u32 (r2 1), .int .u32 (r2 2), .int .u32 (r2 3), .int .u32 (r2 4), .int .u32 (r2 5), .int .u32 (r2 6), .int .u32 (r2 7), .int .u32 (r2 8), .int .u32 (r2 9), .int .u32 (r2 10), .int .u32 (r2 11), .int .u32 (r2 12), .int .u32 (r2 13), .int .u32 (r2 14), .int .u32 (r2 15), .slice ba2 bn2 bc2, .int .i64 wt2, .slice ma2 mn2 mc2, .slice ia2 in2 ic2, .slice oa2 on2 oc2, .bool en2, .int .u32 cd2, .int .i64 ft2]) 37)) = w0 at HA A1 A2 H2 H3 H4 H5 ⊢
                    have p0 : w0.cell? ⟨w.heap.size, 0, none⟩ = some (.int .i64 at1) := (A1) 0 _ rfl
                    have p1 : w0.cell? ⟨w.heap.size, 1, none⟩ = some (.int .u32 (r1 0)) := (A1) 1 _ rfl
                    have p2 : w0.cell? ⟨w.heap.size, 2, none⟩ = some (.int .u32 (r1 1)) := (A1) 2 _ rfl
                    have p3 : w0.cell? ⟨w.heap.size, 3, none⟩ = some (.int .u32 (r1 2)) := (A1) 3 _ rfl
                    have p4 : w0.cell? ⟨w.heap.size, 4, none⟩ = some (.int .u32 (r1 3)) := (A1) 4 _ rfl
                    have p5 : w0.cell? ⟨w.heap.size, 5, none⟩ = some (.int .u32 (r1 4)) := (A1) 5 _ rfl
                    have p6 : w0.cell? ⟨w.heap.size, 6, none⟩ = some (.int .u32 (r1 5)) := (A1) 6 _ rfl
                    have p7 : w0.cell? ⟨w.heap.size, 7, none⟩ = some (.int .u32 (r1 6)) := (A1) 7 _ rfl
                    have p8 : w0.cell? ⟨w.heap.size, 8, none⟩ = some (.int .u32 (r1 7)) := (A1) 8 _ rfl
                    have p9 : w0.cell? ⟨w.heap.size, 9, none⟩ = some (.int .u32 (r1 8)) := (A1) 9 _ rfl
                    have p10 : w0.cell? ⟨w.heap.size, 10, none⟩ = some (.int .u32 (r1 9)) := (A1) 10 _ rfl
                    have p11 : w0.cell? ⟨w.heap.size, 11, none⟩ = some (.int .u32 (r1 10)) := (A1) 11 _ rfl
                    have p12 : w0.cell? ⟨w.heap.size, 12, none⟩ = some (.int .u32 (r1 11)) := (A1) 12 _ rfl
                    have p13 : w0.cell? ⟨w.heap.size, 13, none⟩ = some (.int .u32 (r1 12)) := (A1) 13 _ rfl
                    have p14 : w0.cell? ⟨w.heap.size, 14, none⟩ = some (.int .u32 (r1 13)) := (A1) 14 _ rfl
                    have p15 : w0.cell? ⟨w.heap.size, 15, none⟩ = some (.int .u32 (r1 14)) := (A1) 15 _ rfl
                    have p16 : w0.cell? ⟨w.heap.size, 16, none⟩ = some (.int .u32 (r1 15)) := (A1) 16 _ rfl
                    have p17 : w0.cell? ⟨w.heap.size, 17, none⟩ = some (.slice ba1 bn1 bc1) := (A1) 17 _ rfl
                    have q0 : w0.cell? ⟨w.heap.size + 1, 0, none⟩ = some (.int .i64 at2) := (A2) 0 _ rfl
                    have q1 : w0.cell? ⟨w.heap.size + 1, 1, none⟩ = some (.int .u32 (r2 0)) := (A2) 1 _ rfl
                    have q2 : w0.cell? ⟨w.heap.size + 1, 2, none⟩ = some (.int .u32 (r2 1)) := (A2) 2 _ rfl
                    have q3 : w0.cell? ⟨w.heap.size + 1, 3, none⟩ = some (.int .u32 (r2 2)) := (A2) 3 _ rfl
                    have q4 : w0.cell? ⟨w.heap.size + 1, 4, none⟩ = some (.int .u32 (r2 3)) := (A2) 4 _ rfl
                    have q5 : w0.cell? ⟨w.heap.size + 1, 5, none⟩ = some (.int .u32 (r2 4)) := (A2) 5 _ rfl
                    have q6 : w0.cell? ⟨w.heap.size + 1, 6, none⟩ = some (.int .u32 (r2 5)) := (A2) 6 _ rfl
                    have q7 : w0.cell? ⟨w.heap.size + 1, 7, none⟩ = some (.int .u32 (r2 6)) := (A2) 7 _ rfl
                    have q8 : w0.cell? ⟨w.heap.size + 1, 8, none⟩ = some (.int .u32 (r2 7)) := (A2) 8 _ rfl
                    have q9 : w0.cell? ⟨w.heap.size + 1, 9, none⟩ = some (.int .u32 (r2 8)) := (A2) 9 _ rfl
                    have q10 : w0.cell? ⟨w.heap.size + 1, 10, none⟩ = some (.int .u32 (r2 9)) := (A2) 10 _ rfl
                    have q11 : w0.cell? ⟨w.heap.size + 1, 11, none⟩ = some (.int .u32 (r2 10)) := (A2) 11 _ rfl
                    have q12 : w0.cell? ⟨w.heap.size + 1, 12, none⟩ = some (.int .u32 (r2 11)) := (A2) 12 _ rfl
                    have q13 : w0.cell? ⟨w.heap.size + 1, 13, none⟩ = some (.int .u32 (r2 12)) := (A2) 13 _ rfl
                    have q14 : w0.cell? ⟨w.heap.size + 1, 14, none⟩ = some (.int .u32 (r2 13)) := (A2) 14 _ rfl
                    have q15 : w0.cell? ⟨w.heap.size + 1, 15, none⟩ = some (.int .u32 (r2 14)) := (A2) 15 _ rfl
                    have q16 : w0.cell? ⟨w.heap.size + 1, 16, none⟩ = some (.int .u32 (r2 15)) := (A2) 16 _ rfl
                    have q17 : w0.cell? ⟨w.heap.size + 1, 17, none⟩ = some (.slice ba2 bn2 bc2) := (A2) 17 _ rfl
                    go_wp2_with (first
                      | (go_at_call 30; refine (H2.out _ (Below.refl _ _)).mono ?_; rintro e w1 ⟨rfl, hb1⟩; have p18 : w1.cell? ⟨w.heap.size, 18, none⟩ = some (.int .i64 wt1) := (A1.later hb1) 18 _ rfl; have p19 : w1.cell? ⟨w.heap.size, 19, none⟩ = some (.slice ma1 mn1 mc1) := (A1.later hb1) 19 _ rfl; have q18 : w1.cell? ⟨w.heap.size + 1, 18, none⟩ = some (.int .i64 wt2) := (A2.later hb1) 18 _ rfl; have q19 : w1.cell? ⟨w.heap.size + 1, 19, none⟩ = some (.slice ma2 mn2 mc2) := (A2.later hb1) 19 _ rfl)
                      | (go_at_call 31; refine (H3.out _ hb1).mono ?_; rintro e w2 ⟨rfl, hb2⟩; have k2 := bnext hb1 hb2; have p20 : w2.cell? ⟨w.heap.size, 20, none⟩ = some (.slice ia1 in1 ic1) := (A1.later k2) 20 _ rfl; have q20 : w2.cell? ⟨w.heap.size + 1, 20, none⟩ = some (.slice ia2 in2 ic2) := (A2.later k2) 20 _ rfl)
                      | (go_at_call 14; revert hb3; intro hb3; refine (H5.out _ k3).mono ?_; rintro e w4 ⟨rfl, hb4⟩; have k4 := bnext k3 hb4; have p22 : w4.cell? ⟨w.heap.size, 22, none⟩ = some (.bool en1) := (A1.later k4) 22 _ rfl; have p23 : w4.cell? ⟨w.heap.size, 23, none⟩ = some (.int .u32 cd1) := (A1.later k4) 23 _ rfl; have p24 : w4.cell? ⟨w.heap.size, 24, none⟩ = some (.int .i64 ft1) := (A1.later k4) 24 _ rfl; have q22 : w4.cell? ⟨w.heap.size + 1, 22, none⟩ = some (.bool en2) := (A2.later k4) 22 _ rfl; have q23 : w4.cell? ⟨w.heap.size + 1, 23, none⟩ = some (.int .u32 cd2) := (A2.later k4) 23 _ rfl; have q24 : w4.cell? ⟨w.heap.size + 1, 24, none⟩ = some (.int .i64 ft2) := (A2.later k4) 24 _ rfl)
                      | (go_at_call 14; refine (H4.out _ k2).mono ?_; rintro e w3 ⟨rfl, hb3⟩; have k3 := bnext k2 hb3; have p21 : w3.cell? ⟨w.heap.size, 21, none⟩ = some (.slice oa1 on1 oc1) := (A1.later k3) 21 _ rfl; have q21 : w3.cell? ⟨w.heap.size + 1, 21, none⟩ = some (.slice oa2 on2 oc2) := (A2.later k3) 21 _ rfl))
                    go_ret
                    exact ⟨rfl, bnext' HA.out k4⟩
end Go.Proofs.YtnpejnjigaalfaaDoor
