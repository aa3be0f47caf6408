/- For any two traces RunAlikes returns true: Alike tells whether they are alike but for their steps, as the document does; a trace is alike to itself with other steps. No condition. -/
import Derived.Test.YtnpejnjigaalfaaDoorDoorFrame
import Derived.Test.YtnpejnjigaalfaaDoorRunAwake
import Derived.Test.YtnpejnjigaalfaaDoorRunStep
import Derived.Test.YtnpejnjigaalfaaDoorTraceFrame
import Derived.WalkKit
import Derived.ProofKit
namespace Go.Proofs.YtnpejnjigaalfaaDoor.runAlikes
open Go.ChangeShapes Go.WideShapes Go.ChangeAt Go.RowKit Go.Deep
set_option linter.unusedVariables false

set_option maxRecDepth 100000 in
theorem alikes_early0 (w : World) (oa1 : Option Addr) (on1 oc1 : Nat) (of1 : Nat → Int) (en1 : Bool) (cd1 ft1 : Int) (ma1 : Option Addr) (mn1 mc1 : Nat) (mf1 : Nat → Int) (st1 : Int) (oa2 : Option Addr) (on2 oc2 : Nat) (of2 : Nat → Int) (en2 : Bool) (cd2 ft2 : Int) (ma2 : Option Addr) (mn2 mc2 : Nat) (mf2 : Nat → Int) (st2 : Int) (hon1 : 300 < on1) (hT : Tab w) :
    Calls Tryd.prog 5 #[.agg (traceV oa1 on1 oc1 en1 cd1 ft1 ma1 mn1 mc1 st1), .agg (traceV oa2 on2 oc2 en2 cd2 ft2 ma2 mn2 mc2 st2)] w fun e w' => e = .returned (.bool true) ∧ Below w.heap.size w w' := by
  have gon1 : decide ((on1 : Int) > 300) = true := by simp; omega
  have kon1 : decide (300 < on1) = true := by simp; omega
  have HA : Hid (Below w.heap.size w ((w.alloc (.cells (traceV oa1 on1 oc1 en1 cd1 ft1 ma1 mn1 mc1 st1) 30)).alloc (.cells (traceV oa2 on2 oc2 en2 cd2 ft2 ma2 mn2 mc2 st2) 30))) := ((Below.refl _ w).alloc (Nat.le_refl _) _).alloc (by simp) _
  have X1 : Hid (∀ j v, (traceV oa1 on1 oc1 en1 cd1 ft1 ma1 mn1 mc1 st1)[j]? = some v → ((w.alloc (.cells (traceV oa1 on1 oc1 en1 cd1 ft1 ma1 mn1 mc1 st1) 30)).alloc (.cells (traceV oa2 on2 oc2 en2 cd2 ft2 ma2 mn2 mc2 st2) 30)).cell? ⟨w.heap.size, j, none⟩ = some v) := fun j v h => cell_later' (new_cell' w _ _ j v h) ((Below.refl _ _).alloc (Nat.le_refl _) _)
  have X2 : Hid (∀ j v, (traceV oa2 on2 oc2 en2 cd2 ft2 ma2 mn2 mc2 st2)[j]? = some v → ((w.alloc (.cells (traceV oa1 on1 oc1 en1 cd1 ft1 ma1 mn1 mc1 st1) 30)).alloc (.cells (traceV oa2 on2 oc2 en2 cd2 ft2 ma2 mn2 mc2 st2) 30)).cell? ⟨w.heap.size + 1, j, none⟩ = some v) := fun j v h => by
    have h := new_cell' (w.alloc (.cells (traceV oa1 on1 oc1 en1 cd1 ft1 ma1 mn1 mc1 st1) 30)) (traceV oa2 on2 oc2 en2 cd2 ft2 ma2 mn2 mc2 st2) 30 j v h
    rwa [show (w.alloc (.cells (traceV oa1 on1 oc1 en1 cd1 ft1 ma1 mn1 mc1 st1) 30)).heap.size = w.heap.size + 1 from by simp] at h
  have T1 : Hid (Tab ((w.alloc (.cells (traceV oa1 on1 oc1 en1 cd1 ft1 ma1 mn1 mc1 st1) 30)).alloc (.cells (traceV oa2 on2 oc2 en2 cd2 ft2 ma2 mn2 mc2 st2) 30))) := hT.later HA.out
  clear hT
  go_enter Tryd.func5, Tryd.ntmps5
  go_upto_region 1 with fail
  generalize ((w.alloc (.cells (traceV oa1 on1 oc1 en1 cd1 ft1 ma1 mn1 mc1 st1) 30)).alloc (.cells (traceV oa2 on2 oc2 en2 cd2 ft2 ma2 mn2 mc2 st2) 30)) = w0 at HA X1 X2 T1 ⊢
  go_wp2_with (first
    | (go_at_call 8; revert hb1; intro hb1; refine (awake7 _ (T1.out.later hb1)).mono ?_; rintro e w3 ⟨rfl, hb3⟩)
    | (go_at_call 8; refine (awake7 _ T1.out).mono ?_; rintro e w1 ⟨rfl, hb1⟩; have x0 : w1.cell? ⟨w.heap.size, 0, none⟩ = some (.slice oa1 on1 oc1) := cell_later' (X1.out 0 _ rfl) hb1; have x1 : w1.cell? ⟨w.heap.size, 1, none⟩ = some (.bool en1) := cell_later' (X1.out 1 _ rfl) hb1; have x2 : w1.cell? ⟨w.heap.size, 2, none⟩ = some (.int .u32 cd1) := cell_later' (X1.out 2 _ rfl) hb1; have x3 : w1.cell? ⟨w.heap.size, 3, none⟩ = some (.int .i64 ft1) := cell_later' (X1.out 3 _ rfl) hb1; have x4 : w1.cell? ⟨w.heap.size, 4, none⟩ = some (.slice ma1 mn1 mc1) := cell_later' (X1.out 4 _ rfl) hb1; have x5 : w1.cell? ⟨w.heap.size, 5, none⟩ = some (.int .i64 st1) := cell_later' (X1.out 5 _ rfl) hb1; have y0 : w1.cell? ⟨w.heap.size + 1, 0, none⟩ = some (.slice oa2 on2 oc2) := cell_later' (X2.out 0 _ rfl) hb1; have y1 : w1.cell? ⟨w.heap.size + 1, 1, none⟩ = some (.bool en2) := cell_later' (X2.out 1 _ rfl) hb1; have y2 : w1.cell? ⟨w.heap.size + 1, 2, none⟩ = some (.int .u32 cd2) := cell_later' (X2.out 2 _ rfl) hb1; have y3 : w1.cell? ⟨w.heap.size + 1, 3, none⟩ = some (.int .i64 ft2) := cell_later' (X2.out 3 _ rfl) hb1; have y4 : w1.cell? ⟨w.heap.size + 1, 4, none⟩ = some (.slice ma2 mn2 mc2) := cell_later' (X2.out 4 _ rfl) hb1; have y5 : w1.cell? ⟨w.heap.size + 1, 5, none⟩ = some (.int .i64 st2) := cell_later' (X2.out 5 _ rfl) hb1))
  go_ret
  exact ⟨rfl, bnext (bnext HA.out hb1) hb3⟩
set_option maxRecDepth 100000 in
theorem alikes_early1 (w : World) (oa1 : Option Addr) (on1 oc1 : Nat) (of1 : Nat → Int) (en1 : Bool) (cd1 ft1 : Int) (ma1 : Option Addr) (mn1 mc1 : Nat) (mf1 : Nat → Int) (st1 : Int) (oa2 : Option Addr) (on2 oc2 : Nat) (of2 : Nat → Int) (en2 : Bool) (cd2 ft2 : Int) (ma2 : Option Addr) (mn2 mc2 : Nat) (mf2 : Nat → Int) (st2 : Int) (hon1 : on1 ≤ 300) (hon2 : 300 < on2) (hT : Tab w) :
    Calls Tryd.prog 5 #[.agg (traceV oa1 on1 oc1 en1 cd1 ft1 ma1 mn1 mc1 st1), .agg (traceV oa2 on2 oc2 en2 cd2 ft2 ma2 mn2 mc2 st2)] w fun e w' => e = .returned (.bool true) ∧ Below w.heap.size w w' := by
  have gon1 : decide ((on1 : Int) > 300) = false := by simp; omega
  have kon1 : decide (300 < on1) = false := by simp; omega
  have gon2 : decide ((on2 : Int) > 300) = true := by simp; omega
  have kon2 : decide (300 < on2) = true := by simp; omega
  have HA : Hid (Below w.heap.size w ((w.alloc (.cells (traceV oa1 on1 oc1 en1 cd1 ft1 ma1 mn1 mc1 st1) 30)).alloc (.cells (traceV oa2 on2 oc2 en2 cd2 ft2 ma2 mn2 mc2 st2) 30))) := ((Below.refl _ w).alloc (Nat.le_refl _) _).alloc (by simp) _
  have X1 : Hid (∀ j v, (traceV oa1 on1 oc1 en1 cd1 ft1 ma1 mn1 mc1 st1)[j]? = some v → ((w.alloc (.cells (traceV oa1 on1 oc1 en1 cd1 ft1 ma1 mn1 mc1 st1) 30)).alloc (.cells (traceV oa2 on2 oc2 en2 cd2 ft2 ma2 mn2 mc2 st2) 30)).cell? ⟨w.heap.size, j, none⟩ = some v) := fun j v h => cell_later' (new_cell' w _ _ j v h) ((Below.refl _ _).alloc (Nat.le_refl _) _)
  have X2 : Hid (∀ j v, (traceV oa2 on2 oc2 en2 cd2 ft2 ma2 mn2 mc2 st2)[j]? = some v → ((w.alloc (.cells (traceV oa1 on1 oc1 en1 cd1 ft1 ma1 mn1 mc1 st1) 30)).alloc (.cells (traceV oa2 on2 oc2 en2 cd2 ft2 ma2 mn2 mc2 st2) 30)).cell? ⟨w.heap.size + 1, j, none⟩ = some v) := fun j v h => by
    have h := new_cell' (w.alloc (.cells (traceV oa1 on1 oc1 en1 cd1 ft1 ma1 mn1 mc1 st1) 30)) (traceV oa2 on2 oc2 en2 cd2 ft2 ma2 mn2 mc2 st2) 30 j v h
    rwa [show (w.alloc (.cells (traceV oa1 on1 oc1 en1 cd1 ft1 ma1 mn1 mc1 st1) 30)).heap.size = w.heap.size + 1 from by simp] at h
  have T1 : Hid (Tab ((w.alloc (.cells (traceV oa1 on1 oc1 en1 cd1 ft1 ma1 mn1 mc1 st1) 30)).alloc (.cells (traceV oa2 on2 oc2 en2 cd2 ft2 ma2 mn2 mc2 st2) 30))) := hT.later HA.out
  clear hT
  go_enter Tryd.func5, Tryd.ntmps5
  go_upto_region 1 with fail
  generalize ((w.alloc (.cells (traceV oa1 on1 oc1 en1 cd1 ft1 ma1 mn1 mc1 st1) 30)).alloc (.cells (traceV oa2 on2 oc2 en2 cd2 ft2 ma2 mn2 mc2 st2) 30)) = w0 at HA X1 X2 T1 ⊢
  go_wp2_with (first
    | (go_at_call 8; revert hb1; intro hb1; refine (awake7 _ (T1.out.later hb1)).mono ?_; rintro e w3 ⟨rfl, hb3⟩)
    | (go_at_call 8; refine (awake7 _ T1.out).mono ?_; rintro e w1 ⟨rfl, hb1⟩; have x0 : w1.cell? ⟨w.heap.size, 0, none⟩ = some (.slice oa1 on1 oc1) := cell_later' (X1.out 0 _ rfl) hb1; have x1 : w1.cell? ⟨w.heap.size, 1, none⟩ = some (.bool en1) := cell_later' (X1.out 1 _ rfl) hb1; have x2 : w1.cell? ⟨w.heap.size, 2, none⟩ = some (.int .u32 cd1) := cell_later' (X1.out 2 _ rfl) hb1; have x3 : w1.cell? ⟨w.heap.size, 3, none⟩ = some (.int .i64 ft1) := cell_later' (X1.out 3 _ rfl) hb1; have x4 : w1.cell? ⟨w.heap.size, 4, none⟩ = some (.slice ma1 mn1 mc1) := cell_later' (X1.out 4 _ rfl) hb1; have x5 : w1.cell? ⟨w.heap.size, 5, none⟩ = some (.int .i64 st1) := cell_later' (X1.out 5 _ rfl) hb1; have y0 : w1.cell? ⟨w.heap.size + 1, 0, none⟩ = some (.slice oa2 on2 oc2) := cell_later' (X2.out 0 _ rfl) hb1; have y1 : w1.cell? ⟨w.heap.size + 1, 1, none⟩ = some (.bool en2) := cell_later' (X2.out 1 _ rfl) hb1; have y2 : w1.cell? ⟨w.heap.size + 1, 2, none⟩ = some (.int .u32 cd2) := cell_later' (X2.out 2 _ rfl) hb1; have y3 : w1.cell? ⟨w.heap.size + 1, 3, none⟩ = some (.int .i64 ft2) := cell_later' (X2.out 3 _ rfl) hb1; have y4 : w1.cell? ⟨w.heap.size + 1, 4, none⟩ = some (.slice ma2 mn2 mc2) := cell_later' (X2.out 4 _ rfl) hb1; have y5 : w1.cell? ⟨w.heap.size + 1, 5, none⟩ = some (.int .i64 st2) := cell_later' (X2.out 5 _ rfl) hb1))
  go_ret
  exact ⟨rfl, bnext (bnext HA.out hb1) hb3⟩
set_option maxRecDepth 100000 in
theorem alikes_early2 (w : World) (oa1 : Option Addr) (on1 oc1 : Nat) (of1 : Nat → Int) (en1 : Bool) (cd1 ft1 : Int) (ma1 : Option Addr) (mn1 mc1 : Nat) (mf1 : Nat → Int) (st1 : Int) (oa2 : Option Addr) (on2 oc2 : Nat) (of2 : Nat → Int) (en2 : Bool) (cd2 ft2 : Int) (ma2 : Option Addr) (mn2 mc2 : Nat) (mf2 : Nat → Int) (st2 : Int) (hon1 : on1 ≤ 300) (hon2 : on2 ≤ 300) (hmn1 : 300 < mn1) (hT : Tab w) :
    Calls Tryd.prog 5 #[.agg (traceV oa1 on1 oc1 en1 cd1 ft1 ma1 mn1 mc1 st1), .agg (traceV oa2 on2 oc2 en2 cd2 ft2 ma2 mn2 mc2 st2)] w fun e w' => e = .returned (.bool true) ∧ Below w.heap.size w w' := by
  have gon1 : decide ((on1 : Int) > 300) = false := by simp; omega
  have kon1 : decide (300 < on1) = false := by simp; omega
  have gon2 : decide ((on2 : Int) > 300) = false := by simp; omega
  have kon2 : decide (300 < on2) = false := by simp; omega
  have gmn1 : decide ((mn1 : Int) > 300) = true := by simp; omega
  have kmn1 : decide (300 < mn1) = true := by simp; omega
  have HA : Hid (Below w.heap.size w ((w.alloc (.cells (traceV oa1 on1 oc1 en1 cd1 ft1 ma1 mn1 mc1 st1) 30)).alloc (.cells (traceV oa2 on2 oc2 en2 cd2 ft2 ma2 mn2 mc2 st2) 30))) := ((Below.refl _ w).alloc (Nat.le_refl _) _).alloc (by simp) _
  have X1 : Hid (∀ j v, (traceV oa1 on1 oc1 en1 cd1 ft1 ma1 mn1 mc1 st1)[j]? = some v → ((w.alloc (.cells (traceV oa1 on1 oc1 en1 cd1 ft1 ma1 mn1 mc1 st1) 30)).alloc (.cells (traceV oa2 on2 oc2 en2 cd2 ft2 ma2 mn2 mc2 st2) 30)).cell? ⟨w.heap.size, j, none⟩ = some v) := fun j v h => cell_later' (new_cell' w _ _ j v h) ((Below.refl _ _).alloc (Nat.le_refl _) _)
  have X2 : Hid (∀ j v, (traceV oa2 on2 oc2 en2 cd2 ft2 ma2 mn2 mc2 st2)[j]? = some v → ((w.alloc (.cells (traceV oa1 on1 oc1 en1 cd1 ft1 ma1 mn1 mc1 st1) 30)).alloc (.cells (traceV oa2 on2 oc2 en2 cd2 ft2 ma2 mn2 mc2 st2) 30)).cell? ⟨w.heap.size + 1, j, none⟩ = some v) := fun j v h => by
    have h := new_cell' (w.alloc (.cells (traceV oa1 on1 oc1 en1 cd1 ft1 ma1 mn1 mc1 st1) 30)) (traceV oa2 on2 oc2 en2 cd2 ft2 ma2 mn2 mc2 st2) 30 j v h
    rwa [show (w.alloc (.cells (traceV oa1 on1 oc1 en1 cd1 ft1 ma1 mn1 mc1 st1) 30)).heap.size = w.heap.size + 1 from by simp] at h
  have T1 : Hid (Tab ((w.alloc (.cells (traceV oa1 on1 oc1 en1 cd1 ft1 ma1 mn1 mc1 st1) 30)).alloc (.cells (traceV oa2 on2 oc2 en2 cd2 ft2 ma2 mn2 mc2 st2) 30))) := hT.later HA.out
  clear hT
  go_enter Tryd.func5, Tryd.ntmps5
  go_upto_region 1 with fail
  generalize ((w.alloc (.cells (traceV oa1 on1 oc1 en1 cd1 ft1 ma1 mn1 mc1 st1) 30)).alloc (.cells (traceV oa2 on2 oc2 en2 cd2 ft2 ma2 mn2 mc2 st2) 30)) = w0 at HA X1 X2 T1 ⊢
  go_wp2_with (first
    | (go_at_call 8; revert hb1; intro hb1; refine (awake7 _ (T1.out.later hb1)).mono ?_; rintro e w3 ⟨rfl, hb3⟩)
    | (go_at_call 8; refine (awake7 _ T1.out).mono ?_; rintro e w1 ⟨rfl, hb1⟩; have x0 : w1.cell? ⟨w.heap.size, 0, none⟩ = some (.slice oa1 on1 oc1) := cell_later' (X1.out 0 _ rfl) hb1; have x1 : w1.cell? ⟨w.heap.size, 1, none⟩ = some (.bool en1) := cell_later' (X1.out 1 _ rfl) hb1; have x2 : w1.cell? ⟨w.heap.size, 2, none⟩ = some (.int .u32 cd1) := cell_later' (X1.out 2 _ rfl) hb1; have x3 : w1.cell? ⟨w.heap.size, 3, none⟩ = some (.int .i64 ft1) := cell_later' (X1.out 3 _ rfl) hb1; have x4 : w1.cell? ⟨w.heap.size, 4, none⟩ = some (.slice ma1 mn1 mc1) := cell_later' (X1.out 4 _ rfl) hb1; have x5 : w1.cell? ⟨w.heap.size, 5, none⟩ = some (.int .i64 st1) := cell_later' (X1.out 5 _ rfl) hb1; have y0 : w1.cell? ⟨w.heap.size + 1, 0, none⟩ = some (.slice oa2 on2 oc2) := cell_later' (X2.out 0 _ rfl) hb1; have y1 : w1.cell? ⟨w.heap.size + 1, 1, none⟩ = some (.bool en2) := cell_later' (X2.out 1 _ rfl) hb1; have y2 : w1.cell? ⟨w.heap.size + 1, 2, none⟩ = some (.int .u32 cd2) := cell_later' (X2.out 2 _ rfl) hb1; have y3 : w1.cell? ⟨w.heap.size + 1, 3, none⟩ = some (.int .i64 ft2) := cell_later' (X2.out 3 _ rfl) hb1; have y4 : w1.cell? ⟨w.heap.size + 1, 4, none⟩ = some (.slice ma2 mn2 mc2) := cell_later' (X2.out 4 _ rfl) hb1; have y5 : w1.cell? ⟨w.heap.size + 1, 5, none⟩ = some (.int .i64 st2) := cell_later' (X2.out 5 _ rfl) hb1))
  go_ret
  exact ⟨rfl, bnext (bnext HA.out hb1) hb3⟩
set_option maxRecDepth 100000 in
theorem alikes_early3 (w : World) (oa1 : Option Addr) (on1 oc1 : Nat) (of1 : Nat → Int) (en1 : Bool) (cd1 ft1 : Int) (ma1 : Option Addr) (mn1 mc1 : Nat) (mf1 : Nat → Int) (st1 : Int) (oa2 : Option Addr) (on2 oc2 : Nat) (of2 : Nat → Int) (en2 : Bool) (cd2 ft2 : Int) (ma2 : Option Addr) (mn2 mc2 : Nat) (mf2 : Nat → Int) (st2 : Int) (hon1 : on1 ≤ 300) (hon2 : on2 ≤ 300) (hmn1 : mn1 ≤ 300) (hmn2 : 300 < mn2) (hT : Tab w) :
    Calls Tryd.prog 5 #[.agg (traceV oa1 on1 oc1 en1 cd1 ft1 ma1 mn1 mc1 st1), .agg (traceV oa2 on2 oc2 en2 cd2 ft2 ma2 mn2 mc2 st2)] w fun e w' => e = .returned (.bool true) ∧ Below w.heap.size w w' := by
  have gon1 : decide ((on1 : Int) > 300) = false := by simp; omega
  have kon1 : decide (300 < on1) = false := by simp; omega
  have gon2 : decide ((on2 : Int) > 300) = false := by simp; omega
  have kon2 : decide (300 < on2) = false := by simp; omega
  have gmn1 : decide ((mn1 : Int) > 300) = false := by simp; omega
  have kmn1 : decide (300 < mn1) = false := by simp; omega
  have gmn2 : decide ((mn2 : Int) > 300) = true := by simp; omega
  have kmn2 : decide (300 < mn2) = true := by simp; omega
  have HA : Hid (Below w.heap.size w ((w.alloc (.cells (traceV oa1 on1 oc1 en1 cd1 ft1 ma1 mn1 mc1 st1) 30)).alloc (.cells (traceV oa2 on2 oc2 en2 cd2 ft2 ma2 mn2 mc2 st2) 30))) := ((Below.refl _ w).alloc (Nat.le_refl _) _).alloc (by simp) _
  have X1 : Hid (∀ j v, (traceV oa1 on1 oc1 en1 cd1 ft1 ma1 mn1 mc1 st1)[j]? = some v → ((w.alloc (.cells (traceV oa1 on1 oc1 en1 cd1 ft1 ma1 mn1 mc1 st1) 30)).alloc (.cells (traceV oa2 on2 oc2 en2 cd2 ft2 ma2 mn2 mc2 st2) 30)).cell? ⟨w.heap.size, j, none⟩ = some v) := fun j v h => cell_later' (new_cell' w _ _ j v h) ((Below.refl _ _).alloc (Nat.le_refl _) _)
  have X2 : Hid (∀ j v, (traceV oa2 on2 oc2 en2 cd2 ft2 ma2 mn2 mc2 st2)[j]? = some v → ((w.alloc (.cells (traceV oa1 on1 oc1 en1 cd1 ft1 ma1 mn1 mc1 st1) 30)).alloc (.cells (traceV oa2 on2 oc2 en2 cd2 ft2 ma2 mn2 mc2 st2) 30)).cell? ⟨w.heap.size + 1, j, none⟩ = some v) := fun j v h => by
    have h := new_cell' (w.alloc (.cells (traceV oa1 on1 oc1 en1 cd1 ft1 ma1 mn1 mc1 st1) 30)) (traceV oa2 on2 oc2 en2 cd2 ft2 ma2 mn2 mc2 st2) 30 j v h
    rwa [show (w.alloc (.cells (traceV oa1 on1 oc1 en1 cd1 ft1 ma1 mn1 mc1 st1) 30)).heap.size = w.heap.size + 1 from by simp] at h
  have T1 : Hid (Tab ((w.alloc (.cells (traceV oa1 on1 oc1 en1 cd1 ft1 ma1 mn1 mc1 st1) 30)).alloc (.cells (traceV oa2 on2 oc2 en2 cd2 ft2 ma2 mn2 mc2 st2) 30))) := hT.later HA.out
  clear hT
  go_enter Tryd.func5, Tryd.ntmps5
  go_upto_region 1 with fail
  generalize ((w.alloc (.cells (traceV oa1 on1 oc1 en1 cd1 ft1 ma1 mn1 mc1 st1) 30)).alloc (.cells (traceV oa2 on2 oc2 en2 cd2 ft2 ma2 mn2 mc2 st2) 30)) = w0 at HA X1 X2 T1 ⊢
  go_wp2_with (first
    | (go_at_call 8; revert hb1; intro hb1; refine (awake7 _ (T1.out.later hb1)).mono ?_; rintro e w3 ⟨rfl, hb3⟩)
    | (go_at_call 8; refine (awake7 _ T1.out).mono ?_; rintro e w1 ⟨rfl, hb1⟩; have x0 : w1.cell? ⟨w.heap.size, 0, none⟩ = some (.slice oa1 on1 oc1) := cell_later' (X1.out 0 _ rfl) hb1; have x1 : w1.cell? ⟨w.heap.size, 1, none⟩ = some (.bool en1) := cell_later' (X1.out 1 _ rfl) hb1; have x2 : w1.cell? ⟨w.heap.size, 2, none⟩ = some (.int .u32 cd1) := cell_later' (X1.out 2 _ rfl) hb1; have x3 : w1.cell? ⟨w.heap.size, 3, none⟩ = some (.int .i64 ft1) := cell_later' (X1.out 3 _ rfl) hb1; have x4 : w1.cell? ⟨w.heap.size, 4, none⟩ = some (.slice ma1 mn1 mc1) := cell_later' (X1.out 4 _ rfl) hb1; have x5 : w1.cell? ⟨w.heap.size, 5, none⟩ = some (.int .i64 st1) := cell_later' (X1.out 5 _ rfl) hb1; have y0 : w1.cell? ⟨w.heap.size + 1, 0, none⟩ = some (.slice oa2 on2 oc2) := cell_later' (X2.out 0 _ rfl) hb1; have y1 : w1.cell? ⟨w.heap.size + 1, 1, none⟩ = some (.bool en2) := cell_later' (X2.out 1 _ rfl) hb1; have y2 : w1.cell? ⟨w.heap.size + 1, 2, none⟩ = some (.int .u32 cd2) := cell_later' (X2.out 2 _ rfl) hb1; have y3 : w1.cell? ⟨w.heap.size + 1, 3, none⟩ = some (.int .i64 ft2) := cell_later' (X2.out 3 _ rfl) hb1; have y4 : w1.cell? ⟨w.heap.size + 1, 4, none⟩ = some (.slice ma2 mn2 mc2) := cell_later' (X2.out 4 _ rfl) hb1; have y5 : w1.cell? ⟨w.heap.size + 1, 5, none⟩ = some (.int .i64 st2) := cell_later' (X2.out 5 _ rfl) hb1))
  go_ret
  exact ⟨rfl, bnext (bnext HA.out hb1) hb3⟩
set_option maxRecDepth 100000 in
set_option maxHeartbeats 2000000 in
theorem alikes_main0 (w : World) (oa1 : Option Addr) (on1 oc1 : Nat) (of1 : Nat → Int) (en1 : Bool) (cd1 ft1 : Int) (ma1 : Option Addr) (mn1 mc1 : Nat) (mf1 : Nat → Int) (st1 : Int) (oa2 : Option Addr) (on2 oc2 : Nat) (of2 : Nat → Int) (en2 : Bool) (cd2 ft2 : Int) (ma2 : Option Addr) (mn2 mc2 : Nat) (mf2 : Nat → Int) (st2 : Int) (hon1 : on1 ≤ 300) (hon2 : on2 ≤ 300) (hmn1 : mn1 ≤ 300) (hmn2 : mn2 ≤ 300) (q0 : eqB on1 on2 of1 of2 = false) (hO1 : Head oa1 on1 oc1 ∧ Bytes w oa1 on1 of1) (hM1 : Head ma1 mn1 mc1 ∧ Bytes w ma1 mn1 mf1) (hO2 : Head oa2 on2 oc2 ∧ Bytes w oa2 on2 of2) (hM2 : Head ma2 mn2 mc2 ∧ Bytes w ma2 mn2 mf2) (hT : Tab w) :
    Calls Tryd.prog 5 #[.agg (traceV oa1 on1 oc1 en1 cd1 ft1 ma1 mn1 mc1 st1), .agg (traceV oa2 on2 oc2 en2 cd2 ft2 ma2 mn2 mc2 st2)] w fun e w' => e = .returned (.bool true) ∧ Below w.heap.size w w' := by
  have gon1 : decide ((on1 : Int) > 300) = false := by simp; omega
  have kon1 : decide (300 < on1) = false := by simp; omega
  have gon2 : decide ((on2 : Int) > 300) = false := by simp; omega
  have kon2 : decide (300 < on2) = false := by simp; omega
  have gmn1 : decide ((mn1 : Int) > 300) = false := by simp; omega
  have kmn1 : decide (300 < mn1) = false := by simp; omega
  have gmn2 : decide ((mn2 : Int) > 300) = false := by simp; omega
  have kmn2 : decide (300 < mn2) = false := by simp; omega
  have HA : Hid (Below w.heap.size w ((w.alloc (.cells (traceV oa1 on1 oc1 en1 cd1 ft1 ma1 mn1 mc1 st1) 30)).alloc (.cells (traceV oa2 on2 oc2 en2 cd2 ft2 ma2 mn2 mc2 st2) 30))) := ((Below.refl _ w).alloc (Nat.le_refl _) _).alloc (by simp) _
  have X1 : Hid (∀ j v, (traceV oa1 on1 oc1 en1 cd1 ft1 ma1 mn1 mc1 st1)[j]? = some v → ((w.alloc (.cells (traceV oa1 on1 oc1 en1 cd1 ft1 ma1 mn1 mc1 st1) 30)).alloc (.cells (traceV oa2 on2 oc2 en2 cd2 ft2 ma2 mn2 mc2 st2) 30)).cell? ⟨w.heap.size, j, none⟩ = some v) := fun j v h => cell_later' (new_cell' w _ _ j v h) ((Below.refl _ _).alloc (Nat.le_refl _) _)
  have X2 : Hid (∀ j v, (traceV oa2 on2 oc2 en2 cd2 ft2 ma2 mn2 mc2 st2)[j]? = some v → ((w.alloc (.cells (traceV oa1 on1 oc1 en1 cd1 ft1 ma1 mn1 mc1 st1) 30)).alloc (.cells (traceV oa2 on2 oc2 en2 cd2 ft2 ma2 mn2 mc2 st2) 30)).cell? ⟨w.heap.size + 1, j, none⟩ = some v) := fun j v h => by
    have h := new_cell' (w.alloc (.cells (traceV oa1 on1 oc1 en1 cd1 ft1 ma1 mn1 mc1 st1) 30)) (traceV oa2 on2 oc2 en2 cd2 ft2 ma2 mn2 mc2 st2) 30 j v h
    rwa [show (w.alloc (.cells (traceV oa1 on1 oc1 en1 cd1 ft1 ma1 mn1 mc1 st1) 30)).heap.size = w.heap.size + 1 from by simp] at h
  have T1 : Hid (Tab ((w.alloc (.cells (traceV oa1 on1 oc1 en1 cd1 ft1 ma1 mn1 mc1 st1) 30)).alloc (.cells (traceV oa2 on2 oc2 en2 cd2 ft2 ma2 mn2 mc2 st2) 30))) := hT.later HA.out
  have hq : alikeZ ({ on_ := on1, of_ := of1, en := en1, cd := cd1, ft := ft1, mn := mn1, mf := mf1, st := st1 } : Tr) ({ on_ := on2, of_ := of2, en := en2, cd := cd2, ft := ft2, mn := mn2, mf := mf2, st := st2 } : Tr) = false := by simp only [alikeZ, q0]; simp
  have I1 : Hid (IsTr w (.agg (traceV oa1 on1 oc1 en1 cd1 ft1 ma1 mn1 mc1 st1)) ({ on_ := on1, of_ := of1, en := en1, cd := cd1, ft := ft1, mn := mn1, mf := mf1, st := st1 } : Tr)) := ⟨oa1, oc1, ma1, mc1, rfl, hO1, hM1⟩
  have I2 : Hid (IsTr w (.agg (traceV oa2 on2 oc2 en2 cd2 ft2 ma2 mn2 mc2 st2)) ({ on_ := on2, of_ := of2, en := en2, cd := cd2, ft := ft2, mn := mn2, mf := mf2, st := st2 } : Tr)) := ⟨oa2, oc2, ma2, mc2, rfl, hO2, hM2⟩
  have I3 : Hid (IsTr w (.agg (traceV oa1 on1 oc1 en1 cd1 ft1 ma1 mn1 mc1 st2)) ({ on_ := on1, of_ := of1, en := en1, cd := cd1, ft := ft1, mn := mn1, mf := mf1, st := st2 } : Tr)) := ⟨oa1, oc1, ma1, mc1, rfl, hO1, hM1⟩
  have SM1 : Hid (∀ W, Below w.heap.size w W → Calls Tryd.prog 14 #[.slice oa1 on1 oc1, .slice oa2 on2 oc2] W fun e w' => e = .returned (.bool false) ∧ Below W.heap.size W w') := fun W hW => by
    have h := bytes_eq W oa1 oa2 on1 on2 oc1 oc2 of1 of2 (by omega) (by omega) (hO1.2.later hW) (hO2.2.later hW)
    rwa [q0] at h
  have AL : Hid (∀ W, Below w.heap.size w W → Calls Tryd.prog 17 #[.agg (traceV oa1 on1 oc1 en1 cd1 ft1 ma1 mn1 mc1 st1), .agg (traceV oa2 on2 oc2 en2 cd2 ft2 ma2 mn2 mc2 st2)] W fun e w' => e = .returned (.bool false) ∧ Below W.heap.size W w') := fun W hW => by
    have h := alike_st (I1.out.later hW) (I2.out.later hW) ⟨by simp only []; omega, by simp only []; omega⟩ ⟨by simp only []; omega, by simp only []; omega⟩
    rwa [hq] at h
  have AC : Hid (∀ W, Below w.heap.size w W → Calls Tryd.prog 17 #[.agg (traceV oa1 on1 oc1 en1 cd1 ft1 ma1 mn1 mc1 st1), .agg (traceV oa1 on1 oc1 en1 cd1 ft1 ma1 mn1 mc1 st2)] W fun e w' => e = .returned (.bool true) ∧ Below W.heap.size W w') := fun W hW => by
    have h := alike_st (I1.out.later hW) (I3.out.later hW) ⟨by simp only []; omega, by simp only []; omega⟩ ⟨by simp only []; omega, by simp only []; omega⟩
    rwa [show alikeZ ({ on_ := on1, of_ := of1, en := en1, cd := cd1, ft := ft1, mn := mn1, mf := mf1, st := st1 } : Tr) ({ on_ := on1, of_ := of1, en := en1, cd := cd1, ft := ft1, mn := mn1, mf := mf1, st := st2 } : Tr) = true from by simp [alikeZ, eqB_self]] at h
  clear hO1 hM1 hO2 hM2 I1 I2 I3 hq
  clear hT
  go_enter Tryd.func5, Tryd.ntmps5
  go_upto_region 1 with fail
  generalize ((w.alloc (.cells (traceV oa1 on1 oc1 en1 cd1 ft1 ma1 mn1 mc1 st1) 30)).alloc (.cells (traceV oa2 on2 oc2 en2 cd2 ft2 ma2 mn2 mc2 st2) 30)) = w0 at HA X1 X2 T1 ⊢
  go_upto_region 3 with (go_at_call 8; refine (awake7 _ T1.out).mono ?_; rintro e w1 ⟨rfl, hb1⟩; have x0 : w1.cell? ⟨w.heap.size, 0, none⟩ = some (.slice oa1 on1 oc1) := cell_later' (X1.out 0 _ rfl) hb1; have x1 : w1.cell? ⟨w.heap.size, 1, none⟩ = some (.bool en1) := cell_later' (X1.out 1 _ rfl) hb1; have x2 : w1.cell? ⟨w.heap.size, 2, none⟩ = some (.int .u32 cd1) := cell_later' (X1.out 2 _ rfl) hb1; have x3 : w1.cell? ⟨w.heap.size, 3, none⟩ = some (.int .i64 ft1) := cell_later' (X1.out 3 _ rfl) hb1; have x4 : w1.cell? ⟨w.heap.size, 4, none⟩ = some (.slice ma1 mn1 mc1) := cell_later' (X1.out 4 _ rfl) hb1; have x5 : w1.cell? ⟨w.heap.size, 5, none⟩ = some (.int .i64 st1) := cell_later' (X1.out 5 _ rfl) hb1; have y0 : w1.cell? ⟨w.heap.size + 1, 0, none⟩ = some (.slice oa2 on2 oc2) := cell_later' (X2.out 0 _ rfl) hb1; have y1 : w1.cell? ⟨w.heap.size + 1, 1, none⟩ = some (.bool en2) := cell_later' (X2.out 1 _ rfl) hb1; have y2 : w1.cell? ⟨w.heap.size + 1, 2, none⟩ = some (.int .u32 cd2) := cell_later' (X2.out 2 _ rfl) hb1; have y3 : w1.cell? ⟨w.heap.size + 1, 3, none⟩ = some (.int .i64 ft2) := cell_later' (X2.out 3 _ rfl) hb1; have y4 : w1.cell? ⟨w.heap.size + 1, 4, none⟩ = some (.slice ma2 mn2 mc2) := cell_later' (X2.out 4 _ rfl) hb1; have y5 : w1.cell? ⟨w.heap.size + 1, 5, none⟩ = some (.int .i64 st2) := cell_later' (X2.out 5 _ rfl) hb1)
  have Q1 : Hid (Below w0.heap.size w0 w1) := hb1
  clear hb1
  go_upto_region 4 with (first
    | (go_at_call 14; revert hb2; intro hb2; refine (SM2.out _ (bnext (bnext HA.out Q1.out) hb2)).mono ?_; rintro e w4 ⟨rfl, hb4⟩)
    | (go_at_call 14; refine (SM1.out _ (bnext HA.out Q1.out)).mono ?_; rintro e w2 ⟨rfl, hb2⟩; have z0 : w2.cell? ⟨w.heap.size, 0, none⟩ = some (.slice oa1 on1 oc1) := cell_later' (X1.out 0 _ rfl) (bnext Q1.out hb2); have z1 : w2.cell? ⟨w.heap.size, 1, none⟩ = some (.bool en1) := cell_later' (X1.out 1 _ rfl) (bnext Q1.out hb2); have z2 : w2.cell? ⟨w.heap.size, 2, none⟩ = some (.int .u32 cd1) := cell_later' (X1.out 2 _ rfl) (bnext Q1.out hb2); have z3 : w2.cell? ⟨w.heap.size, 3, none⟩ = some (.int .i64 ft1) := cell_later' (X1.out 3 _ rfl) (bnext Q1.out hb2); have z4 : w2.cell? ⟨w.heap.size, 4, none⟩ = some (.slice ma1 mn1 mc1) := cell_later' (X1.out 4 _ rfl) (bnext Q1.out hb2); have z5 : w2.cell? ⟨w.heap.size, 5, none⟩ = some (.int .i64 st1) := cell_later' (X1.out 5 _ rfl) (bnext Q1.out hb2); have u0 : w2.cell? ⟨w.heap.size + 1, 0, none⟩ = some (.slice oa2 on2 oc2) := cell_later' (X2.out 0 _ rfl) (bnext Q1.out hb2); have u1 : w2.cell? ⟨w.heap.size + 1, 1, none⟩ = some (.bool en2) := cell_later' (X2.out 1 _ rfl) (bnext Q1.out hb2); have u2 : w2.cell? ⟨w.heap.size + 1, 2, none⟩ = some (.int .u32 cd2) := cell_later' (X2.out 2 _ rfl) (bnext Q1.out hb2); have u3 : w2.cell? ⟨w.heap.size + 1, 3, none⟩ = some (.int .i64 ft2) := cell_later' (X2.out 3 _ rfl) (bnext Q1.out hb2); have u4 : w2.cell? ⟨w.heap.size + 1, 4, none⟩ = some (.slice ma2 mn2 mc2) := cell_later' (X2.out 4 _ rfl) (bnext Q1.out hb2); have u5 : w2.cell? ⟨w.heap.size + 1, 5, none⟩ = some (.int .i64 st2) := cell_later' (X2.out 5 _ rfl) (bnext Q1.out hb2)))
  have Q2 : Hid (Below w0.heap.size w0 w2) := bnext Q1.out hb2
  clear hb2 z0 z1 z2 z3 z4 z5 u0 u1 u2 u3 u4 u5 x0 x1 x2 x3 x4 x5 y0 y1 y2 y3 y4 y5 Q1 SM1
  have x0 : w2.cell? ⟨w.heap.size, 0, none⟩ = some (.slice oa1 on1 oc1) := cell_later' (X1.out 0 _ rfl) Q2.out
  have x1 : w2.cell? ⟨w.heap.size, 1, none⟩ = some (.bool en1) := cell_later' (X1.out 1 _ rfl) Q2.out
  have x2 : w2.cell? ⟨w.heap.size, 2, none⟩ = some (.int .u32 cd1) := cell_later' (X1.out 2 _ rfl) Q2.out
  have x3 : w2.cell? ⟨w.heap.size, 3, none⟩ = some (.int .i64 ft1) := cell_later' (X1.out 3 _ rfl) Q2.out
  have x4 : w2.cell? ⟨w.heap.size, 4, none⟩ = some (.slice ma1 mn1 mc1) := cell_later' (X1.out 4 _ rfl) Q2.out
  have x5 : w2.cell? ⟨w.heap.size, 5, none⟩ = some (.int .i64 st1) := cell_later' (X1.out 5 _ rfl) Q2.out
  have y0 : w2.cell? ⟨w.heap.size + 1, 0, none⟩ = some (.slice oa2 on2 oc2) := cell_later' (X2.out 0 _ rfl) Q2.out
  have y1 : w2.cell? ⟨w.heap.size + 1, 1, none⟩ = some (.bool en2) := cell_later' (X2.out 1 _ rfl) Q2.out
  have y2 : w2.cell? ⟨w.heap.size + 1, 2, none⟩ = some (.int .u32 cd2) := cell_later' (X2.out 2 _ rfl) Q2.out
  have y3 : w2.cell? ⟨w.heap.size + 1, 3, none⟩ = some (.int .i64 ft2) := cell_later' (X2.out 3 _ rfl) Q2.out
  have y4 : w2.cell? ⟨w.heap.size + 1, 4, none⟩ = some (.slice ma2 mn2 mc2) := cell_later' (X2.out 4 _ rfl) Q2.out
  have y5 : w2.cell? ⟨w.heap.size + 1, 5, none⟩ = some (.int .i64 st2) := cell_later' (X2.out 5 _ rfl) Q2.out
  have L2 : w.heap.size + 1 < w2.heap.size := World.block_lt_of_cell? w2 ⟨w.heap.size + 1, 0, none⟩ y0
  go_upto_region 6 with fail
  have B6 : Hid (Below w2.heap.size w2 (w2.alloc (.cells (traceV oa1 on1 oc1 en1 cd1 ft1 ma1 mn1 mc1 st2) 30))) := (Below.refl _ _).alloc (Nat.le_refl _) _
  have n0 : (w2.alloc (.cells (traceV oa1 on1 oc1 en1 cd1 ft1 ma1 mn1 mc1 st2) 30)).cell? ⟨w2.heap.size, 0, none⟩ = some (.slice oa1 on1 oc1) := new_cell' w2 _ _ 0 _ rfl
  have n1 : (w2.alloc (.cells (traceV oa1 on1 oc1 en1 cd1 ft1 ma1 mn1 mc1 st2) 30)).cell? ⟨w2.heap.size, 1, none⟩ = some (.bool en1) := new_cell' w2 _ _ 1 _ rfl
  have n2 : (w2.alloc (.cells (traceV oa1 on1 oc1 en1 cd1 ft1 ma1 mn1 mc1 st2) 30)).cell? ⟨w2.heap.size, 2, none⟩ = some (.int .u32 cd1) := new_cell' w2 _ _ 2 _ rfl
  have n3 : (w2.alloc (.cells (traceV oa1 on1 oc1 en1 cd1 ft1 ma1 mn1 mc1 st2) 30)).cell? ⟨w2.heap.size, 3, none⟩ = some (.int .i64 ft1) := new_cell' w2 _ _ 3 _ rfl
  have n4 : (w2.alloc (.cells (traceV oa1 on1 oc1 en1 cd1 ft1 ma1 mn1 mc1 st2) 30)).cell? ⟨w2.heap.size, 4, none⟩ = some (.slice ma1 mn1 mc1) := new_cell' w2 _ _ 4 _ rfl
  have n5 : (w2.alloc (.cells (traceV oa1 on1 oc1 en1 cd1 ft1 ma1 mn1 mc1 st2) 30)).cell? ⟨w2.heap.size, 5, none⟩ = some (.int .i64 st2) := new_cell' w2 _ _ 5 _ rfl
  have Q6 : Hid (Below w0.heap.size w0 (w2.alloc (.cells (traceV oa1 on1 oc1 en1 cd1 ft1 ma1 mn1 mc1 st2) 30))) := bnext Q2.out B6.out
  clear x0 x1 x2 x3 x4 x5 y0 y1 y2 y3 y4 y5 L2 B6 Q2
  generalize w2.alloc (.cells (traceV oa1 on1 oc1 en1 cd1 ft1 ma1 mn1 mc1 st2) 30) = w6 at n0 n1 n2 n3 n4 n5 Q6 ⊢
  generalize w2.heap.size = g6 at n0 n1 n2 n3 n4 n5 ⊢
  have x0 : w6.cell? ⟨w.heap.size, 0, none⟩ = some (.slice oa1 on1 oc1) := cell_later' (X1.out 0 _ rfl) Q6.out
  have x1 : w6.cell? ⟨w.heap.size, 1, none⟩ = some (.bool en1) := cell_later' (X1.out 1 _ rfl) Q6.out
  have x2 : w6.cell? ⟨w.heap.size, 2, none⟩ = some (.int .u32 cd1) := cell_later' (X1.out 2 _ rfl) Q6.out
  have x3 : w6.cell? ⟨w.heap.size, 3, none⟩ = some (.int .i64 ft1) := cell_later' (X1.out 3 _ rfl) Q6.out
  have x4 : w6.cell? ⟨w.heap.size, 4, none⟩ = some (.slice ma1 mn1 mc1) := cell_later' (X1.out 4 _ rfl) Q6.out
  have x5 : w6.cell? ⟨w.heap.size, 5, none⟩ = some (.int .i64 st1) := cell_later' (X1.out 5 _ rfl) Q6.out
  have y0 : w6.cell? ⟨w.heap.size + 1, 0, none⟩ = some (.slice oa2 on2 oc2) := cell_later' (X2.out 0 _ rfl) Q6.out
  have y1 : w6.cell? ⟨w.heap.size + 1, 1, none⟩ = some (.bool en2) := cell_later' (X2.out 1 _ rfl) Q6.out
  have y2 : w6.cell? ⟨w.heap.size + 1, 2, none⟩ = some (.int .u32 cd2) := cell_later' (X2.out 2 _ rfl) Q6.out
  have y3 : w6.cell? ⟨w.heap.size + 1, 3, none⟩ = some (.int .i64 ft2) := cell_later' (X2.out 3 _ rfl) Q6.out
  have y4 : w6.cell? ⟨w.heap.size + 1, 4, none⟩ = some (.slice ma2 mn2 mc2) := cell_later' (X2.out 4 _ rfl) Q6.out
  have y5 : w6.cell? ⟨w.heap.size + 1, 5, none⟩ = some (.int .i64 st2) := cell_later' (X2.out 5 _ rfl) Q6.out
  go_wp2_with (first
    | (go_at_call 17; revert hb7; intro hb7; refine (AC.out _ (bnext (bnext HA.out Q6.out) hb7)).mono ?_; rintro e w8 ⟨rfl, hb8⟩)
    | (go_at_call 17; refine (AL.out _ (bnext HA.out Q6.out)).mono ?_; rintro e w7 ⟨rfl, hb7⟩; have x0' := cell_later' x0 hb7; have y0' := cell_later' y0 hb7; have n0' := cell_later' n0 hb7; have x1' := cell_later' x1 hb7; have y1' := cell_later' y1 hb7; have n1' := cell_later' n1 hb7; have x2' := cell_later' x2 hb7; have y2' := cell_later' y2 hb7; have n2' := cell_later' n2 hb7; have x3' := cell_later' x3 hb7; have y3' := cell_later' y3 hb7; have n3' := cell_later' n3 hb7; have x4' := cell_later' x4 hb7; have y4' := cell_later' y4 hb7; have n4' := cell_later' n4 hb7; have x5' := cell_later' x5 hb7; have y5' := cell_later' y5 hb7; have n5' := cell_later' n5 hb7))
  go_ret
  exact ⟨rfl, bnext (bnext (bnext HA.out Q6.out) hb7) hb8⟩
set_option maxRecDepth 100000 in
set_option maxHeartbeats 2000000 in
theorem alikes_main1 (w : World) (oa1 : Option Addr) (on1 oc1 : Nat) (of1 : Nat → Int) (en1 : Bool) (cd1 ft1 : Int) (ma1 : Option Addr) (mn1 mc1 : Nat) (mf1 : Nat → Int) (st1 : Int) (oa2 : Option Addr) (on2 oc2 : Nat) (of2 : Nat → Int) (en2 : Bool) (cd2 ft2 : Int) (ma2 : Option Addr) (mn2 mc2 : Nat) (mf2 : Nat → Int) (st2 : Int) (hon1 : on1 ≤ 300) (hon2 : on2 ≤ 300) (hmn1 : mn1 ≤ 300) (hmn2 : mn2 ≤ 300) (q0 : eqB on1 on2 of1 of2 = true) (q1 : (en1 == en2) = false) (hO1 : Head oa1 on1 oc1 ∧ Bytes w oa1 on1 of1) (hM1 : Head ma1 mn1 mc1 ∧ Bytes w ma1 mn1 mf1) (hO2 : Head oa2 on2 oc2 ∧ Bytes w oa2 on2 of2) (hM2 : Head ma2 mn2 mc2 ∧ Bytes w ma2 mn2 mf2) (hT : Tab w) :
    Calls Tryd.prog 5 #[.agg (traceV oa1 on1 oc1 en1 cd1 ft1 ma1 mn1 mc1 st1), .agg (traceV oa2 on2 oc2 en2 cd2 ft2 ma2 mn2 mc2 st2)] w fun e w' => e = .returned (.bool true) ∧ Below w.heap.size w w' := by
  have gon1 : decide ((on1 : Int) > 300) = false := by simp; omega
  have kon1 : decide (300 < on1) = false := by simp; omega
  have gon2 : decide ((on2 : Int) > 300) = false := by simp; omega
  have kon2 : decide (300 < on2) = false := by simp; omega
  have gmn1 : decide ((mn1 : Int) > 300) = false := by simp; omega
  have kmn1 : decide (300 < mn1) = false := by simp; omega
  have gmn2 : decide ((mn2 : Int) > 300) = false := by simp; omega
  have kmn2 : decide (300 < mn2) = false := by simp; omega
  have HA : Hid (Below w.heap.size w ((w.alloc (.cells (traceV oa1 on1 oc1 en1 cd1 ft1 ma1 mn1 mc1 st1) 30)).alloc (.cells (traceV oa2 on2 oc2 en2 cd2 ft2 ma2 mn2 mc2 st2) 30))) := ((Below.refl _ w).alloc (Nat.le_refl _) _).alloc (by simp) _
  have X1 : Hid (∀ j v, (traceV oa1 on1 oc1 en1 cd1 ft1 ma1 mn1 mc1 st1)[j]? = some v → ((w.alloc (.cells (traceV oa1 on1 oc1 en1 cd1 ft1 ma1 mn1 mc1 st1) 30)).alloc (.cells (traceV oa2 on2 oc2 en2 cd2 ft2 ma2 mn2 mc2 st2) 30)).cell? ⟨w.heap.size, j, none⟩ = some v) := fun j v h => cell_later' (new_cell' w _ _ j v h) ((Below.refl _ _).alloc (Nat.le_refl _) _)
  have X2 : Hid (∀ j v, (traceV oa2 on2 oc2 en2 cd2 ft2 ma2 mn2 mc2 st2)[j]? = some v → ((w.alloc (.cells (traceV oa1 on1 oc1 en1 cd1 ft1 ma1 mn1 mc1 st1) 30)).alloc (.cells (traceV oa2 on2 oc2 en2 cd2 ft2 ma2 mn2 mc2 st2) 30)).cell? ⟨w.heap.size + 1, j, none⟩ = some v) := fun j v h => by
    have h := new_cell' (w.alloc (.cells (traceV oa1 on1 oc1 en1 cd1 ft1 ma1 mn1 mc1 st1) 30)) (traceV oa2 on2 oc2 en2 cd2 ft2 ma2 mn2 mc2 st2) 30 j v h
    rwa [show (w.alloc (.cells (traceV oa1 on1 oc1 en1 cd1 ft1 ma1 mn1 mc1 st1) 30)).heap.size = w.heap.size + 1 from by simp] at h
  have T1 : Hid (Tab ((w.alloc (.cells (traceV oa1 on1 oc1 en1 cd1 ft1 ma1 mn1 mc1 st1) 30)).alloc (.cells (traceV oa2 on2 oc2 en2 cd2 ft2 ma2 mn2 mc2 st2) 30))) := hT.later HA.out
  have hq : alikeZ ({ on_ := on1, of_ := of1, en := en1, cd := cd1, ft := ft1, mn := mn1, mf := mf1, st := st1 } : Tr) ({ on_ := on2, of_ := of2, en := en2, cd := cd2, ft := ft2, mn := mn2, mf := mf2, st := st2 } : Tr) = false := by simp only [alikeZ, q0, q1]; simp
  have I1 : Hid (IsTr w (.agg (traceV oa1 on1 oc1 en1 cd1 ft1 ma1 mn1 mc1 st1)) ({ on_ := on1, of_ := of1, en := en1, cd := cd1, ft := ft1, mn := mn1, mf := mf1, st := st1 } : Tr)) := ⟨oa1, oc1, ma1, mc1, rfl, hO1, hM1⟩
  have I2 : Hid (IsTr w (.agg (traceV oa2 on2 oc2 en2 cd2 ft2 ma2 mn2 mc2 st2)) ({ on_ := on2, of_ := of2, en := en2, cd := cd2, ft := ft2, mn := mn2, mf := mf2, st := st2 } : Tr)) := ⟨oa2, oc2, ma2, mc2, rfl, hO2, hM2⟩
  have I3 : Hid (IsTr w (.agg (traceV oa1 on1 oc1 en1 cd1 ft1 ma1 mn1 mc1 st2)) ({ on_ := on1, of_ := of1, en := en1, cd := cd1, ft := ft1, mn := mn1, mf := mf1, st := st2 } : Tr)) := ⟨oa1, oc1, ma1, mc1, rfl, hO1, hM1⟩
  have SM1 : Hid (∀ W, Below w.heap.size w W → Calls Tryd.prog 14 #[.slice oa1 on1 oc1, .slice oa2 on2 oc2] W fun e w' => e = .returned (.bool true) ∧ Below W.heap.size W w') := fun W hW => by
    have h := bytes_eq W oa1 oa2 on1 on2 oc1 oc2 of1 of2 (by omega) (by omega) (hO1.2.later hW) (hO2.2.later hW)
    rwa [q0] at h
  have AL : Hid (∀ W, Below w.heap.size w W → Calls Tryd.prog 17 #[.agg (traceV oa1 on1 oc1 en1 cd1 ft1 ma1 mn1 mc1 st1), .agg (traceV oa2 on2 oc2 en2 cd2 ft2 ma2 mn2 mc2 st2)] W fun e w' => e = .returned (.bool false) ∧ Below W.heap.size W w') := fun W hW => by
    have h := alike_st (I1.out.later hW) (I2.out.later hW) ⟨by simp only []; omega, by simp only []; omega⟩ ⟨by simp only []; omega, by simp only []; omega⟩
    rwa [hq] at h
  have AC : Hid (∀ W, Below w.heap.size w W → Calls Tryd.prog 17 #[.agg (traceV oa1 on1 oc1 en1 cd1 ft1 ma1 mn1 mc1 st1), .agg (traceV oa1 on1 oc1 en1 cd1 ft1 ma1 mn1 mc1 st2)] W fun e w' => e = .returned (.bool true) ∧ Below W.heap.size W w') := fun W hW => by
    have h := alike_st (I1.out.later hW) (I3.out.later hW) ⟨by simp only []; omega, by simp only []; omega⟩ ⟨by simp only []; omega, by simp only []; omega⟩
    rwa [show alikeZ ({ on_ := on1, of_ := of1, en := en1, cd := cd1, ft := ft1, mn := mn1, mf := mf1, st := st1 } : Tr) ({ on_ := on1, of_ := of1, en := en1, cd := cd1, ft := ft1, mn := mn1, mf := mf1, st := st2 } : Tr) = true from by simp [alikeZ, eqB_self]] at h
  clear hO1 hM1 hO2 hM2 I1 I2 I3 hq
  clear hT
  go_enter Tryd.func5, Tryd.ntmps5
  go_upto_region 1 with fail
  generalize ((w.alloc (.cells (traceV oa1 on1 oc1 en1 cd1 ft1 ma1 mn1 mc1 st1) 30)).alloc (.cells (traceV oa2 on2 oc2 en2 cd2 ft2 ma2 mn2 mc2 st2) 30)) = w0 at HA X1 X2 T1 ⊢
  go_upto_region 3 with (go_at_call 8; refine (awake7 _ T1.out).mono ?_; rintro e w1 ⟨rfl, hb1⟩; have x0 : w1.cell? ⟨w.heap.size, 0, none⟩ = some (.slice oa1 on1 oc1) := cell_later' (X1.out 0 _ rfl) hb1; have x1 : w1.cell? ⟨w.heap.size, 1, none⟩ = some (.bool en1) := cell_later' (X1.out 1 _ rfl) hb1; have x2 : w1.cell? ⟨w.heap.size, 2, none⟩ = some (.int .u32 cd1) := cell_later' (X1.out 2 _ rfl) hb1; have x3 : w1.cell? ⟨w.heap.size, 3, none⟩ = some (.int .i64 ft1) := cell_later' (X1.out 3 _ rfl) hb1; have x4 : w1.cell? ⟨w.heap.size, 4, none⟩ = some (.slice ma1 mn1 mc1) := cell_later' (X1.out 4 _ rfl) hb1; have x5 : w1.cell? ⟨w.heap.size, 5, none⟩ = some (.int .i64 st1) := cell_later' (X1.out 5 _ rfl) hb1; have y0 : w1.cell? ⟨w.heap.size + 1, 0, none⟩ = some (.slice oa2 on2 oc2) := cell_later' (X2.out 0 _ rfl) hb1; have y1 : w1.cell? ⟨w.heap.size + 1, 1, none⟩ = some (.bool en2) := cell_later' (X2.out 1 _ rfl) hb1; have y2 : w1.cell? ⟨w.heap.size + 1, 2, none⟩ = some (.int .u32 cd2) := cell_later' (X2.out 2 _ rfl) hb1; have y3 : w1.cell? ⟨w.heap.size + 1, 3, none⟩ = some (.int .i64 ft2) := cell_later' (X2.out 3 _ rfl) hb1; have y4 : w1.cell? ⟨w.heap.size + 1, 4, none⟩ = some (.slice ma2 mn2 mc2) := cell_later' (X2.out 4 _ rfl) hb1; have y5 : w1.cell? ⟨w.heap.size + 1, 5, none⟩ = some (.int .i64 st2) := cell_later' (X2.out 5 _ rfl) hb1)
  have Q1 : Hid (Below w0.heap.size w0 w1) := hb1
  clear hb1
  go_upto_region 4 with (first
    | (go_at_call 14; revert hb2; intro hb2; refine (SM2.out _ (bnext (bnext HA.out Q1.out) hb2)).mono ?_; rintro e w4 ⟨rfl, hb4⟩)
    | (go_at_call 14; refine (SM1.out _ (bnext HA.out Q1.out)).mono ?_; rintro e w2 ⟨rfl, hb2⟩; have z0 : w2.cell? ⟨w.heap.size, 0, none⟩ = some (.slice oa1 on1 oc1) := cell_later' (X1.out 0 _ rfl) (bnext Q1.out hb2); have z1 : w2.cell? ⟨w.heap.size, 1, none⟩ = some (.bool en1) := cell_later' (X1.out 1 _ rfl) (bnext Q1.out hb2); have z2 : w2.cell? ⟨w.heap.size, 2, none⟩ = some (.int .u32 cd1) := cell_later' (X1.out 2 _ rfl) (bnext Q1.out hb2); have z3 : w2.cell? ⟨w.heap.size, 3, none⟩ = some (.int .i64 ft1) := cell_later' (X1.out 3 _ rfl) (bnext Q1.out hb2); have z4 : w2.cell? ⟨w.heap.size, 4, none⟩ = some (.slice ma1 mn1 mc1) := cell_later' (X1.out 4 _ rfl) (bnext Q1.out hb2); have z5 : w2.cell? ⟨w.heap.size, 5, none⟩ = some (.int .i64 st1) := cell_later' (X1.out 5 _ rfl) (bnext Q1.out hb2); have u0 : w2.cell? ⟨w.heap.size + 1, 0, none⟩ = some (.slice oa2 on2 oc2) := cell_later' (X2.out 0 _ rfl) (bnext Q1.out hb2); have u1 : w2.cell? ⟨w.heap.size + 1, 1, none⟩ = some (.bool en2) := cell_later' (X2.out 1 _ rfl) (bnext Q1.out hb2); have u2 : w2.cell? ⟨w.heap.size + 1, 2, none⟩ = some (.int .u32 cd2) := cell_later' (X2.out 2 _ rfl) (bnext Q1.out hb2); have u3 : w2.cell? ⟨w.heap.size + 1, 3, none⟩ = some (.int .i64 ft2) := cell_later' (X2.out 3 _ rfl) (bnext Q1.out hb2); have u4 : w2.cell? ⟨w.heap.size + 1, 4, none⟩ = some (.slice ma2 mn2 mc2) := cell_later' (X2.out 4 _ rfl) (bnext Q1.out hb2); have u5 : w2.cell? ⟨w.heap.size + 1, 5, none⟩ = some (.int .i64 st2) := cell_later' (X2.out 5 _ rfl) (bnext Q1.out hb2)))
  have Q2 : Hid (Below w0.heap.size w0 w2) := bnext Q1.out hb2
  clear hb2 z0 z1 z2 z3 z4 z5 u0 u1 u2 u3 u4 u5 x0 x1 x2 x3 x4 x5 y0 y1 y2 y3 y4 y5 Q1 SM1
  have x0 : w2.cell? ⟨w.heap.size, 0, none⟩ = some (.slice oa1 on1 oc1) := cell_later' (X1.out 0 _ rfl) Q2.out
  have x1 : w2.cell? ⟨w.heap.size, 1, none⟩ = some (.bool en1) := cell_later' (X1.out 1 _ rfl) Q2.out
  have x2 : w2.cell? ⟨w.heap.size, 2, none⟩ = some (.int .u32 cd1) := cell_later' (X1.out 2 _ rfl) Q2.out
  have x3 : w2.cell? ⟨w.heap.size, 3, none⟩ = some (.int .i64 ft1) := cell_later' (X1.out 3 _ rfl) Q2.out
  have x4 : w2.cell? ⟨w.heap.size, 4, none⟩ = some (.slice ma1 mn1 mc1) := cell_later' (X1.out 4 _ rfl) Q2.out
  have x5 : w2.cell? ⟨w.heap.size, 5, none⟩ = some (.int .i64 st1) := cell_later' (X1.out 5 _ rfl) Q2.out
  have y0 : w2.cell? ⟨w.heap.size + 1, 0, none⟩ = some (.slice oa2 on2 oc2) := cell_later' (X2.out 0 _ rfl) Q2.out
  have y1 : w2.cell? ⟨w.heap.size + 1, 1, none⟩ = some (.bool en2) := cell_later' (X2.out 1 _ rfl) Q2.out
  have y2 : w2.cell? ⟨w.heap.size + 1, 2, none⟩ = some (.int .u32 cd2) := cell_later' (X2.out 2 _ rfl) Q2.out
  have y3 : w2.cell? ⟨w.heap.size + 1, 3, none⟩ = some (.int .i64 ft2) := cell_later' (X2.out 3 _ rfl) Q2.out
  have y4 : w2.cell? ⟨w.heap.size + 1, 4, none⟩ = some (.slice ma2 mn2 mc2) := cell_later' (X2.out 4 _ rfl) Q2.out
  have y5 : w2.cell? ⟨w.heap.size + 1, 5, none⟩ = some (.int .i64 st2) := cell_later' (X2.out 5 _ rfl) Q2.out
  have L2 : w.heap.size + 1 < w2.heap.size := World.block_lt_of_cell? w2 ⟨w.heap.size + 1, 0, none⟩ y0
  go_upto_region 6 with fail
  have B6 : Hid (Below w2.heap.size w2 (w2.alloc (.cells (traceV oa1 on1 oc1 en1 cd1 ft1 ma1 mn1 mc1 st2) 30))) := (Below.refl _ _).alloc (Nat.le_refl _) _
  have n0 : (w2.alloc (.cells (traceV oa1 on1 oc1 en1 cd1 ft1 ma1 mn1 mc1 st2) 30)).cell? ⟨w2.heap.size, 0, none⟩ = some (.slice oa1 on1 oc1) := new_cell' w2 _ _ 0 _ rfl
  have n1 : (w2.alloc (.cells (traceV oa1 on1 oc1 en1 cd1 ft1 ma1 mn1 mc1 st2) 30)).cell? ⟨w2.heap.size, 1, none⟩ = some (.bool en1) := new_cell' w2 _ _ 1 _ rfl
  have n2 : (w2.alloc (.cells (traceV oa1 on1 oc1 en1 cd1 ft1 ma1 mn1 mc1 st2) 30)).cell? ⟨w2.heap.size, 2, none⟩ = some (.int .u32 cd1) := new_cell' w2 _ _ 2 _ rfl
  have n3 : (w2.alloc (.cells (traceV oa1 on1 oc1 en1 cd1 ft1 ma1 mn1 mc1 st2) 30)).cell? ⟨w2.heap.size, 3, none⟩ = some (.int .i64 ft1) := new_cell' w2 _ _ 3 _ rfl
  have n4 : (w2.alloc (.cells (traceV oa1 on1 oc1 en1 cd1 ft1 ma1 mn1 mc1 st2) 30)).cell? ⟨w2.heap.size, 4, none⟩ = some (.slice ma1 mn1 mc1) := new_cell' w2 _ _ 4 _ rfl
  have n5 : (w2.alloc (.cells (traceV oa1 on1 oc1 en1 cd1 ft1 ma1 mn1 mc1 st2) 30)).cell? ⟨w2.heap.size, 5, none⟩ = some (.int .i64 st2) := new_cell' w2 _ _ 5 _ rfl
  have Q6 : Hid (Below w0.heap.size w0 (w2.alloc (.cells (traceV oa1 on1 oc1 en1 cd1 ft1 ma1 mn1 mc1 st2) 30))) := bnext Q2.out B6.out
  clear x0 x1 x2 x3 x4 x5 y0 y1 y2 y3 y4 y5 L2 B6 Q2
  generalize w2.alloc (.cells (traceV oa1 on1 oc1 en1 cd1 ft1 ma1 mn1 mc1 st2) 30) = w6 at n0 n1 n2 n3 n4 n5 Q6 ⊢
  generalize w2.heap.size = g6 at n0 n1 n2 n3 n4 n5 ⊢
  have x0 : w6.cell? ⟨w.heap.size, 0, none⟩ = some (.slice oa1 on1 oc1) := cell_later' (X1.out 0 _ rfl) Q6.out
  have x1 : w6.cell? ⟨w.heap.size, 1, none⟩ = some (.bool en1) := cell_later' (X1.out 1 _ rfl) Q6.out
  have x2 : w6.cell? ⟨w.heap.size, 2, none⟩ = some (.int .u32 cd1) := cell_later' (X1.out 2 _ rfl) Q6.out
  have x3 : w6.cell? ⟨w.heap.size, 3, none⟩ = some (.int .i64 ft1) := cell_later' (X1.out 3 _ rfl) Q6.out
  have x4 : w6.cell? ⟨w.heap.size, 4, none⟩ = some (.slice ma1 mn1 mc1) := cell_later' (X1.out 4 _ rfl) Q6.out
  have x5 : w6.cell? ⟨w.heap.size, 5, none⟩ = some (.int .i64 st1) := cell_later' (X1.out 5 _ rfl) Q6.out
  have y0 : w6.cell? ⟨w.heap.size + 1, 0, none⟩ = some (.slice oa2 on2 oc2) := cell_later' (X2.out 0 _ rfl) Q6.out
  have y1 : w6.cell? ⟨w.heap.size + 1, 1, none⟩ = some (.bool en2) := cell_later' (X2.out 1 _ rfl) Q6.out
  have y2 : w6.cell? ⟨w.heap.size + 1, 2, none⟩ = some (.int .u32 cd2) := cell_later' (X2.out 2 _ rfl) Q6.out
  have y3 : w6.cell? ⟨w.heap.size + 1, 3, none⟩ = some (.int .i64 ft2) := cell_later' (X2.out 3 _ rfl) Q6.out
  have y4 : w6.cell? ⟨w.heap.size + 1, 4, none⟩ = some (.slice ma2 mn2 mc2) := cell_later' (X2.out 4 _ rfl) Q6.out
  have y5 : w6.cell? ⟨w.heap.size + 1, 5, none⟩ = some (.int .i64 st2) := cell_later' (X2.out 5 _ rfl) Q6.out
  go_wp2_with (first
    | (go_at_call 17; revert hb7; intro hb7; refine (AC.out _ (bnext (bnext HA.out Q6.out) hb7)).mono ?_; rintro e w8 ⟨rfl, hb8⟩)
    | (go_at_call 17; refine (AL.out _ (bnext HA.out Q6.out)).mono ?_; rintro e w7 ⟨rfl, hb7⟩; have x0' := cell_later' x0 hb7; have y0' := cell_later' y0 hb7; have n0' := cell_later' n0 hb7; have x1' := cell_later' x1 hb7; have y1' := cell_later' y1 hb7; have n1' := cell_later' n1 hb7; have x2' := cell_later' x2 hb7; have y2' := cell_later' y2 hb7; have n2' := cell_later' n2 hb7; have x3' := cell_later' x3 hb7; have y3' := cell_later' y3 hb7; have n3' := cell_later' n3 hb7; have x4' := cell_later' x4 hb7; have y4' := cell_later' y4 hb7; have n4' := cell_later' n4 hb7; have x5' := cell_later' x5 hb7; have y5' := cell_later' y5 hb7; have n5' := cell_later' n5 hb7))
  go_ret
  exact ⟨rfl, bnext (bnext (bnext HA.out Q6.out) hb7) hb8⟩
set_option maxRecDepth 100000 in
set_option maxHeartbeats 2000000 in
theorem alikes_main2 (w : World) (oa1 : Option Addr) (on1 oc1 : Nat) (of1 : Nat → Int) (en1 : Bool) (cd1 ft1 : Int) (ma1 : Option Addr) (mn1 mc1 : Nat) (mf1 : Nat → Int) (st1 : Int) (oa2 : Option Addr) (on2 oc2 : Nat) (of2 : Nat → Int) (en2 : Bool) (cd2 ft2 : Int) (ma2 : Option Addr) (mn2 mc2 : Nat) (mf2 : Nat → Int) (st2 : Int) (hon1 : on1 ≤ 300) (hon2 : on2 ≤ 300) (hmn1 : mn1 ≤ 300) (hmn2 : mn2 ≤ 300) (q0 : eqB on1 on2 of1 of2 = true) (q1 : (en1 == en2) = true) (q2 : (cd1 == cd2) = false) (hO1 : Head oa1 on1 oc1 ∧ Bytes w oa1 on1 of1) (hM1 : Head ma1 mn1 mc1 ∧ Bytes w ma1 mn1 mf1) (hO2 : Head oa2 on2 oc2 ∧ Bytes w oa2 on2 of2) (hM2 : Head ma2 mn2 mc2 ∧ Bytes w ma2 mn2 mf2) (hT : Tab w) :
    Calls Tryd.prog 5 #[.agg (traceV oa1 on1 oc1 en1 cd1 ft1 ma1 mn1 mc1 st1), .agg (traceV oa2 on2 oc2 en2 cd2 ft2 ma2 mn2 mc2 st2)] w fun e w' => e = .returned (.bool true) ∧ Below w.heap.size w w' := by
  have gon1 : decide ((on1 : Int) > 300) = false := by simp; omega
  have kon1 : decide (300 < on1) = false := by simp; omega
  have gon2 : decide ((on2 : Int) > 300) = false := by simp; omega
  have kon2 : decide (300 < on2) = false := by simp; omega
  have gmn1 : decide ((mn1 : Int) > 300) = false := by simp; omega
  have kmn1 : decide (300 < mn1) = false := by simp; omega
  have gmn2 : decide ((mn2 : Int) > 300) = false := by simp; omega
  have kmn2 : decide (300 < mn2) = false := by simp; omega
  have HA : Hid (Below w.heap.size w ((w.alloc (.cells (traceV oa1 on1 oc1 en1 cd1 ft1 ma1 mn1 mc1 st1) 30)).alloc (.cells (traceV oa2 on2 oc2 en2 cd2 ft2 ma2 mn2 mc2 st2) 30))) := ((Below.refl _ w).alloc (Nat.le_refl _) _).alloc (by simp) _
  have X1 : Hid (∀ j v, (traceV oa1 on1 oc1 en1 cd1 ft1 ma1 mn1 mc1 st1)[j]? = some v → ((w.alloc (.cells (traceV oa1 on1 oc1 en1 cd1 ft1 ma1 mn1 mc1 st1) 30)).alloc (.cells (traceV oa2 on2 oc2 en2 cd2 ft2 ma2 mn2 mc2 st2) 30)).cell? ⟨w.heap.size, j, none⟩ = some v) := fun j v h => cell_later' (new_cell' w _ _ j v h) ((Below.refl _ _).alloc (Nat.le_refl _) _)
  have X2 : Hid (∀ j v, (traceV oa2 on2 oc2 en2 cd2 ft2 ma2 mn2 mc2 st2)[j]? = some v → ((w.alloc (.cells (traceV oa1 on1 oc1 en1 cd1 ft1 ma1 mn1 mc1 st1) 30)).alloc (.cells (traceV oa2 on2 oc2 en2 cd2 ft2 ma2 mn2 mc2 st2) 30)).cell? ⟨w.heap.size + 1, j, none⟩ = some v) := fun j v h => by
    have h := new_cell' (w.alloc (.cells (traceV oa1 on1 oc1 en1 cd1 ft1 ma1 mn1 mc1 st1) 30)) (traceV oa2 on2 oc2 en2 cd2 ft2 ma2 mn2 mc2 st2) 30 j v h
    rwa [show (w.alloc (.cells (traceV oa1 on1 oc1 en1 cd1 ft1 ma1 mn1 mc1 st1) 30)).heap.size = w.heap.size + 1 from by simp] at h
  have T1 : Hid (Tab ((w.alloc (.cells (traceV oa1 on1 oc1 en1 cd1 ft1 ma1 mn1 mc1 st1) 30)).alloc (.cells (traceV oa2 on2 oc2 en2 cd2 ft2 ma2 mn2 mc2 st2) 30))) := hT.later HA.out
  have hq : alikeZ ({ on_ := on1, of_ := of1, en := en1, cd := cd1, ft := ft1, mn := mn1, mf := mf1, st := st1 } : Tr) ({ on_ := on2, of_ := of2, en := en2, cd := cd2, ft := ft2, mn := mn2, mf := mf2, st := st2 } : Tr) = false := by simp only [alikeZ, q0, q1, q2]; simp
  have I1 : Hid (IsTr w (.agg (traceV oa1 on1 oc1 en1 cd1 ft1 ma1 mn1 mc1 st1)) ({ on_ := on1, of_ := of1, en := en1, cd := cd1, ft := ft1, mn := mn1, mf := mf1, st := st1 } : Tr)) := ⟨oa1, oc1, ma1, mc1, rfl, hO1, hM1⟩
  have I2 : Hid (IsTr w (.agg (traceV oa2 on2 oc2 en2 cd2 ft2 ma2 mn2 mc2 st2)) ({ on_ := on2, of_ := of2, en := en2, cd := cd2, ft := ft2, mn := mn2, mf := mf2, st := st2 } : Tr)) := ⟨oa2, oc2, ma2, mc2, rfl, hO2, hM2⟩
  have I3 : Hid (IsTr w (.agg (traceV oa1 on1 oc1 en1 cd1 ft1 ma1 mn1 mc1 st2)) ({ on_ := on1, of_ := of1, en := en1, cd := cd1, ft := ft1, mn := mn1, mf := mf1, st := st2 } : Tr)) := ⟨oa1, oc1, ma1, mc1, rfl, hO1, hM1⟩
  have SM1 : Hid (∀ W, Below w.heap.size w W → Calls Tryd.prog 14 #[.slice oa1 on1 oc1, .slice oa2 on2 oc2] W fun e w' => e = .returned (.bool true) ∧ Below W.heap.size W w') := fun W hW => by
    have h := bytes_eq W oa1 oa2 on1 on2 oc1 oc2 of1 of2 (by omega) (by omega) (hO1.2.later hW) (hO2.2.later hW)
    rwa [q0] at h
  have AL : Hid (∀ W, Below w.heap.size w W → Calls Tryd.prog 17 #[.agg (traceV oa1 on1 oc1 en1 cd1 ft1 ma1 mn1 mc1 st1), .agg (traceV oa2 on2 oc2 en2 cd2 ft2 ma2 mn2 mc2 st2)] W fun e w' => e = .returned (.bool false) ∧ Below W.heap.size W w') := fun W hW => by
    have h := alike_st (I1.out.later hW) (I2.out.later hW) ⟨by simp only []; omega, by simp only []; omega⟩ ⟨by simp only []; omega, by simp only []; omega⟩
    rwa [hq] at h
  have AC : Hid (∀ W, Below w.heap.size w W → Calls Tryd.prog 17 #[.agg (traceV oa1 on1 oc1 en1 cd1 ft1 ma1 mn1 mc1 st1), .agg (traceV oa1 on1 oc1 en1 cd1 ft1 ma1 mn1 mc1 st2)] W fun e w' => e = .returned (.bool true) ∧ Below W.heap.size W w') := fun W hW => by
    have h := alike_st (I1.out.later hW) (I3.out.later hW) ⟨by simp only []; omega, by simp only []; omega⟩ ⟨by simp only []; omega, by simp only []; omega⟩
    rwa [show alikeZ ({ on_ := on1, of_ := of1, en := en1, cd := cd1, ft := ft1, mn := mn1, mf := mf1, st := st1 } : Tr) ({ on_ := on1, of_ := of1, en := en1, cd := cd1, ft := ft1, mn := mn1, mf := mf1, st := st2 } : Tr) = true from by simp [alikeZ, eqB_self]] at h
  clear hO1 hM1 hO2 hM2 I1 I2 I3 hq
  clear hT
  go_enter Tryd.func5, Tryd.ntmps5
  go_upto_region 1 with fail
  generalize ((w.alloc (.cells (traceV oa1 on1 oc1 en1 cd1 ft1 ma1 mn1 mc1 st1) 30)).alloc (.cells (traceV oa2 on2 oc2 en2 cd2 ft2 ma2 mn2 mc2 st2) 30)) = w0 at HA X1 X2 T1 ⊢
  go_upto_region 3 with (go_at_call 8; refine (awake7 _ T1.out).mono ?_; rintro e w1 ⟨rfl, hb1⟩; have x0 : w1.cell? ⟨w.heap.size, 0, none⟩ = some (.slice oa1 on1 oc1) := cell_later' (X1.out 0 _ rfl) hb1; have x1 : w1.cell? ⟨w.heap.size, 1, none⟩ = some (.bool en1) := cell_later' (X1.out 1 _ rfl) hb1; have x2 : w1.cell? ⟨w.heap.size, 2, none⟩ = some (.int .u32 cd1) := cell_later' (X1.out 2 _ rfl) hb1; have x3 : w1.cell? ⟨w.heap.size, 3, none⟩ = some (.int .i64 ft1) := cell_later' (X1.out 3 _ rfl) hb1; have x4 : w1.cell? ⟨w.heap.size, 4, none⟩ = some (.slice ma1 mn1 mc1) := cell_later' (X1.out 4 _ rfl) hb1; have x5 : w1.cell? ⟨w.heap.size, 5, none⟩ = some (.int .i64 st1) := cell_later' (X1.out 5 _ rfl) hb1; have y0 : w1.cell? ⟨w.heap.size + 1, 0, none⟩ = some (.slice oa2 on2 oc2) := cell_later' (X2.out 0 _ rfl) hb1; have y1 : w1.cell? ⟨w.heap.size + 1, 1, none⟩ = some (.bool en2) := cell_later' (X2.out 1 _ rfl) hb1; have y2 : w1.cell? ⟨w.heap.size + 1, 2, none⟩ = some (.int .u32 cd2) := cell_later' (X2.out 2 _ rfl) hb1; have y3 : w1.cell? ⟨w.heap.size + 1, 3, none⟩ = some (.int .i64 ft2) := cell_later' (X2.out 3 _ rfl) hb1; have y4 : w1.cell? ⟨w.heap.size + 1, 4, none⟩ = some (.slice ma2 mn2 mc2) := cell_later' (X2.out 4 _ rfl) hb1; have y5 : w1.cell? ⟨w.heap.size + 1, 5, none⟩ = some (.int .i64 st2) := cell_later' (X2.out 5 _ rfl) hb1)
  have Q1 : Hid (Below w0.heap.size w0 w1) := hb1
  clear hb1
  go_upto_region 4 with (first
    | (go_at_call 14; revert hb2; intro hb2; refine (SM2.out _ (bnext (bnext HA.out Q1.out) hb2)).mono ?_; rintro e w4 ⟨rfl, hb4⟩)
    | (go_at_call 14; refine (SM1.out _ (bnext HA.out Q1.out)).mono ?_; rintro e w2 ⟨rfl, hb2⟩; have z0 : w2.cell? ⟨w.heap.size, 0, none⟩ = some (.slice oa1 on1 oc1) := cell_later' (X1.out 0 _ rfl) (bnext Q1.out hb2); have z1 : w2.cell? ⟨w.heap.size, 1, none⟩ = some (.bool en1) := cell_later' (X1.out 1 _ rfl) (bnext Q1.out hb2); have z2 : w2.cell? ⟨w.heap.size, 2, none⟩ = some (.int .u32 cd1) := cell_later' (X1.out 2 _ rfl) (bnext Q1.out hb2); have z3 : w2.cell? ⟨w.heap.size, 3, none⟩ = some (.int .i64 ft1) := cell_later' (X1.out 3 _ rfl) (bnext Q1.out hb2); have z4 : w2.cell? ⟨w.heap.size, 4, none⟩ = some (.slice ma1 mn1 mc1) := cell_later' (X1.out 4 _ rfl) (bnext Q1.out hb2); have z5 : w2.cell? ⟨w.heap.size, 5, none⟩ = some (.int .i64 st1) := cell_later' (X1.out 5 _ rfl) (bnext Q1.out hb2); have u0 : w2.cell? ⟨w.heap.size + 1, 0, none⟩ = some (.slice oa2 on2 oc2) := cell_later' (X2.out 0 _ rfl) (bnext Q1.out hb2); have u1 : w2.cell? ⟨w.heap.size + 1, 1, none⟩ = some (.bool en2) := cell_later' (X2.out 1 _ rfl) (bnext Q1.out hb2); have u2 : w2.cell? ⟨w.heap.size + 1, 2, none⟩ = some (.int .u32 cd2) := cell_later' (X2.out 2 _ rfl) (bnext Q1.out hb2); have u3 : w2.cell? ⟨w.heap.size + 1, 3, none⟩ = some (.int .i64 ft2) := cell_later' (X2.out 3 _ rfl) (bnext Q1.out hb2); have u4 : w2.cell? ⟨w.heap.size + 1, 4, none⟩ = some (.slice ma2 mn2 mc2) := cell_later' (X2.out 4 _ rfl) (bnext Q1.out hb2); have u5 : w2.cell? ⟨w.heap.size + 1, 5, none⟩ = some (.int .i64 st2) := cell_later' (X2.out 5 _ rfl) (bnext Q1.out hb2)))
  have Q2 : Hid (Below w0.heap.size w0 w2) := bnext Q1.out hb2
  clear hb2 z0 z1 z2 z3 z4 z5 u0 u1 u2 u3 u4 u5 x0 x1 x2 x3 x4 x5 y0 y1 y2 y3 y4 y5 Q1 SM1
  have x0 : w2.cell? ⟨w.heap.size, 0, none⟩ = some (.slice oa1 on1 oc1) := cell_later' (X1.out 0 _ rfl) Q2.out
  have x1 : w2.cell? ⟨w.heap.size, 1, none⟩ = some (.bool en1) := cell_later' (X1.out 1 _ rfl) Q2.out
  have x2 : w2.cell? ⟨w.heap.size, 2, none⟩ = some (.int .u32 cd1) := cell_later' (X1.out 2 _ rfl) Q2.out
  have x3 : w2.cell? ⟨w.heap.size, 3, none⟩ = some (.int .i64 ft1) := cell_later' (X1.out 3 _ rfl) Q2.out
  have x4 : w2.cell? ⟨w.heap.size, 4, none⟩ = some (.slice ma1 mn1 mc1) := cell_later' (X1.out 4 _ rfl) Q2.out
  have x5 : w2.cell? ⟨w.heap.size, 5, none⟩ = some (.int .i64 st1) := cell_later' (X1.out 5 _ rfl) Q2.out
  have y0 : w2.cell? ⟨w.heap.size + 1, 0, none⟩ = some (.slice oa2 on2 oc2) := cell_later' (X2.out 0 _ rfl) Q2.out
  have y1 : w2.cell? ⟨w.heap.size + 1, 1, none⟩ = some (.bool en2) := cell_later' (X2.out 1 _ rfl) Q2.out
  have y2 : w2.cell? ⟨w.heap.size + 1, 2, none⟩ = some (.int .u32 cd2) := cell_later' (X2.out 2 _ rfl) Q2.out
  have y3 : w2.cell? ⟨w.heap.size + 1, 3, none⟩ = some (.int .i64 ft2) := cell_later' (X2.out 3 _ rfl) Q2.out
  have y4 : w2.cell? ⟨w.heap.size + 1, 4, none⟩ = some (.slice ma2 mn2 mc2) := cell_later' (X2.out 4 _ rfl) Q2.out
  have y5 : w2.cell? ⟨w.heap.size + 1, 5, none⟩ = some (.int .i64 st2) := cell_later' (X2.out 5 _ rfl) Q2.out
  have L2 : w.heap.size + 1 < w2.heap.size := World.block_lt_of_cell? w2 ⟨w.heap.size + 1, 0, none⟩ y0
  go_upto_region 6 with fail
  have B6 : Hid (Below w2.heap.size w2 (w2.alloc (.cells (traceV oa1 on1 oc1 en1 cd1 ft1 ma1 mn1 mc1 st2) 30))) := (Below.refl _ _).alloc (Nat.le_refl _) _
  have n0 : (w2.alloc (.cells (traceV oa1 on1 oc1 en1 cd1 ft1 ma1 mn1 mc1 st2) 30)).cell? ⟨w2.heap.size, 0, none⟩ = some (.slice oa1 on1 oc1) := new_cell' w2 _ _ 0 _ rfl
  have n1 : (w2.alloc (.cells (traceV oa1 on1 oc1 en1 cd1 ft1 ma1 mn1 mc1 st2) 30)).cell? ⟨w2.heap.size, 1, none⟩ = some (.bool en1) := new_cell' w2 _ _ 1 _ rfl
  have n2 : (w2.alloc (.cells (traceV oa1 on1 oc1 en1 cd1 ft1 ma1 mn1 mc1 st2) 30)).cell? ⟨w2.heap.size, 2, none⟩ = some (.int .u32 cd1) := new_cell' w2 _ _ 2 _ rfl
  have n3 : (w2.alloc (.cells (traceV oa1 on1 oc1 en1 cd1 ft1 ma1 mn1 mc1 st2) 30)).cell? ⟨w2.heap.size, 3, none⟩ = some (.int .i64 ft1) := new_cell' w2 _ _ 3 _ rfl
  have n4 : (w2.alloc (.cells (traceV oa1 on1 oc1 en1 cd1 ft1 ma1 mn1 mc1 st2) 30)).cell? ⟨w2.heap.size, 4, none⟩ = some (.slice ma1 mn1 mc1) := new_cell' w2 _ _ 4 _ rfl
  have n5 : (w2.alloc (.cells (traceV oa1 on1 oc1 en1 cd1 ft1 ma1 mn1 mc1 st2) 30)).cell? ⟨w2.heap.size, 5, none⟩ = some (.int .i64 st2) := new_cell' w2 _ _ 5 _ rfl
  have Q6 : Hid (Below w0.heap.size w0 (w2.alloc (.cells (traceV oa1 on1 oc1 en1 cd1 ft1 ma1 mn1 mc1 st2) 30))) := bnext Q2.out B6.out
  clear x0 x1 x2 x3 x4 x5 y0 y1 y2 y3 y4 y5 L2 B6 Q2
  generalize w2.alloc (.cells (traceV oa1 on1 oc1 en1 cd1 ft1 ma1 mn1 mc1 st2) 30) = w6 at n0 n1 n2 n3 n4 n5 Q6 ⊢
  generalize w2.heap.size = g6 at n0 n1 n2 n3 n4 n5 ⊢
  have x0 : w6.cell? ⟨w.heap.size, 0, none⟩ = some (.slice oa1 on1 oc1) := cell_later' (X1.out 0 _ rfl) Q6.out
  have x1 : w6.cell? ⟨w.heap.size, 1, none⟩ = some (.bool en1) := cell_later' (X1.out 1 _ rfl) Q6.out
  have x2 : w6.cell? ⟨w.heap.size, 2, none⟩ = some (.int .u32 cd1) := cell_later' (X1.out 2 _ rfl) Q6.out
  have x3 : w6.cell? ⟨w.heap.size, 3, none⟩ = some (.int .i64 ft1) := cell_later' (X1.out 3 _ rfl) Q6.out
  have x4 : w6.cell? ⟨w.heap.size, 4, none⟩ = some (.slice ma1 mn1 mc1) := cell_later' (X1.out 4 _ rfl) Q6.out
  have x5 : w6.cell? ⟨w.heap.size, 5, none⟩ = some (.int .i64 st1) := cell_later' (X1.out 5 _ rfl) Q6.out
  have y0 : w6.cell? ⟨w.heap.size + 1, 0, none⟩ = some (.slice oa2 on2 oc2) := cell_later' (X2.out 0 _ rfl) Q6.out
  have y1 : w6.cell? ⟨w.heap.size + 1, 1, none⟩ = some (.bool en2) := cell_later' (X2.out 1 _ rfl) Q6.out
  have y2 : w6.cell? ⟨w.heap.size + 1, 2, none⟩ = some (.int .u32 cd2) := cell_later' (X2.out 2 _ rfl) Q6.out
  have y3 : w6.cell? ⟨w.heap.size + 1, 3, none⟩ = some (.int .i64 ft2) := cell_later' (X2.out 3 _ rfl) Q6.out
  have y4 : w6.cell? ⟨w.heap.size + 1, 4, none⟩ = some (.slice ma2 mn2 mc2) := cell_later' (X2.out 4 _ rfl) Q6.out
  have y5 : w6.cell? ⟨w.heap.size + 1, 5, none⟩ = some (.int .i64 st2) := cell_later' (X2.out 5 _ rfl) Q6.out
  go_wp2_with (first
    | (go_at_call 17; revert hb7; intro hb7; refine (AC.out _ (bnext (bnext HA.out Q6.out) hb7)).mono ?_; rintro e w8 ⟨rfl, hb8⟩)
    | (go_at_call 17; refine (AL.out _ (bnext HA.out Q6.out)).mono ?_; rintro e w7 ⟨rfl, hb7⟩; have x0' := cell_later' x0 hb7; have y0' := cell_later' y0 hb7; have n0' := cell_later' n0 hb7; have x1' := cell_later' x1 hb7; have y1' := cell_later' y1 hb7; have n1' := cell_later' n1 hb7; have x2' := cell_later' x2 hb7; have y2' := cell_later' y2 hb7; have n2' := cell_later' n2 hb7; have x3' := cell_later' x3 hb7; have y3' := cell_later' y3 hb7; have n3' := cell_later' n3 hb7; have x4' := cell_later' x4 hb7; have y4' := cell_later' y4 hb7; have n4' := cell_later' n4 hb7; have x5' := cell_later' x5 hb7; have y5' := cell_later' y5 hb7; have n5' := cell_later' n5 hb7))
  go_ret
  exact ⟨rfl, bnext (bnext (bnext HA.out Q6.out) hb7) hb8⟩
set_option maxRecDepth 100000 in
set_option maxHeartbeats 2000000 in
theorem alikes_main3 (w : World) (oa1 : Option Addr) (on1 oc1 : Nat) (of1 : Nat → Int) (en1 : Bool) (cd1 ft1 : Int) (ma1 : Option Addr) (mn1 mc1 : Nat) (mf1 : Nat → Int) (st1 : Int) (oa2 : Option Addr) (on2 oc2 : Nat) (of2 : Nat → Int) (en2 : Bool) (cd2 ft2 : Int) (ma2 : Option Addr) (mn2 mc2 : Nat) (mf2 : Nat → Int) (st2 : Int) (hon1 : on1 ≤ 300) (hon2 : on2 ≤ 300) (hmn1 : mn1 ≤ 300) (hmn2 : mn2 ≤ 300) (q0 : eqB on1 on2 of1 of2 = true) (q1 : (en1 == en2) = true) (q2 : (cd1 == cd2) = true) (q3 : (ft1 == ft2) = false) (hO1 : Head oa1 on1 oc1 ∧ Bytes w oa1 on1 of1) (hM1 : Head ma1 mn1 mc1 ∧ Bytes w ma1 mn1 mf1) (hO2 : Head oa2 on2 oc2 ∧ Bytes w oa2 on2 of2) (hM2 : Head ma2 mn2 mc2 ∧ Bytes w ma2 mn2 mf2) (hT : Tab w) :
    Calls Tryd.prog 5 #[.agg (traceV oa1 on1 oc1 en1 cd1 ft1 ma1 mn1 mc1 st1), .agg (traceV oa2 on2 oc2 en2 cd2 ft2 ma2 mn2 mc2 st2)] w fun e w' => e = .returned (.bool true) ∧ Below w.heap.size w w' := by
  have gon1 : decide ((on1 : Int) > 300) = false := by simp; omega
  have kon1 : decide (300 < on1) = false := by simp; omega
  have gon2 : decide ((on2 : Int) > 300) = false := by simp; omega
  have kon2 : decide (300 < on2) = false := by simp; omega
  have gmn1 : decide ((mn1 : Int) > 300) = false := by simp; omega
  have kmn1 : decide (300 < mn1) = false := by simp; omega
  have gmn2 : decide ((mn2 : Int) > 300) = false := by simp; omega
  have kmn2 : decide (300 < mn2) = false := by simp; omega
  have HA : Hid (Below w.heap.size w ((w.alloc (.cells (traceV oa1 on1 oc1 en1 cd1 ft1 ma1 mn1 mc1 st1) 30)).alloc (.cells (traceV oa2 on2 oc2 en2 cd2 ft2 ma2 mn2 mc2 st2) 30))) := ((Below.refl _ w).alloc (Nat.le_refl _) _).alloc (by simp) _
  have X1 : Hid (∀ j v, (traceV oa1 on1 oc1 en1 cd1 ft1 ma1 mn1 mc1 st1)[j]? = some v → ((w.alloc (.cells (traceV oa1 on1 oc1 en1 cd1 ft1 ma1 mn1 mc1 st1) 30)).alloc (.cells (traceV oa2 on2 oc2 en2 cd2 ft2 ma2 mn2 mc2 st2) 30)).cell? ⟨w.heap.size, j, none⟩ = some v) := fun j v h => cell_later' (new_cell' w _ _ j v h) ((Below.refl _ _).alloc (Nat.le_refl _) _)
  have X2 : Hid (∀ j v, (traceV oa2 on2 oc2 en2 cd2 ft2 ma2 mn2 mc2 st2)[j]? = some v → ((w.alloc (.cells (traceV oa1 on1 oc1 en1 cd1 ft1 ma1 mn1 mc1 st1) 30)).alloc (.cells (traceV oa2 on2 oc2 en2 cd2 ft2 ma2 mn2 mc2 st2) 30)).cell? ⟨w.heap.size + 1, j, none⟩ = some v) := fun j v h => by
    have h := new_cell' (w.alloc (.cells (traceV oa1 on1 oc1 en1 cd1 ft1 ma1 mn1 mc1 st1) 30)) (traceV oa2 on2 oc2 en2 cd2 ft2 ma2 mn2 mc2 st2) 30 j v h
    rwa [show (w.alloc (.cells (traceV oa1 on1 oc1 en1 cd1 ft1 ma1 mn1 mc1 st1) 30)).heap.size = w.heap.size + 1 from by simp] at h
  have T1 : Hid (Tab ((w.alloc (.cells (traceV oa1 on1 oc1 en1 cd1 ft1 ma1 mn1 mc1 st1) 30)).alloc (.cells (traceV oa2 on2 oc2 en2 cd2 ft2 ma2 mn2 mc2 st2) 30))) := hT.later HA.out
  have hq : alikeZ ({ on_ := on1, of_ := of1, en := en1, cd := cd1, ft := ft1, mn := mn1, mf := mf1, st := st1 } : Tr) ({ on_ := on2, of_ := of2, en := en2, cd := cd2, ft := ft2, mn := mn2, mf := mf2, st := st2 } : Tr) = false := by simp only [alikeZ, q0, q1, q2, q3]; simp
  have I1 : Hid (IsTr w (.agg (traceV oa1 on1 oc1 en1 cd1 ft1 ma1 mn1 mc1 st1)) ({ on_ := on1, of_ := of1, en := en1, cd := cd1, ft := ft1, mn := mn1, mf := mf1, st := st1 } : Tr)) := ⟨oa1, oc1, ma1, mc1, rfl, hO1, hM1⟩
  have I2 : Hid (IsTr w (.agg (traceV oa2 on2 oc2 en2 cd2 ft2 ma2 mn2 mc2 st2)) ({ on_ := on2, of_ := of2, en := en2, cd := cd2, ft := ft2, mn := mn2, mf := mf2, st := st2 } : Tr)) := ⟨oa2, oc2, ma2, mc2, rfl, hO2, hM2⟩
  have I3 : Hid (IsTr w (.agg (traceV oa1 on1 oc1 en1 cd1 ft1 ma1 mn1 mc1 st2)) ({ on_ := on1, of_ := of1, en := en1, cd := cd1, ft := ft1, mn := mn1, mf := mf1, st := st2 } : Tr)) := ⟨oa1, oc1, ma1, mc1, rfl, hO1, hM1⟩
  have SM1 : Hid (∀ W, Below w.heap.size w W → Calls Tryd.prog 14 #[.slice oa1 on1 oc1, .slice oa2 on2 oc2] W fun e w' => e = .returned (.bool true) ∧ Below W.heap.size W w') := fun W hW => by
    have h := bytes_eq W oa1 oa2 on1 on2 oc1 oc2 of1 of2 (by omega) (by omega) (hO1.2.later hW) (hO2.2.later hW)
    rwa [q0] at h
  have AL : Hid (∀ W, Below w.heap.size w W → Calls Tryd.prog 17 #[.agg (traceV oa1 on1 oc1 en1 cd1 ft1 ma1 mn1 mc1 st1), .agg (traceV oa2 on2 oc2 en2 cd2 ft2 ma2 mn2 mc2 st2)] W fun e w' => e = .returned (.bool false) ∧ Below W.heap.size W w') := fun W hW => by
    have h := alike_st (I1.out.later hW) (I2.out.later hW) ⟨by simp only []; omega, by simp only []; omega⟩ ⟨by simp only []; omega, by simp only []; omega⟩
    rwa [hq] at h
  have AC : Hid (∀ W, Below w.heap.size w W → Calls Tryd.prog 17 #[.agg (traceV oa1 on1 oc1 en1 cd1 ft1 ma1 mn1 mc1 st1), .agg (traceV oa1 on1 oc1 en1 cd1 ft1 ma1 mn1 mc1 st2)] W fun e w' => e = .returned (.bool true) ∧ Below W.heap.size W w') := fun W hW => by
    have h := alike_st (I1.out.later hW) (I3.out.later hW) ⟨by simp only []; omega, by simp only []; omega⟩ ⟨by simp only []; omega, by simp only []; omega⟩
    rwa [show alikeZ ({ on_ := on1, of_ := of1, en := en1, cd := cd1, ft := ft1, mn := mn1, mf := mf1, st := st1 } : Tr) ({ on_ := on1, of_ := of1, en := en1, cd := cd1, ft := ft1, mn := mn1, mf := mf1, st := st2 } : Tr) = true from by simp [alikeZ, eqB_self]] at h
  clear hO1 hM1 hO2 hM2 I1 I2 I3 hq
  clear hT
  go_enter Tryd.func5, Tryd.ntmps5
  go_upto_region 1 with fail
  generalize ((w.alloc (.cells (traceV oa1 on1 oc1 en1 cd1 ft1 ma1 mn1 mc1 st1) 30)).alloc (.cells (traceV oa2 on2 oc2 en2 cd2 ft2 ma2 mn2 mc2 st2) 30)) = w0 at HA X1 X2 T1 ⊢
  go_upto_region 3 with (go_at_call 8; refine (awake7 _ T1.out).mono ?_; rintro e w1 ⟨rfl, hb1⟩; have x0 : w1.cell? ⟨w.heap.size, 0, none⟩ = some (.slice oa1 on1 oc1) := cell_later' (X1.out 0 _ rfl) hb1; have x1 : w1.cell? ⟨w.heap.size, 1, none⟩ = some (.bool en1) := cell_later' (X1.out 1 _ rfl) hb1; have x2 : w1.cell? ⟨w.heap.size, 2, none⟩ = some (.int .u32 cd1) := cell_later' (X1.out 2 _ rfl) hb1; have x3 : w1.cell? ⟨w.heap.size, 3, none⟩ = some (.int .i64 ft1) := cell_later' (X1.out 3 _ rfl) hb1; have x4 : w1.cell? ⟨w.heap.size, 4, none⟩ = some (.slice ma1 mn1 mc1) := cell_later' (X1.out 4 _ rfl) hb1; have x5 : w1.cell? ⟨w.heap.size, 5, none⟩ = some (.int .i64 st1) := cell_later' (X1.out 5 _ rfl) hb1; have y0 : w1.cell? ⟨w.heap.size + 1, 0, none⟩ = some (.slice oa2 on2 oc2) := cell_later' (X2.out 0 _ rfl) hb1; have y1 : w1.cell? ⟨w.heap.size + 1, 1, none⟩ = some (.bool en2) := cell_later' (X2.out 1 _ rfl) hb1; have y2 : w1.cell? ⟨w.heap.size + 1, 2, none⟩ = some (.int .u32 cd2) := cell_later' (X2.out 2 _ rfl) hb1; have y3 : w1.cell? ⟨w.heap.size + 1, 3, none⟩ = some (.int .i64 ft2) := cell_later' (X2.out 3 _ rfl) hb1; have y4 : w1.cell? ⟨w.heap.size + 1, 4, none⟩ = some (.slice ma2 mn2 mc2) := cell_later' (X2.out 4 _ rfl) hb1; have y5 : w1.cell? ⟨w.heap.size + 1, 5, none⟩ = some (.int .i64 st2) := cell_later' (X2.out 5 _ rfl) hb1)
  have Q1 : Hid (Below w0.heap.size w0 w1) := hb1
  clear hb1
  go_upto_region 4 with (first
    | (go_at_call 14; revert hb2; intro hb2; refine (SM2.out _ (bnext (bnext HA.out Q1.out) hb2)).mono ?_; rintro e w4 ⟨rfl, hb4⟩)
    | (go_at_call 14; refine (SM1.out _ (bnext HA.out Q1.out)).mono ?_; rintro e w2 ⟨rfl, hb2⟩; have z0 : w2.cell? ⟨w.heap.size, 0, none⟩ = some (.slice oa1 on1 oc1) := cell_later' (X1.out 0 _ rfl) (bnext Q1.out hb2); have z1 : w2.cell? ⟨w.heap.size, 1, none⟩ = some (.bool en1) := cell_later' (X1.out 1 _ rfl) (bnext Q1.out hb2); have z2 : w2.cell? ⟨w.heap.size, 2, none⟩ = some (.int .u32 cd1) := cell_later' (X1.out 2 _ rfl) (bnext Q1.out hb2); have z3 : w2.cell? ⟨w.heap.size, 3, none⟩ = some (.int .i64 ft1) := cell_later' (X1.out 3 _ rfl) (bnext Q1.out hb2); have z4 : w2.cell? ⟨w.heap.size, 4, none⟩ = some (.slice ma1 mn1 mc1) := cell_later' (X1.out 4 _ rfl) (bnext Q1.out hb2); have z5 : w2.cell? ⟨w.heap.size, 5, none⟩ = some (.int .i64 st1) := cell_later' (X1.out 5 _ rfl) (bnext Q1.out hb2); have u0 : w2.cell? ⟨w.heap.size + 1, 0, none⟩ = some (.slice oa2 on2 oc2) := cell_later' (X2.out 0 _ rfl) (bnext Q1.out hb2); have u1 : w2.cell? ⟨w.heap.size + 1, 1, none⟩ = some (.bool en2) := cell_later' (X2.out 1 _ rfl) (bnext Q1.out hb2); have u2 : w2.cell? ⟨w.heap.size + 1, 2, none⟩ = some (.int .u32 cd2) := cell_later' (X2.out 2 _ rfl) (bnext Q1.out hb2); have u3 : w2.cell? ⟨w.heap.size + 1, 3, none⟩ = some (.int .i64 ft2) := cell_later' (X2.out 3 _ rfl) (bnext Q1.out hb2); have u4 : w2.cell? ⟨w.heap.size + 1, 4, none⟩ = some (.slice ma2 mn2 mc2) := cell_later' (X2.out 4 _ rfl) (bnext Q1.out hb2); have u5 : w2.cell? ⟨w.heap.size + 1, 5, none⟩ = some (.int .i64 st2) := cell_later' (X2.out 5 _ rfl) (bnext Q1.out hb2)))
  have Q2 : Hid (Below w0.heap.size w0 w2) := bnext Q1.out hb2
  clear hb2 z0 z1 z2 z3 z4 z5 u0 u1 u2 u3 u4 u5 x0 x1 x2 x3 x4 x5 y0 y1 y2 y3 y4 y5 Q1 SM1
  have x0 : w2.cell? ⟨w.heap.size, 0, none⟩ = some (.slice oa1 on1 oc1) := cell_later' (X1.out 0 _ rfl) Q2.out
  have x1 : w2.cell? ⟨w.heap.size, 1, none⟩ = some (.bool en1) := cell_later' (X1.out 1 _ rfl) Q2.out
  have x2 : w2.cell? ⟨w.heap.size, 2, none⟩ = some (.int .u32 cd1) := cell_later' (X1.out 2 _ rfl) Q2.out
  have x3 : w2.cell? ⟨w.heap.size, 3, none⟩ = some (.int .i64 ft1) := cell_later' (X1.out 3 _ rfl) Q2.out
  have x4 : w2.cell? ⟨w.heap.size, 4, none⟩ = some (.slice ma1 mn1 mc1) := cell_later' (X1.out 4 _ rfl) Q2.out
  have x5 : w2.cell? ⟨w.heap.size, 5, none⟩ = some (.int .i64 st1) := cell_later' (X1.out 5 _ rfl) Q2.out
  have y0 : w2.cell? ⟨w.heap.size + 1, 0, none⟩ = some (.slice oa2 on2 oc2) := cell_later' (X2.out 0 _ rfl) Q2.out
  have y1 : w2.cell? ⟨w.heap.size + 1, 1, none⟩ = some (.bool en2) := cell_later' (X2.out 1 _ rfl) Q2.out
  have y2 : w2.cell? ⟨w.heap.size + 1, 2, none⟩ = some (.int .u32 cd2) := cell_later' (X2.out 2 _ rfl) Q2.out
  have y3 : w2.cell? ⟨w.heap.size + 1, 3, none⟩ = some (.int .i64 ft2) := cell_later' (X2.out 3 _ rfl) Q2.out
  have y4 : w2.cell? ⟨w.heap.size + 1, 4, none⟩ = some (.slice ma2 mn2 mc2) := cell_later' (X2.out 4 _ rfl) Q2.out
  have y5 : w2.cell? ⟨w.heap.size + 1, 5, none⟩ = some (.int .i64 st2) := cell_later' (X2.out 5 _ rfl) Q2.out
  have L2 : w.heap.size + 1 < w2.heap.size := World.block_lt_of_cell? w2 ⟨w.heap.size + 1, 0, none⟩ y0
  go_upto_region 6 with fail
  have B6 : Hid (Below w2.heap.size w2 (w2.alloc (.cells (traceV oa1 on1 oc1 en1 cd1 ft1 ma1 mn1 mc1 st2) 30))) := (Below.refl _ _).alloc (Nat.le_refl _) _
  have n0 : (w2.alloc (.cells (traceV oa1 on1 oc1 en1 cd1 ft1 ma1 mn1 mc1 st2) 30)).cell? ⟨w2.heap.size, 0, none⟩ = some (.slice oa1 on1 oc1) := new_cell' w2 _ _ 0 _ rfl
  have n1 : (w2.alloc (.cells (traceV oa1 on1 oc1 en1 cd1 ft1 ma1 mn1 mc1 st2) 30)).cell? ⟨w2.heap.size, 1, none⟩ = some (.bool en1) := new_cell' w2 _ _ 1 _ rfl
  have n2 : (w2.alloc (.cells (traceV oa1 on1 oc1 en1 cd1 ft1 ma1 mn1 mc1 st2) 30)).cell? ⟨w2.heap.size, 2, none⟩ = some (.int .u32 cd1) := new_cell' w2 _ _ 2 _ rfl
  have n3 : (w2.alloc (.cells (traceV oa1 on1 oc1 en1 cd1 ft1 ma1 mn1 mc1 st2) 30)).cell? ⟨w2.heap.size, 3, none⟩ = some (.int .i64 ft1) := new_cell' w2 _ _ 3 _ rfl
  have n4 : (w2.alloc (.cells (traceV oa1 on1 oc1 en1 cd1 ft1 ma1 mn1 mc1 st2) 30)).cell? ⟨w2.heap.size, 4, none⟩ = some (.slice ma1 mn1 mc1) := new_cell' w2 _ _ 4 _ rfl
  have n5 : (w2.alloc (.cells (traceV oa1 on1 oc1 en1 cd1 ft1 ma1 mn1 mc1 st2) 30)).cell? ⟨w2.heap.size, 5, none⟩ = some (.int .i64 st2) := new_cell' w2 _ _ 5 _ rfl
  have Q6 : Hid (Below w0.heap.size w0 (w2.alloc (.cells (traceV oa1 on1 oc1 en1 cd1 ft1 ma1 mn1 mc1 st2) 30))) := bnext Q2.out B6.out
  clear x0 x1 x2 x3 x4 x5 y0 y1 y2 y3 y4 y5 L2 B6 Q2
  generalize w2.alloc (.cells (traceV oa1 on1 oc1 en1 cd1 ft1 ma1 mn1 mc1 st2) 30) = w6 at n0 n1 n2 n3 n4 n5 Q6 ⊢
  generalize w2.heap.size = g6 at n0 n1 n2 n3 n4 n5 ⊢
  have x0 : w6.cell? ⟨w.heap.size, 0, none⟩ = some (.slice oa1 on1 oc1) := cell_later' (X1.out 0 _ rfl) Q6.out
  have x1 : w6.cell? ⟨w.heap.size, 1, none⟩ = some (.bool en1) := cell_later' (X1.out 1 _ rfl) Q6.out
  have x2 : w6.cell? ⟨w.heap.size, 2, none⟩ = some (.int .u32 cd1) := cell_later' (X1.out 2 _ rfl) Q6.out
  have x3 : w6.cell? ⟨w.heap.size, 3, none⟩ = some (.int .i64 ft1) := cell_later' (X1.out 3 _ rfl) Q6.out
  have x4 : w6.cell? ⟨w.heap.size, 4, none⟩ = some (.slice ma1 mn1 mc1) := cell_later' (X1.out 4 _ rfl) Q6.out
  have x5 : w6.cell? ⟨w.heap.size, 5, none⟩ = some (.int .i64 st1) := cell_later' (X1.out 5 _ rfl) Q6.out
  have y0 : w6.cell? ⟨w.heap.size + 1, 0, none⟩ = some (.slice oa2 on2 oc2) := cell_later' (X2.out 0 _ rfl) Q6.out
  have y1 : w6.cell? ⟨w.heap.size + 1, 1, none⟩ = some (.bool en2) := cell_later' (X2.out 1 _ rfl) Q6.out
  have y2 : w6.cell? ⟨w.heap.size + 1, 2, none⟩ = some (.int .u32 cd2) := cell_later' (X2.out 2 _ rfl) Q6.out
  have y3 : w6.cell? ⟨w.heap.size + 1, 3, none⟩ = some (.int .i64 ft2) := cell_later' (X2.out 3 _ rfl) Q6.out
  have y4 : w6.cell? ⟨w.heap.size + 1, 4, none⟩ = some (.slice ma2 mn2 mc2) := cell_later' (X2.out 4 _ rfl) Q6.out
  have y5 : w6.cell? ⟨w.heap.size + 1, 5, none⟩ = some (.int .i64 st2) := cell_later' (X2.out 5 _ rfl) Q6.out
  go_wp2_with (first
    | (go_at_call 17; revert hb7; intro hb7; refine (AC.out _ (bnext (bnext HA.out Q6.out) hb7)).mono ?_; rintro e w8 ⟨rfl, hb8⟩)
    | (go_at_call 17; refine (AL.out _ (bnext HA.out Q6.out)).mono ?_; rintro e w7 ⟨rfl, hb7⟩; have x0' := cell_later' x0 hb7; have y0' := cell_later' y0 hb7; have n0' := cell_later' n0 hb7; have x1' := cell_later' x1 hb7; have y1' := cell_later' y1 hb7; have n1' := cell_later' n1 hb7; have x2' := cell_later' x2 hb7; have y2' := cell_later' y2 hb7; have n2' := cell_later' n2 hb7; have x3' := cell_later' x3 hb7; have y3' := cell_later' y3 hb7; have n3' := cell_later' n3 hb7; have x4' := cell_later' x4 hb7; have y4' := cell_later' y4 hb7; have n4' := cell_later' n4 hb7; have x5' := cell_later' x5 hb7; have y5' := cell_later' y5 hb7; have n5' := cell_later' n5 hb7))
  go_ret
  exact ⟨rfl, bnext (bnext (bnext HA.out Q6.out) hb7) hb8⟩
set_option maxRecDepth 100000 in
set_option maxHeartbeats 2000000 in
theorem alikes_main4 (w : World) (oa1 : Option Addr) (on1 oc1 : Nat) (of1 : Nat → Int) (en1 : Bool) (cd1 ft1 : Int) (ma1 : Option Addr) (mn1 mc1 : Nat) (mf1 : Nat → Int) (st1 : Int) (oa2 : Option Addr) (on2 oc2 : Nat) (of2 : Nat → Int) (en2 : Bool) (cd2 ft2 : Int) (ma2 : Option Addr) (mn2 mc2 : Nat) (mf2 : Nat → Int) (st2 : Int) (hon1 : on1 ≤ 300) (hon2 : on2 ≤ 300) (hmn1 : mn1 ≤ 300) (hmn2 : mn2 ≤ 300) (q0 : eqB on1 on2 of1 of2 = true) (q1 : (en1 == en2) = true) (q2 : (cd1 == cd2) = true) (q3 : (ft1 == ft2) = true) (q4 : eqB mn1 mn2 mf1 mf2 = false) (hO1 : Head oa1 on1 oc1 ∧ Bytes w oa1 on1 of1) (hM1 : Head ma1 mn1 mc1 ∧ Bytes w ma1 mn1 mf1) (hO2 : Head oa2 on2 oc2 ∧ Bytes w oa2 on2 of2) (hM2 : Head ma2 mn2 mc2 ∧ Bytes w ma2 mn2 mf2) (hT : Tab w) :
    Calls Tryd.prog 5 #[.agg (traceV oa1 on1 oc1 en1 cd1 ft1 ma1 mn1 mc1 st1), .agg (traceV oa2 on2 oc2 en2 cd2 ft2 ma2 mn2 mc2 st2)] w fun e w' => e = .returned (.bool true) ∧ Below w.heap.size w w' := by
  have gon1 : decide ((on1 : Int) > 300) = false := by simp; omega
  have kon1 : decide (300 < on1) = false := by simp; omega
  have gon2 : decide ((on2 : Int) > 300) = false := by simp; omega
  have kon2 : decide (300 < on2) = false := by simp; omega
  have gmn1 : decide ((mn1 : Int) > 300) = false := by simp; omega
  have kmn1 : decide (300 < mn1) = false := by simp; omega
  have gmn2 : decide ((mn2 : Int) > 300) = false := by simp; omega
  have kmn2 : decide (300 < mn2) = false := by simp; omega
  have HA : Hid (Below w.heap.size w ((w.alloc (.cells (traceV oa1 on1 oc1 en1 cd1 ft1 ma1 mn1 mc1 st1) 30)).alloc (.cells (traceV oa2 on2 oc2 en2 cd2 ft2 ma2 mn2 mc2 st2) 30))) := ((Below.refl _ w).alloc (Nat.le_refl _) _).alloc (by simp) _
  have X1 : Hid (∀ j v, (traceV oa1 on1 oc1 en1 cd1 ft1 ma1 mn1 mc1 st1)[j]? = some v → ((w.alloc (.cells (traceV oa1 on1 oc1 en1 cd1 ft1 ma1 mn1 mc1 st1) 30)).alloc (.cells (traceV oa2 on2 oc2 en2 cd2 ft2 ma2 mn2 mc2 st2) 30)).cell? ⟨w.heap.size, j, none⟩ = some v) := fun j v h => cell_later' (new_cell' w _ _ j v h) ((Below.refl _ _).alloc (Nat.le_refl _) _)
  have X2 : Hid (∀ j v, (traceV oa2 on2 oc2 en2 cd2 ft2 ma2 mn2 mc2 st2)[j]? = some v → ((w.alloc (.cells (traceV oa1 on1 oc1 en1 cd1 ft1 ma1 mn1 mc1 st1) 30)).alloc (.cells (traceV oa2 on2 oc2 en2 cd2 ft2 ma2 mn2 mc2 st2) 30)).cell? ⟨w.heap.size + 1, j, none⟩ = some v) := fun j v h => by
    have h := new_cell' (w.alloc (.cells (traceV oa1 on1 oc1 en1 cd1 ft1 ma1 mn1 mc1 st1) 30)) (traceV oa2 on2 oc2 en2 cd2 ft2 ma2 mn2 mc2 st2) 30 j v h
    rwa [show (w.alloc (.cells (traceV oa1 on1 oc1 en1 cd1 ft1 ma1 mn1 mc1 st1) 30)).heap.size = w.heap.size + 1 from by simp] at h
  have T1 : Hid (Tab ((w.alloc (.cells (traceV oa1 on1 oc1 en1 cd1 ft1 ma1 mn1 mc1 st1) 30)).alloc (.cells (traceV oa2 on2 oc2 en2 cd2 ft2 ma2 mn2 mc2 st2) 30))) := hT.later HA.out
  have hq : alikeZ ({ on_ := on1, of_ := of1, en := en1, cd := cd1, ft := ft1, mn := mn1, mf := mf1, st := st1 } : Tr) ({ on_ := on2, of_ := of2, en := en2, cd := cd2, ft := ft2, mn := mn2, mf := mf2, st := st2 } : Tr) = false := by simp only [alikeZ, q0, q1, q2, q3, q4]; simp
  have I1 : Hid (IsTr w (.agg (traceV oa1 on1 oc1 en1 cd1 ft1 ma1 mn1 mc1 st1)) ({ on_ := on1, of_ := of1, en := en1, cd := cd1, ft := ft1, mn := mn1, mf := mf1, st := st1 } : Tr)) := ⟨oa1, oc1, ma1, mc1, rfl, hO1, hM1⟩
  have I2 : Hid (IsTr w (.agg (traceV oa2 on2 oc2 en2 cd2 ft2 ma2 mn2 mc2 st2)) ({ on_ := on2, of_ := of2, en := en2, cd := cd2, ft := ft2, mn := mn2, mf := mf2, st := st2 } : Tr)) := ⟨oa2, oc2, ma2, mc2, rfl, hO2, hM2⟩
  have I3 : Hid (IsTr w (.agg (traceV oa1 on1 oc1 en1 cd1 ft1 ma1 mn1 mc1 st2)) ({ on_ := on1, of_ := of1, en := en1, cd := cd1, ft := ft1, mn := mn1, mf := mf1, st := st2 } : Tr)) := ⟨oa1, oc1, ma1, mc1, rfl, hO1, hM1⟩
  have SM1 : Hid (∀ W, Below w.heap.size w W → Calls Tryd.prog 14 #[.slice oa1 on1 oc1, .slice oa2 on2 oc2] W fun e w' => e = .returned (.bool true) ∧ Below W.heap.size W w') := fun W hW => by
    have h := bytes_eq W oa1 oa2 on1 on2 oc1 oc2 of1 of2 (by omega) (by omega) (hO1.2.later hW) (hO2.2.later hW)
    rwa [q0] at h
  have SM2 : Hid (∀ W, Below w.heap.size w W → Calls Tryd.prog 14 #[.slice ma1 mn1 mc1, .slice ma2 mn2 mc2] W fun e w' => e = .returned (.bool false) ∧ Below W.heap.size W w') := fun W hW => by
    have h := bytes_eq W ma1 ma2 mn1 mn2 mc1 mc2 mf1 mf2 (by omega) (by omega) (hM1.2.later hW) (hM2.2.later hW)
    rwa [q4] at h
  have AL : Hid (∀ W, Below w.heap.size w W → Calls Tryd.prog 17 #[.agg (traceV oa1 on1 oc1 en1 cd1 ft1 ma1 mn1 mc1 st1), .agg (traceV oa2 on2 oc2 en2 cd2 ft2 ma2 mn2 mc2 st2)] W fun e w' => e = .returned (.bool false) ∧ Below W.heap.size W w') := fun W hW => by
    have h := alike_st (I1.out.later hW) (I2.out.later hW) ⟨by simp only []; omega, by simp only []; omega⟩ ⟨by simp only []; omega, by simp only []; omega⟩
    rwa [hq] at h
  have AC : Hid (∀ W, Below w.heap.size w W → Calls Tryd.prog 17 #[.agg (traceV oa1 on1 oc1 en1 cd1 ft1 ma1 mn1 mc1 st1), .agg (traceV oa1 on1 oc1 en1 cd1 ft1 ma1 mn1 mc1 st2)] W fun e w' => e = .returned (.bool true) ∧ Below W.heap.size W w') := fun W hW => by
    have h := alike_st (I1.out.later hW) (I3.out.later hW) ⟨by simp only []; omega, by simp only []; omega⟩ ⟨by simp only []; omega, by simp only []; omega⟩
    rwa [show alikeZ ({ on_ := on1, of_ := of1, en := en1, cd := cd1, ft := ft1, mn := mn1, mf := mf1, st := st1 } : Tr) ({ on_ := on1, of_ := of1, en := en1, cd := cd1, ft := ft1, mn := mn1, mf := mf1, st := st2 } : Tr) = true from by simp [alikeZ, eqB_self]] at h
  clear hO1 hM1 hO2 hM2 I1 I2 I3 hq
  clear hT
  go_enter Tryd.func5, Tryd.ntmps5
  go_upto_region 1 with fail
  generalize ((w.alloc (.cells (traceV oa1 on1 oc1 en1 cd1 ft1 ma1 mn1 mc1 st1) 30)).alloc (.cells (traceV oa2 on2 oc2 en2 cd2 ft2 ma2 mn2 mc2 st2) 30)) = w0 at HA X1 X2 T1 ⊢
  go_upto_region 3 with (go_at_call 8; refine (awake7 _ T1.out).mono ?_; rintro e w1 ⟨rfl, hb1⟩; have x0 : w1.cell? ⟨w.heap.size, 0, none⟩ = some (.slice oa1 on1 oc1) := cell_later' (X1.out 0 _ rfl) hb1; have x1 : w1.cell? ⟨w.heap.size, 1, none⟩ = some (.bool en1) := cell_later' (X1.out 1 _ rfl) hb1; have x2 : w1.cell? ⟨w.heap.size, 2, none⟩ = some (.int .u32 cd1) := cell_later' (X1.out 2 _ rfl) hb1; have x3 : w1.cell? ⟨w.heap.size, 3, none⟩ = some (.int .i64 ft1) := cell_later' (X1.out 3 _ rfl) hb1; have x4 : w1.cell? ⟨w.heap.size, 4, none⟩ = some (.slice ma1 mn1 mc1) := cell_later' (X1.out 4 _ rfl) hb1; have x5 : w1.cell? ⟨w.heap.size, 5, none⟩ = some (.int .i64 st1) := cell_later' (X1.out 5 _ rfl) hb1; have y0 : w1.cell? ⟨w.heap.size + 1, 0, none⟩ = some (.slice oa2 on2 oc2) := cell_later' (X2.out 0 _ rfl) hb1; have y1 : w1.cell? ⟨w.heap.size + 1, 1, none⟩ = some (.bool en2) := cell_later' (X2.out 1 _ rfl) hb1; have y2 : w1.cell? ⟨w.heap.size + 1, 2, none⟩ = some (.int .u32 cd2) := cell_later' (X2.out 2 _ rfl) hb1; have y3 : w1.cell? ⟨w.heap.size + 1, 3, none⟩ = some (.int .i64 ft2) := cell_later' (X2.out 3 _ rfl) hb1; have y4 : w1.cell? ⟨w.heap.size + 1, 4, none⟩ = some (.slice ma2 mn2 mc2) := cell_later' (X2.out 4 _ rfl) hb1; have y5 : w1.cell? ⟨w.heap.size + 1, 5, none⟩ = some (.int .i64 st2) := cell_later' (X2.out 5 _ rfl) hb1)
  have Q1 : Hid (Below w0.heap.size w0 w1) := hb1
  clear hb1
  go_upto_region 4 with (first
    | (go_at_call 14; revert hb2; intro hb2; refine (SM2.out _ (bnext (bnext HA.out Q1.out) hb2)).mono ?_; rintro e w4 ⟨rfl, hb4⟩)
    | (go_at_call 14; refine (SM1.out _ (bnext HA.out Q1.out)).mono ?_; rintro e w2 ⟨rfl, hb2⟩; have z0 : w2.cell? ⟨w.heap.size, 0, none⟩ = some (.slice oa1 on1 oc1) := cell_later' (X1.out 0 _ rfl) (bnext Q1.out hb2); have z1 : w2.cell? ⟨w.heap.size, 1, none⟩ = some (.bool en1) := cell_later' (X1.out 1 _ rfl) (bnext Q1.out hb2); have z2 : w2.cell? ⟨w.heap.size, 2, none⟩ = some (.int .u32 cd1) := cell_later' (X1.out 2 _ rfl) (bnext Q1.out hb2); have z3 : w2.cell? ⟨w.heap.size, 3, none⟩ = some (.int .i64 ft1) := cell_later' (X1.out 3 _ rfl) (bnext Q1.out hb2); have z4 : w2.cell? ⟨w.heap.size, 4, none⟩ = some (.slice ma1 mn1 mc1) := cell_later' (X1.out 4 _ rfl) (bnext Q1.out hb2); have z5 : w2.cell? ⟨w.heap.size, 5, none⟩ = some (.int .i64 st1) := cell_later' (X1.out 5 _ rfl) (bnext Q1.out hb2); have u0 : w2.cell? ⟨w.heap.size + 1, 0, none⟩ = some (.slice oa2 on2 oc2) := cell_later' (X2.out 0 _ rfl) (bnext Q1.out hb2); have u1 : w2.cell? ⟨w.heap.size + 1, 1, none⟩ = some (.bool en2) := cell_later' (X2.out 1 _ rfl) (bnext Q1.out hb2); have u2 : w2.cell? ⟨w.heap.size + 1, 2, none⟩ = some (.int .u32 cd2) := cell_later' (X2.out 2 _ rfl) (bnext Q1.out hb2); have u3 : w2.cell? ⟨w.heap.size + 1, 3, none⟩ = some (.int .i64 ft2) := cell_later' (X2.out 3 _ rfl) (bnext Q1.out hb2); have u4 : w2.cell? ⟨w.heap.size + 1, 4, none⟩ = some (.slice ma2 mn2 mc2) := cell_later' (X2.out 4 _ rfl) (bnext Q1.out hb2); have u5 : w2.cell? ⟨w.heap.size + 1, 5, none⟩ = some (.int .i64 st2) := cell_later' (X2.out 5 _ rfl) (bnext Q1.out hb2)))
  have Q2 : Hid (Below w0.heap.size w0 w4) := bnext (bnext Q1.out hb2) hb4
  clear hb2 hb4 z0 z1 z2 z3 z4 z5 u0 u1 u2 u3 u4 u5 x0 x1 x2 x3 x4 x5 y0 y1 y2 y3 y4 y5 Q1 SM1 SM2
  have x0 : w4.cell? ⟨w.heap.size, 0, none⟩ = some (.slice oa1 on1 oc1) := cell_later' (X1.out 0 _ rfl) Q2.out
  have x1 : w4.cell? ⟨w.heap.size, 1, none⟩ = some (.bool en1) := cell_later' (X1.out 1 _ rfl) Q2.out
  have x2 : w4.cell? ⟨w.heap.size, 2, none⟩ = some (.int .u32 cd1) := cell_later' (X1.out 2 _ rfl) Q2.out
  have x3 : w4.cell? ⟨w.heap.size, 3, none⟩ = some (.int .i64 ft1) := cell_later' (X1.out 3 _ rfl) Q2.out
  have x4 : w4.cell? ⟨w.heap.size, 4, none⟩ = some (.slice ma1 mn1 mc1) := cell_later' (X1.out 4 _ rfl) Q2.out
  have x5 : w4.cell? ⟨w.heap.size, 5, none⟩ = some (.int .i64 st1) := cell_later' (X1.out 5 _ rfl) Q2.out
  have y0 : w4.cell? ⟨w.heap.size + 1, 0, none⟩ = some (.slice oa2 on2 oc2) := cell_later' (X2.out 0 _ rfl) Q2.out
  have y1 : w4.cell? ⟨w.heap.size + 1, 1, none⟩ = some (.bool en2) := cell_later' (X2.out 1 _ rfl) Q2.out
  have y2 : w4.cell? ⟨w.heap.size + 1, 2, none⟩ = some (.int .u32 cd2) := cell_later' (X2.out 2 _ rfl) Q2.out
  have y3 : w4.cell? ⟨w.heap.size + 1, 3, none⟩ = some (.int .i64 ft2) := cell_later' (X2.out 3 _ rfl) Q2.out
  have y4 : w4.cell? ⟨w.heap.size + 1, 4, none⟩ = some (.slice ma2 mn2 mc2) := cell_later' (X2.out 4 _ rfl) Q2.out
  have y5 : w4.cell? ⟨w.heap.size + 1, 5, none⟩ = some (.int .i64 st2) := cell_later' (X2.out 5 _ rfl) Q2.out
  have L2 : w.heap.size + 1 < w4.heap.size := World.block_lt_of_cell? w4 ⟨w.heap.size + 1, 0, none⟩ y0
  go_upto_region 6 with fail
  have B6 : Hid (Below w4.heap.size w4 (w4.alloc (.cells (traceV oa1 on1 oc1 en1 cd1 ft1 ma1 mn1 mc1 st2) 30))) := (Below.refl _ _).alloc (Nat.le_refl _) _
  have n0 : (w4.alloc (.cells (traceV oa1 on1 oc1 en1 cd1 ft1 ma1 mn1 mc1 st2) 30)).cell? ⟨w4.heap.size, 0, none⟩ = some (.slice oa1 on1 oc1) := new_cell' w4 _ _ 0 _ rfl
  have n1 : (w4.alloc (.cells (traceV oa1 on1 oc1 en1 cd1 ft1 ma1 mn1 mc1 st2) 30)).cell? ⟨w4.heap.size, 1, none⟩ = some (.bool en1) := new_cell' w4 _ _ 1 _ rfl
  have n2 : (w4.alloc (.cells (traceV oa1 on1 oc1 en1 cd1 ft1 ma1 mn1 mc1 st2) 30)).cell? ⟨w4.heap.size, 2, none⟩ = some (.int .u32 cd1) := new_cell' w4 _ _ 2 _ rfl
  have n3 : (w4.alloc (.cells (traceV oa1 on1 oc1 en1 cd1 ft1 ma1 mn1 mc1 st2) 30)).cell? ⟨w4.heap.size, 3, none⟩ = some (.int .i64 ft1) := new_cell' w4 _ _ 3 _ rfl
  have n4 : (w4.alloc (.cells (traceV oa1 on1 oc1 en1 cd1 ft1 ma1 mn1 mc1 st2) 30)).cell? ⟨w4.heap.size, 4, none⟩ = some (.slice ma1 mn1 mc1) := new_cell' w4 _ _ 4 _ rfl
  have n5 : (w4.alloc (.cells (traceV oa1 on1 oc1 en1 cd1 ft1 ma1 mn1 mc1 st2) 30)).cell? ⟨w4.heap.size, 5, none⟩ = some (.int .i64 st2) := new_cell' w4 _ _ 5 _ rfl
  have Q6 : Hid (Below w0.heap.size w0 (w4.alloc (.cells (traceV oa1 on1 oc1 en1 cd1 ft1 ma1 mn1 mc1 st2) 30))) := bnext Q2.out B6.out
  clear x0 x1 x2 x3 x4 x5 y0 y1 y2 y3 y4 y5 L2 B6 Q2
  generalize w4.alloc (.cells (traceV oa1 on1 oc1 en1 cd1 ft1 ma1 mn1 mc1 st2) 30) = w6 at n0 n1 n2 n3 n4 n5 Q6 ⊢
  generalize w4.heap.size = g6 at n0 n1 n2 n3 n4 n5 ⊢
  have x0 : w6.cell? ⟨w.heap.size, 0, none⟩ = some (.slice oa1 on1 oc1) := cell_later' (X1.out 0 _ rfl) Q6.out
  have x1 : w6.cell? ⟨w.heap.size, 1, none⟩ = some (.bool en1) := cell_later' (X1.out 1 _ rfl) Q6.out
  have x2 : w6.cell? ⟨w.heap.size, 2, none⟩ = some (.int .u32 cd1) := cell_later' (X1.out 2 _ rfl) Q6.out
  have x3 : w6.cell? ⟨w.heap.size, 3, none⟩ = some (.int .i64 ft1) := cell_later' (X1.out 3 _ rfl) Q6.out
  have x4 : w6.cell? ⟨w.heap.size, 4, none⟩ = some (.slice ma1 mn1 mc1) := cell_later' (X1.out 4 _ rfl) Q6.out
  have x5 : w6.cell? ⟨w.heap.size, 5, none⟩ = some (.int .i64 st1) := cell_later' (X1.out 5 _ rfl) Q6.out
  have y0 : w6.cell? ⟨w.heap.size + 1, 0, none⟩ = some (.slice oa2 on2 oc2) := cell_later' (X2.out 0 _ rfl) Q6.out
  have y1 : w6.cell? ⟨w.heap.size + 1, 1, none⟩ = some (.bool en2) := cell_later' (X2.out 1 _ rfl) Q6.out
  have y2 : w6.cell? ⟨w.heap.size + 1, 2, none⟩ = some (.int .u32 cd2) := cell_later' (X2.out 2 _ rfl) Q6.out
  have y3 : w6.cell? ⟨w.heap.size + 1, 3, none⟩ = some (.int .i64 ft2) := cell_later' (X2.out 3 _ rfl) Q6.out
  have y4 : w6.cell? ⟨w.heap.size + 1, 4, none⟩ = some (.slice ma2 mn2 mc2) := cell_later' (X2.out 4 _ rfl) Q6.out
  have y5 : w6.cell? ⟨w.heap.size + 1, 5, none⟩ = some (.int .i64 st2) := cell_later' (X2.out 5 _ rfl) Q6.out
  go_wp2_with (first
    | (go_at_call 17; revert hb7; intro hb7; refine (AC.out _ (bnext (bnext HA.out Q6.out) hb7)).mono ?_; rintro e w8 ⟨rfl, hb8⟩)
    | (go_at_call 17; refine (AL.out _ (bnext HA.out Q6.out)).mono ?_; rintro e w7 ⟨rfl, hb7⟩; have x0' := cell_later' x0 hb7; have y0' := cell_later' y0 hb7; have n0' := cell_later' n0 hb7; have x1' := cell_later' x1 hb7; have y1' := cell_later' y1 hb7; have n1' := cell_later' n1 hb7; have x2' := cell_later' x2 hb7; have y2' := cell_later' y2 hb7; have n2' := cell_later' n2 hb7; have x3' := cell_later' x3 hb7; have y3' := cell_later' y3 hb7; have n3' := cell_later' n3 hb7; have x4' := cell_later' x4 hb7; have y4' := cell_later' y4 hb7; have n4' := cell_later' n4 hb7; have x5' := cell_later' x5 hb7; have y5' := cell_later' y5 hb7; have n5' := cell_later' n5 hb7))
  go_ret
  exact ⟨rfl, bnext (bnext (bnext HA.out Q6.out) hb7) hb8⟩
set_option maxRecDepth 100000 in
set_option maxHeartbeats 2000000 in
theorem alikes_main5 (w : World) (oa1 : Option Addr) (on1 oc1 : Nat) (of1 : Nat → Int) (en1 : Bool) (cd1 ft1 : Int) (ma1 : Option Addr) (mn1 mc1 : Nat) (mf1 : Nat → Int) (st1 : Int) (oa2 : Option Addr) (on2 oc2 : Nat) (of2 : Nat → Int) (en2 : Bool) (cd2 ft2 : Int) (ma2 : Option Addr) (mn2 mc2 : Nat) (mf2 : Nat → Int) (st2 : Int) (hon1 : on1 ≤ 300) (hon2 : on2 ≤ 300) (hmn1 : mn1 ≤ 300) (hmn2 : mn2 ≤ 300) (q0 : eqB on1 on2 of1 of2 = true) (q1 : (en1 == en2) = true) (q2 : (cd1 == cd2) = true) (q3 : (ft1 == ft2) = true) (q4 : eqB mn1 mn2 mf1 mf2 = true) (hO1 : Head oa1 on1 oc1 ∧ Bytes w oa1 on1 of1) (hM1 : Head ma1 mn1 mc1 ∧ Bytes w ma1 mn1 mf1) (hO2 : Head oa2 on2 oc2 ∧ Bytes w oa2 on2 of2) (hM2 : Head ma2 mn2 mc2 ∧ Bytes w ma2 mn2 mf2) (hT : Tab w) :
    Calls Tryd.prog 5 #[.agg (traceV oa1 on1 oc1 en1 cd1 ft1 ma1 mn1 mc1 st1), .agg (traceV oa2 on2 oc2 en2 cd2 ft2 ma2 mn2 mc2 st2)] w fun e w' => e = .returned (.bool true) ∧ Below w.heap.size w w' := by
  have gon1 : decide ((on1 : Int) > 300) = false := by simp; omega
  have kon1 : decide (300 < on1) = false := by simp; omega
  have gon2 : decide ((on2 : Int) > 300) = false := by simp; omega
  have kon2 : decide (300 < on2) = false := by simp; omega
  have gmn1 : decide ((mn1 : Int) > 300) = false := by simp; omega
  have kmn1 : decide (300 < mn1) = false := by simp; omega
  have gmn2 : decide ((mn2 : Int) > 300) = false := by simp; omega
  have kmn2 : decide (300 < mn2) = false := by simp; omega
  have HA : Hid (Below w.heap.size w ((w.alloc (.cells (traceV oa1 on1 oc1 en1 cd1 ft1 ma1 mn1 mc1 st1) 30)).alloc (.cells (traceV oa2 on2 oc2 en2 cd2 ft2 ma2 mn2 mc2 st2) 30))) := ((Below.refl _ w).alloc (Nat.le_refl _) _).alloc (by simp) _
  have X1 : Hid (∀ j v, (traceV oa1 on1 oc1 en1 cd1 ft1 ma1 mn1 mc1 st1)[j]? = some v → ((w.alloc (.cells (traceV oa1 on1 oc1 en1 cd1 ft1 ma1 mn1 mc1 st1) 30)).alloc (.cells (traceV oa2 on2 oc2 en2 cd2 ft2 ma2 mn2 mc2 st2) 30)).cell? ⟨w.heap.size, j, none⟩ = some v) := fun j v h => cell_later' (new_cell' w _ _ j v h) ((Below.refl _ _).alloc (Nat.le_refl _) _)
  have X2 : Hid (∀ j v, (traceV oa2 on2 oc2 en2 cd2 ft2 ma2 mn2 mc2 st2)[j]? = some v → ((w.alloc (.cells (traceV oa1 on1 oc1 en1 cd1 ft1 ma1 mn1 mc1 st1) 30)).alloc (.cells (traceV oa2 on2 oc2 en2 cd2 ft2 ma2 mn2 mc2 st2) 30)).cell? ⟨w.heap.size + 1, j, none⟩ = some v) := fun j v h => by
    have h := new_cell' (w.alloc (.cells (traceV oa1 on1 oc1 en1 cd1 ft1 ma1 mn1 mc1 st1) 30)) (traceV oa2 on2 oc2 en2 cd2 ft2 ma2 mn2 mc2 st2) 30 j v h
    rwa [show (w.alloc (.cells (traceV oa1 on1 oc1 en1 cd1 ft1 ma1 mn1 mc1 st1) 30)).heap.size = w.heap.size + 1 from by simp] at h
  have T1 : Hid (Tab ((w.alloc (.cells (traceV oa1 on1 oc1 en1 cd1 ft1 ma1 mn1 mc1 st1) 30)).alloc (.cells (traceV oa2 on2 oc2 en2 cd2 ft2 ma2 mn2 mc2 st2) 30))) := hT.later HA.out
  have hq : alikeZ ({ on_ := on1, of_ := of1, en := en1, cd := cd1, ft := ft1, mn := mn1, mf := mf1, st := st1 } : Tr) ({ on_ := on2, of_ := of2, en := en2, cd := cd2, ft := ft2, mn := mn2, mf := mf2, st := st2 } : Tr) = true := by simp only [alikeZ, q0, q1, q2, q3, q4]; simp
  have I1 : Hid (IsTr w (.agg (traceV oa1 on1 oc1 en1 cd1 ft1 ma1 mn1 mc1 st1)) ({ on_ := on1, of_ := of1, en := en1, cd := cd1, ft := ft1, mn := mn1, mf := mf1, st := st1 } : Tr)) := ⟨oa1, oc1, ma1, mc1, rfl, hO1, hM1⟩
  have I2 : Hid (IsTr w (.agg (traceV oa2 on2 oc2 en2 cd2 ft2 ma2 mn2 mc2 st2)) ({ on_ := on2, of_ := of2, en := en2, cd := cd2, ft := ft2, mn := mn2, mf := mf2, st := st2 } : Tr)) := ⟨oa2, oc2, ma2, mc2, rfl, hO2, hM2⟩
  have I3 : Hid (IsTr w (.agg (traceV oa1 on1 oc1 en1 cd1 ft1 ma1 mn1 mc1 st2)) ({ on_ := on1, of_ := of1, en := en1, cd := cd1, ft := ft1, mn := mn1, mf := mf1, st := st2 } : Tr)) := ⟨oa1, oc1, ma1, mc1, rfl, hO1, hM1⟩
  have SM1 : Hid (∀ W, Below w.heap.size w W → Calls Tryd.prog 14 #[.slice oa1 on1 oc1, .slice oa2 on2 oc2] W fun e w' => e = .returned (.bool true) ∧ Below W.heap.size W w') := fun W hW => by
    have h := bytes_eq W oa1 oa2 on1 on2 oc1 oc2 of1 of2 (by omega) (by omega) (hO1.2.later hW) (hO2.2.later hW)
    rwa [q0] at h
  have SM2 : Hid (∀ W, Below w.heap.size w W → Calls Tryd.prog 14 #[.slice ma1 mn1 mc1, .slice ma2 mn2 mc2] W fun e w' => e = .returned (.bool true) ∧ Below W.heap.size W w') := fun W hW => by
    have h := bytes_eq W ma1 ma2 mn1 mn2 mc1 mc2 mf1 mf2 (by omega) (by omega) (hM1.2.later hW) (hM2.2.later hW)
    rwa [q4] at h
  have AL : Hid (∀ W, Below w.heap.size w W → Calls Tryd.prog 17 #[.agg (traceV oa1 on1 oc1 en1 cd1 ft1 ma1 mn1 mc1 st1), .agg (traceV oa2 on2 oc2 en2 cd2 ft2 ma2 mn2 mc2 st2)] W fun e w' => e = .returned (.bool true) ∧ Below W.heap.size W w') := fun W hW => by
    have h := alike_st (I1.out.later hW) (I2.out.later hW) ⟨by simp only []; omega, by simp only []; omega⟩ ⟨by simp only []; omega, by simp only []; omega⟩
    rwa [hq] at h
  have AC : Hid (∀ W, Below w.heap.size w W → Calls Tryd.prog 17 #[.agg (traceV oa1 on1 oc1 en1 cd1 ft1 ma1 mn1 mc1 st1), .agg (traceV oa1 on1 oc1 en1 cd1 ft1 ma1 mn1 mc1 st2)] W fun e w' => e = .returned (.bool true) ∧ Below W.heap.size W w') := fun W hW => by
    have h := alike_st (I1.out.later hW) (I3.out.later hW) ⟨by simp only []; omega, by simp only []; omega⟩ ⟨by simp only []; omega, by simp only []; omega⟩
    rwa [show alikeZ ({ on_ := on1, of_ := of1, en := en1, cd := cd1, ft := ft1, mn := mn1, mf := mf1, st := st1 } : Tr) ({ on_ := on1, of_ := of1, en := en1, cd := cd1, ft := ft1, mn := mn1, mf := mf1, st := st2 } : Tr) = true from by simp [alikeZ, eqB_self]] at h
  clear hO1 hM1 hO2 hM2 I1 I2 I3 hq
  clear hT
  go_enter Tryd.func5, Tryd.ntmps5
  go_upto_region 1 with fail
  generalize ((w.alloc (.cells (traceV oa1 on1 oc1 en1 cd1 ft1 ma1 mn1 mc1 st1) 30)).alloc (.cells (traceV oa2 on2 oc2 en2 cd2 ft2 ma2 mn2 mc2 st2) 30)) = w0 at HA X1 X2 T1 ⊢
  go_upto_region 3 with (go_at_call 8; refine (awake7 _ T1.out).mono ?_; rintro e w1 ⟨rfl, hb1⟩; have x0 : w1.cell? ⟨w.heap.size, 0, none⟩ = some (.slice oa1 on1 oc1) := cell_later' (X1.out 0 _ rfl) hb1; have x1 : w1.cell? ⟨w.heap.size, 1, none⟩ = some (.bool en1) := cell_later' (X1.out 1 _ rfl) hb1; have x2 : w1.cell? ⟨w.heap.size, 2, none⟩ = some (.int .u32 cd1) := cell_later' (X1.out 2 _ rfl) hb1; have x3 : w1.cell? ⟨w.heap.size, 3, none⟩ = some (.int .i64 ft1) := cell_later' (X1.out 3 _ rfl) hb1; have x4 : w1.cell? ⟨w.heap.size, 4, none⟩ = some (.slice ma1 mn1 mc1) := cell_later' (X1.out 4 _ rfl) hb1; have x5 : w1.cell? ⟨w.heap.size, 5, none⟩ = some (.int .i64 st1) := cell_later' (X1.out 5 _ rfl) hb1; have y0 : w1.cell? ⟨w.heap.size + 1, 0, none⟩ = some (.slice oa2 on2 oc2) := cell_later' (X2.out 0 _ rfl) hb1; have y1 : w1.cell? ⟨w.heap.size + 1, 1, none⟩ = some (.bool en2) := cell_later' (X2.out 1 _ rfl) hb1; have y2 : w1.cell? ⟨w.heap.size + 1, 2, none⟩ = some (.int .u32 cd2) := cell_later' (X2.out 2 _ rfl) hb1; have y3 : w1.cell? ⟨w.heap.size + 1, 3, none⟩ = some (.int .i64 ft2) := cell_later' (X2.out 3 _ rfl) hb1; have y4 : w1.cell? ⟨w.heap.size + 1, 4, none⟩ = some (.slice ma2 mn2 mc2) := cell_later' (X2.out 4 _ rfl) hb1; have y5 : w1.cell? ⟨w.heap.size + 1, 5, none⟩ = some (.int .i64 st2) := cell_later' (X2.out 5 _ rfl) hb1)
  have Q1 : Hid (Below w0.heap.size w0 w1) := hb1
  clear hb1
  go_upto_region 4 with (first
    | (go_at_call 14; revert hb2; intro hb2; refine (SM2.out _ (bnext (bnext HA.out Q1.out) hb2)).mono ?_; rintro e w4 ⟨rfl, hb4⟩)
    | (go_at_call 14; refine (SM1.out _ (bnext HA.out Q1.out)).mono ?_; rintro e w2 ⟨rfl, hb2⟩; have z0 : w2.cell? ⟨w.heap.size, 0, none⟩ = some (.slice oa1 on1 oc1) := cell_later' (X1.out 0 _ rfl) (bnext Q1.out hb2); have z1 : w2.cell? ⟨w.heap.size, 1, none⟩ = some (.bool en1) := cell_later' (X1.out 1 _ rfl) (bnext Q1.out hb2); have z2 : w2.cell? ⟨w.heap.size, 2, none⟩ = some (.int .u32 cd1) := cell_later' (X1.out 2 _ rfl) (bnext Q1.out hb2); have z3 : w2.cell? ⟨w.heap.size, 3, none⟩ = some (.int .i64 ft1) := cell_later' (X1.out 3 _ rfl) (bnext Q1.out hb2); have z4 : w2.cell? ⟨w.heap.size, 4, none⟩ = some (.slice ma1 mn1 mc1) := cell_later' (X1.out 4 _ rfl) (bnext Q1.out hb2); have z5 : w2.cell? ⟨w.heap.size, 5, none⟩ = some (.int .i64 st1) := cell_later' (X1.out 5 _ rfl) (bnext Q1.out hb2); have u0 : w2.cell? ⟨w.heap.size + 1, 0, none⟩ = some (.slice oa2 on2 oc2) := cell_later' (X2.out 0 _ rfl) (bnext Q1.out hb2); have u1 : w2.cell? ⟨w.heap.size + 1, 1, none⟩ = some (.bool en2) := cell_later' (X2.out 1 _ rfl) (bnext Q1.out hb2); have u2 : w2.cell? ⟨w.heap.size + 1, 2, none⟩ = some (.int .u32 cd2) := cell_later' (X2.out 2 _ rfl) (bnext Q1.out hb2); have u3 : w2.cell? ⟨w.heap.size + 1, 3, none⟩ = some (.int .i64 ft2) := cell_later' (X2.out 3 _ rfl) (bnext Q1.out hb2); have u4 : w2.cell? ⟨w.heap.size + 1, 4, none⟩ = some (.slice ma2 mn2 mc2) := cell_later' (X2.out 4 _ rfl) (bnext Q1.out hb2); have u5 : w2.cell? ⟨w.heap.size + 1, 5, none⟩ = some (.int .i64 st2) := cell_later' (X2.out 5 _ rfl) (bnext Q1.out hb2)))
  have Q2 : Hid (Below w0.heap.size w0 w4) := bnext (bnext Q1.out hb2) hb4
  clear hb2 hb4 z0 z1 z2 z3 z4 z5 u0 u1 u2 u3 u4 u5 x0 x1 x2 x3 x4 x5 y0 y1 y2 y3 y4 y5 Q1 SM1 SM2
  have x0 : w4.cell? ⟨w.heap.size, 0, none⟩ = some (.slice oa1 on1 oc1) := cell_later' (X1.out 0 _ rfl) Q2.out
  have x1 : w4.cell? ⟨w.heap.size, 1, none⟩ = some (.bool en1) := cell_later' (X1.out 1 _ rfl) Q2.out
  have x2 : w4.cell? ⟨w.heap.size, 2, none⟩ = some (.int .u32 cd1) := cell_later' (X1.out 2 _ rfl) Q2.out
  have x3 : w4.cell? ⟨w.heap.size, 3, none⟩ = some (.int .i64 ft1) := cell_later' (X1.out 3 _ rfl) Q2.out
  have x4 : w4.cell? ⟨w.heap.size, 4, none⟩ = some (.slice ma1 mn1 mc1) := cell_later' (X1.out 4 _ rfl) Q2.out
  have x5 : w4.cell? ⟨w.heap.size, 5, none⟩ = some (.int .i64 st1) := cell_later' (X1.out 5 _ rfl) Q2.out
  have y0 : w4.cell? ⟨w.heap.size + 1, 0, none⟩ = some (.slice oa2 on2 oc2) := cell_later' (X2.out 0 _ rfl) Q2.out
  have y1 : w4.cell? ⟨w.heap.size + 1, 1, none⟩ = some (.bool en2) := cell_later' (X2.out 1 _ rfl) Q2.out
  have y2 : w4.cell? ⟨w.heap.size + 1, 2, none⟩ = some (.int .u32 cd2) := cell_later' (X2.out 2 _ rfl) Q2.out
  have y3 : w4.cell? ⟨w.heap.size + 1, 3, none⟩ = some (.int .i64 ft2) := cell_later' (X2.out 3 _ rfl) Q2.out
  have y4 : w4.cell? ⟨w.heap.size + 1, 4, none⟩ = some (.slice ma2 mn2 mc2) := cell_later' (X2.out 4 _ rfl) Q2.out
  have y5 : w4.cell? ⟨w.heap.size + 1, 5, none⟩ = some (.int .i64 st2) := cell_later' (X2.out 5 _ rfl) Q2.out
  have L2 : w.heap.size + 1 < w4.heap.size := World.block_lt_of_cell? w4 ⟨w.heap.size + 1, 0, none⟩ y0
  go_upto_region 6 with fail
  have B6 : Hid (Below w4.heap.size w4 (w4.alloc (.cells (traceV oa1 on1 oc1 en1 cd1 ft1 ma1 mn1 mc1 st2) 30))) := (Below.refl _ _).alloc (Nat.le_refl _) _
  have n0 : (w4.alloc (.cells (traceV oa1 on1 oc1 en1 cd1 ft1 ma1 mn1 mc1 st2) 30)).cell? ⟨w4.heap.size, 0, none⟩ = some (.slice oa1 on1 oc1) := new_cell' w4 _ _ 0 _ rfl
  have n1 : (w4.alloc (.cells (traceV oa1 on1 oc1 en1 cd1 ft1 ma1 mn1 mc1 st2) 30)).cell? ⟨w4.heap.size, 1, none⟩ = some (.bool en1) := new_cell' w4 _ _ 1 _ rfl
  have n2 : (w4.alloc (.cells (traceV oa1 on1 oc1 en1 cd1 ft1 ma1 mn1 mc1 st2) 30)).cell? ⟨w4.heap.size, 2, none⟩ = some (.int .u32 cd1) := new_cell' w4 _ _ 2 _ rfl
  have n3 : (w4.alloc (.cells (traceV oa1 on1 oc1 en1 cd1 ft1 ma1 mn1 mc1 st2) 30)).cell? ⟨w4.heap.size, 3, none⟩ = some (.int .i64 ft1) := new_cell' w4 _ _ 3 _ rfl
  have n4 : (w4.alloc (.cells (traceV oa1 on1 oc1 en1 cd1 ft1 ma1 mn1 mc1 st2) 30)).cell? ⟨w4.heap.size, 4, none⟩ = some (.slice ma1 mn1 mc1) := new_cell' w4 _ _ 4 _ rfl
  have n5 : (w4.alloc (.cells (traceV oa1 on1 oc1 en1 cd1 ft1 ma1 mn1 mc1 st2) 30)).cell? ⟨w4.heap.size, 5, none⟩ = some (.int .i64 st2) := new_cell' w4 _ _ 5 _ rfl
  have Q6 : Hid (Below w0.heap.size w0 (w4.alloc (.cells (traceV oa1 on1 oc1 en1 cd1 ft1 ma1 mn1 mc1 st2) 30))) := bnext Q2.out B6.out
  clear x0 x1 x2 x3 x4 x5 y0 y1 y2 y3 y4 y5 L2 B6 Q2
  generalize w4.alloc (.cells (traceV oa1 on1 oc1 en1 cd1 ft1 ma1 mn1 mc1 st2) 30) = w6 at n0 n1 n2 n3 n4 n5 Q6 ⊢
  generalize w4.heap.size = g6 at n0 n1 n2 n3 n4 n5 ⊢
  have x0 : w6.cell? ⟨w.heap.size, 0, none⟩ = some (.slice oa1 on1 oc1) := cell_later' (X1.out 0 _ rfl) Q6.out
  have x1 : w6.cell? ⟨w.heap.size, 1, none⟩ = some (.bool en1) := cell_later' (X1.out 1 _ rfl) Q6.out
  have x2 : w6.cell? ⟨w.heap.size, 2, none⟩ = some (.int .u32 cd1) := cell_later' (X1.out 2 _ rfl) Q6.out
  have x3 : w6.cell? ⟨w.heap.size, 3, none⟩ = some (.int .i64 ft1) := cell_later' (X1.out 3 _ rfl) Q6.out
  have x4 : w6.cell? ⟨w.heap.size, 4, none⟩ = some (.slice ma1 mn1 mc1) := cell_later' (X1.out 4 _ rfl) Q6.out
  have x5 : w6.cell? ⟨w.heap.size, 5, none⟩ = some (.int .i64 st1) := cell_later' (X1.out 5 _ rfl) Q6.out
  have y0 : w6.cell? ⟨w.heap.size + 1, 0, none⟩ = some (.slice oa2 on2 oc2) := cell_later' (X2.out 0 _ rfl) Q6.out
  have y1 : w6.cell? ⟨w.heap.size + 1, 1, none⟩ = some (.bool en2) := cell_later' (X2.out 1 _ rfl) Q6.out
  have y2 : w6.cell? ⟨w.heap.size + 1, 2, none⟩ = some (.int .u32 cd2) := cell_later' (X2.out 2 _ rfl) Q6.out
  have y3 : w6.cell? ⟨w.heap.size + 1, 3, none⟩ = some (.int .i64 ft2) := cell_later' (X2.out 3 _ rfl) Q6.out
  have y4 : w6.cell? ⟨w.heap.size + 1, 4, none⟩ = some (.slice ma2 mn2 mc2) := cell_later' (X2.out 4 _ rfl) Q6.out
  have y5 : w6.cell? ⟨w.heap.size + 1, 5, none⟩ = some (.int .i64 st2) := cell_later' (X2.out 5 _ rfl) Q6.out
  go_wp2_with (first
    | (go_at_call 17; revert hb7; intro hb7; refine (AC.out _ (bnext (bnext HA.out Q6.out) hb7)).mono ?_; rintro e w8 ⟨rfl, hb8⟩)
    | (go_at_call 17; refine (AL.out _ (bnext HA.out Q6.out)).mono ?_; rintro e w7 ⟨rfl, hb7⟩; have x0' := cell_later' x0 hb7; have y0' := cell_later' y0 hb7; have n0' := cell_later' n0 hb7; have x1' := cell_later' x1 hb7; have y1' := cell_later' y1 hb7; have n1' := cell_later' n1 hb7; have x2' := cell_later' x2 hb7; have y2' := cell_later' y2 hb7; have n2' := cell_later' n2 hb7; have x3' := cell_later' x3 hb7; have y3' := cell_later' y3 hb7; have n3' := cell_later' n3 hb7; have x4' := cell_later' x4 hb7; have y4' := cell_later' y4 hb7; have n4' := cell_later' n4 hb7; have x5' := cell_later' x5 hb7; have y5' := cell_later' y5 hb7; have n5' := cell_later' n5 hb7))
  go_ret
  exact ⟨rfl, bnext (bnext (bnext HA.out Q6.out) hb7) hb8⟩
theorem walk (w : World) (oa1 : Option Addr) (on1 oc1 : Nat) (of1 : Nat → Int) (en1 : Bool) (cd1 ft1 : Int) (ma1 : Option Addr) (mn1 mc1 : Nat) (mf1 : Nat → Int) (st1 : Int) (h1 : (on1 ≤ oc1 ∧ oc1 ≤ maxLen ∧ (oa1 = none → oc1 = 0) ∧ Bytes w oa1 on1 of1) ∧ (mn1 ≤ mc1 ∧ mc1 ≤ maxLen ∧ (ma1 = none → mc1 = 0) ∧ Bytes w ma1 mn1 mf1)) (oa2 : Option Addr) (on2 oc2 : Nat) (of2 : Nat → Int) (en2 : Bool) (cd2 ft2 : Int) (ma2 : Option Addr) (mn2 mc2 : Nat) (mf2 : Nat → Int) (st2 : Int) (h2 : (on2 ≤ oc2 ∧ oc2 ≤ maxLen ∧ (oa2 = none → oc2 = 0) ∧ Bytes w oa2 on2 of2) ∧ (mn2 ≤ mc2 ∧ mc2 ≤ maxLen ∧ (ma2 = none → mc2 = 0) ∧ Bytes w ma2 mn2 mf2)) (hT : Tab w) :
    Calls Tryd.prog 5 #[.agg #[.slice oa1 on1 oc1, .bool en1, .int .u32 cd1, .int .i64 ft1, .slice ma1 mn1 mc1, .int .i64 st1], .agg #[.slice oa2 on2 oc2, .bool en2, .int .u32 cd2, .int .i64 ft2, .slice ma2 mn2 mc2, .int .i64 st2]] w fun e w' => e = .returned (.bool true) ∧ Below w.heap.size w w' := by
  obtain ⟨⟨o1, o2, o3, o4⟩, m1, m2, m3, m4⟩ := h1
  obtain ⟨⟨r1, r2, r3, r4⟩, s1, s2, s3, s4⟩ := h2
  by_cases hon1 : 300 < on1
  · exact alikes_early0 w oa1 on1 oc1 of1 en1 cd1 ft1 ma1 mn1 mc1 mf1 st1 oa2 on2 oc2 of2 en2 cd2 ft2 ma2 mn2 mc2 mf2 st2 hon1 hT
  by_cases hon2 : 300 < on2
  · exact alikes_early1 w oa1 on1 oc1 of1 en1 cd1 ft1 ma1 mn1 mc1 mf1 st1 oa2 on2 oc2 of2 en2 cd2 ft2 ma2 mn2 mc2 mf2 st2 (by omega) hon2 hT
  by_cases hmn1 : 300 < mn1
  · exact alikes_early2 w oa1 on1 oc1 of1 en1 cd1 ft1 ma1 mn1 mc1 mf1 st1 oa2 on2 oc2 of2 en2 cd2 ft2 ma2 mn2 mc2 mf2 st2 (by omega) (by omega) hmn1 hT
  by_cases hmn2 : 300 < mn2
  · exact alikes_early3 w oa1 on1 oc1 of1 en1 cd1 ft1 ma1 mn1 mc1 mf1 st1 oa2 on2 oc2 of2 en2 cd2 ft2 ma2 mn2 mc2 mf2 st2 (by omega) (by omega) (by omega) hmn2 hT
  cases q0 : eqB on1 on2 of1 of2
  · exact alikes_main0 w oa1 on1 oc1 of1 en1 cd1 ft1 ma1 mn1 mc1 mf1 st1 oa2 on2 oc2 of2 en2 cd2 ft2 ma2 mn2 mc2 mf2 st2 (by omega) (by omega) (by omega) (by omega) q0 ⟨⟨o1, o3⟩, o4⟩ ⟨⟨m1, m3⟩, m4⟩ ⟨⟨r1, r3⟩, r4⟩ ⟨⟨s1, s3⟩, s4⟩ hT
  cases q1 : (en1 == en2)
  · exact alikes_main1 w oa1 on1 oc1 of1 en1 cd1 ft1 ma1 mn1 mc1 mf1 st1 oa2 on2 oc2 of2 en2 cd2 ft2 ma2 mn2 mc2 mf2 st2 (by omega) (by omega) (by omega) (by omega) q0 q1 ⟨⟨o1, o3⟩, o4⟩ ⟨⟨m1, m3⟩, m4⟩ ⟨⟨r1, r3⟩, r4⟩ ⟨⟨s1, s3⟩, s4⟩ hT
  cases q2 : (cd1 == cd2)
  · exact alikes_main2 w oa1 on1 oc1 of1 en1 cd1 ft1 ma1 mn1 mc1 mf1 st1 oa2 on2 oc2 of2 en2 cd2 ft2 ma2 mn2 mc2 mf2 st2 (by omega) (by omega) (by omega) (by omega) q0 q1 q2 ⟨⟨o1, o3⟩, o4⟩ ⟨⟨m1, m3⟩, m4⟩ ⟨⟨r1, r3⟩, r4⟩ ⟨⟨s1, s3⟩, s4⟩ hT
  cases q3 : (ft1 == ft2)
  · exact alikes_main3 w oa1 on1 oc1 of1 en1 cd1 ft1 ma1 mn1 mc1 mf1 st1 oa2 on2 oc2 of2 en2 cd2 ft2 ma2 mn2 mc2 mf2 st2 (by omega) (by omega) (by omega) (by omega) q0 q1 q2 q3 ⟨⟨o1, o3⟩, o4⟩ ⟨⟨m1, m3⟩, m4⟩ ⟨⟨r1, r3⟩, r4⟩ ⟨⟨s1, s3⟩, s4⟩ hT
  cases q4 : eqB mn1 mn2 mf1 mf2
  · exact alikes_main4 w oa1 on1 oc1 of1 en1 cd1 ft1 ma1 mn1 mc1 mf1 st1 oa2 on2 oc2 of2 en2 cd2 ft2 ma2 mn2 mc2 mf2 st2 (by omega) (by omega) (by omega) (by omega) q0 q1 q2 q3 q4 ⟨⟨o1, o3⟩, o4⟩ ⟨⟨m1, m3⟩, m4⟩ ⟨⟨r1, r3⟩, r4⟩ ⟨⟨s1, s3⟩, s4⟩ hT
  exact alikes_main5 w oa1 on1 oc1 of1 en1 cd1 ft1 ma1 mn1 mc1 mf1 st1 oa2 on2 oc2 of2 en2 cd2 ft2 ma2 mn2 mc2 mf2 st2 (by omega) (by omega) (by omega) (by omega) q0 q1 q2 q3 q4 ⟨⟨o1, o3⟩, o4⟩ ⟨⟨m1, m3⟩, m4⟩ ⟨⟨r1, r3⟩, r4⟩ ⟨⟨s1, s3⟩, s4⟩ hT

/-! ### The row's step -/
set_option maxRecDepth 100000 in
theorem lifted (os : Os) (started : os.Started) (H : Type) (enc : TypeId × Value → H) :
    ReturnsInHanded {} Tryd.checked os 5 .any (fun w args => (Rows.runAlikesSpec.pre enc Tryd.prog Tryd.f5 [] false w args ∧ laidMetH Tryd.prog laidL w) ∧ sizedMet enc Tryd.prog Tryd.f5 (OpenSpec.ofChange Rows.runAlikesSpec) false w args)
      (Rows.runAlikesSpec.post enc Tryd.prog Tryd.f5 false true false false) := by
  refine returnsInHanded_of_change_and (C := Tryd.checked) (X := fun w _ => laidMetH Tryd.prog laidL w) (fun _ _ _ hh h => h.of_heap hh) own started (by kernel_rfl) Tryd.func5
    (ChangeSpec.witness_shaped (enc := enc) (C := Tryd.checked) (os := os) (X := fun w _ => laidMetH Tryd.prog laidL w) false (World.doorLaid Tryd.prog 40 os) #[.agg #[.slice none 0 0, .bool false, .int .u32 0, .int .i64 0, .slice none 0 0, .int .i64 0], .agg #[.slice none 0 0, .bool false, .int .u32 0, .int .i64 0, .slice none 0 0, .int .i64 0]] 8 rfl (World.shaped_of_RefB (by kernel_rfl) (by kernel_rfl)) (by kernel_rfl) (by kernel_rfl) (by kernel_rfl) (door_met os _)) ?_
  intro W base args ds gs before hval0 hW _ _ hL _
  have hval : ∀ (j : Nat) t v, Tryd.f5.params[j]? = some t → args[j]? = some v → Value.okWide Tryd.prog W .any base t v := hval0
  have hW' := hW
  obtain ⟨p, q, hA0, hV, rfl, hfz, hnd⟩ := hW
  have hA : DataW.TrodAll enc Tryd.prog W 0 (fun _ => true) true Tryd.f5.params.toList args.toList ds p := hA0
  rw [Tryd.params5] at hA hval
  obtain ⟨v0, vs0, d0, ds0, p0, q0, hargs, rfl, rfl, h0, r0⟩ := trodAll_cons hA
  obtain ⟨v1, vs1, d1, ds1, p1, q1, rfl, rfl, rfl, h1, r1⟩ := trodAll_cons r0
  obtain ⟨rfl, rfl, rfl⟩ := trodAll_nil r1
  obtain rfl : args = #[v0, v1] := by cases args; simp_all
  obtain ⟨rfl, rfl⟩ := trodVars_none hV
  have hT := tab_of hL
  have k0 := h0
  have lt0 : ∀ x ∈ p0, x.block < W.heap.size := by obtain ⟨m, hm⟩ := k0; exact DataW.trod_lt m _ _ _ hm
  obtain ⟨voa0, von0, voc0, vof0, ven0, vcd0, vft0, vma0, vmn0, vmc0, vmf0, vst0, rfl, w0⟩ := open_trace (hval 0 30 v0 rfl rfl) h0
  have k1 := h1
  have lt1 : ∀ x ∈ p1, x.block < W.heap.size := by obtain ⟨m, hm⟩ := k1; exact DataW.trod_lt m _ _ _ hm
  obtain ⟨voa1, von1, voc1, vof1, ven1, vcd1, vft1, vma1, vmn1, vmc1, vmf1, vst1, rfl, w1⟩ := open_trace (hval 1 30 v1 rfl rfl) h1
  clear hA0 hval0
  refine (walk W voa0 von0 voc0 vof0 ven0 vcd0 vft0 vma0 vmn0 vmc0 vmf0 vst0 w0 voa1 von1 voc1 vof1 ven1 vcd1 vft1 vma1 vmn1 vmc1 vmf1 vst1 w1 hT).mono fun e W' ⟨he, bel⟩ => ?_
  subst he
  exact ⟨_, rfl, _, _, _, [], _, [], hW', trodAll_mk1 (shut_bool Tryd.underlying4 _), (trodAll_cons_mk (Below.trod laidOut (by kernel_rfl) (of_decide_eq_true (by kernel_rfl)) k0 bel lt0) (trodAll_cons_mk (Below.trod laidOut (by kernel_rfl) (of_decide_eq_true (by kernel_rfl)) k1 bel lt1) trodAll_mk0)), rfl, bel.frame _, fun h => by cases h⟩

theorem over : Rows.RunAlikesSaid :=
  OpenClaim.holds_of_wide 5 Tryd.f5 rfl rfl rfl rfl rfl rfl rfl ⟨rfl, rfl, rfl, rfl, rfl⟩ rfl rfl rfl rfl rfl (by kernel_rfl) Tryd.func5 (by kernel_rfl)
    (of_decide_eq_true (by kernel_rfl)) (by unfold Func.isWrapper; first | (rw [if_pos (by decide +kernel)]; kernel_rfl) | (rw [if_neg (by decide +kernel)]; exact ⟨rfl, rfl⟩))
    (fun os started H enc _ => lifted os started H enc)

/-- The tied card. -/
theorem card : Rows.RunAlikesCardSaid :=
  Claim7.holds_tied_plain_at .later [] [.data] true (true, "c72f633930f7a357c4a2a2024328d705ae8589c9b4b8ffd14eafe99737a9bc53") false
    over (fun _ h => by cases h) (by kernel_rfl) (fun _ h => by cases h) runAlikes_row_tie rfl ⟨rfl, rfl⟩ (by kernel_rfl) rfl
    (fun f fn hf hfn => by
      obtain rfl : f = 5 := Option.some.inj ((show Tryd.prog.funcNamed "splice/splicelaw07.RunAlikes" = some 5 by kernel_rfl).symm.trans hf) |>.symm
      obtain rfl : fn = Tryd.f5 := (Option.some.inj (Tryd.func5.symm.trans hfn)).symm
      exact ⟨by kernel_rfl, fun j t ht => by
        rw [Tryd.params5] at ht
        have hm : t ∈ [30, 30] := by simpa using Array.mem_of_getElem? ht
        have hall : ([30, 30].all fun u => !Tryd.prog.wantsStandIn u) = true := by kernel_rfl
        exact (show Tryd.prog.wantsStandIn t = false by simpa using List.all_eq_true.1 hall t hm)⟩)
    (by kernel_rfl)
end Go.Proofs.YtnpejnjigaalfaaDoor.runAlikes

namespace Go.Proofs.YtnpejnjigaalfaaDoor
theorem RunAlikes_holds : Rows.RunAlikesCardSaid := runAlikes.card
#print axioms RunAlikes_holds
end Go.Proofs.YtnpejnjigaalfaaDoor
