/- For every image, input and state CpuNews returns true: New answers what the document's own answer is, and Same tells states apart as the document does. No condition. -/
import Derived.Test.YtcibifgbnpcpmaaDoorDoorFrame
import Derived.Test.YtcibifgbnpcpmaaDoorCpuAwake
import Derived.Test.YtcibifgbnpcpmaaDoorCpuRows
import Derived.Test.YtcibifgbnpcpmaaDoorRefNew
import Derived.WalkKit
import Derived.ProofKit
namespace Go.Proofs.YtcibifgbnpcpmaaDoor.cpuNews
open Go.ChangeShapes Go.WideShapes Go.ChangeAt Go.RowKit Go.Deep
set_option linter.unusedVariables false

set_option maxRecDepth 100000 in
theorem news_early0 {w : World} {C : Array Value} {s : St} (hI : IsSt w (.agg C) s) (hl : s.bn ≤ 9223372036854775807 ∧ s.mn ≤ 9223372036854775807 ∧ s.inn ≤ 9223372036854775807 ∧ s.on_ ≤ 9223372036854775807) (ca : Option Addr) (cn cc : Nat) (en : Int) (da : Option Addr) (dn dc : Nat) (df : Nat → Int) (wt mo : Int) (a : Option Addr) (n c : Nat) (f : Nat → Int) (hn : n ≤ 9223372036854775807) (hdn : dn ≤ 9223372036854775807) (hD : Bytes w da dn df) (hN : Bytes w a n f) (hT : Tab w) (h : en < 0) :
    Calls Tryd.prog 3 #[.agg (imageV ca cn cc en da dn dc wt mo), .slice a n c, .agg C] w fun e w' => e = .returned (.bool true) ∧ Below w.heap.size w w' := by
  have HA : Hid (Below w.heap.size w ((w.alloc (.cells (imageV ca cn cc en da dn dc wt mo) 25)).alloc (.cells C 32))) := ((Below.refl _ w).alloc (Nat.le_refl _) _).alloc (by simp) _
  have X0 : Hid (∀ j v, (imageV ca cn cc en da dn dc wt mo)[j]? = some v → ((w.alloc (.cells (imageV ca cn cc en da dn dc wt mo) 25)).alloc (.cells C 32)).cell? ⟨w.heap.size, j, none⟩ = some v) := fun j v h => cell_later' (new_cell' w _ _ j v h) ((Below.refl _ _).alloc (Nat.le_refl _) _)
  have A1 : Hid (At ((w.alloc (.cells (imageV ca cn cc en da dn dc wt mo) 25)).alloc (.cells C 32)) (w.heap.size + 1) C) := by
    have h := At.new (w.alloc (.cells (imageV ca cn cc en da dn dc wt mo) 25)) C 32
    rwa [show (w.alloc (.cells (imageV ca cn cc en da dn dc wt mo) 25)).heap.size = w.heap.size + 1 from by simp] at h
  have I1 : Hid (IsSt ((w.alloc (.cells (imageV ca cn cc en da dn dc wt mo) 25)).alloc (.cells C 32)) (.agg C) s) := hI.later HA.out
  have T1 : Hid (Tab ((w.alloc (.cells (imageV ca cn cc en da dn dc wt mo) 25)).alloc (.cells C 32))) := hT.later HA.out
  have D1 : Hid (Bytes ((w.alloc (.cells (imageV ca cn cc en da dn dc wt mo) 25)).alloc (.cells C 32)) da dn df) := hD.later HA.out
  have N1 : Hid (Bytes ((w.alloc (.cells (imageV ca cn cc en da dn dc wt mo) 25)).alloc (.cells C 32)) a n f) := hN.later HA.out
  have hz : Hid ((Tryd.prog.info? 32).map (·.size) = some C.toList.length) := (st_info hI).2
  clear hI hT hD hN
  go_enter Tryd.func3, Tryd.ntmps3
  go_upto_region 1 with fail
  generalize ((w.alloc (.cells (imageV ca cn cc en da dn dc wt mo) 25)).alloc (.cells C 32)) = w0 at HA X0 A1 I1 T1 D1 N1 ⊢
  go_wp2_with (first
    | (go_at_call 7; revert hb1; intro hb1; refine (awake_st _ (T1.out.later hb1)).mono ?_; rintro e w3 ⟨rfl, hb3⟩)
    | (go_at_call 7; refine (awake_st _ T1.out).mono ?_; rintro e w1 ⟨rfl, hb1⟩; have x1 : w1.cell? ⟨w.heap.size, 1, none⟩ = some (.int .i64 en) := cell_later' (X0.out 1 _ rfl) hb1; have x2 : w1.cell? ⟨w.heap.size, 2, none⟩ = some (.slice da dn dc) := cell_later' (X0.out 2 _ rfl) hb1; have x3 : w1.cell? ⟨w.heap.size, 3, none⟩ = some (.int .i64 wt) := cell_later' (X0.out 3 _ rfl) hb1; have x4 : w1.cell? ⟨w.heap.size, 4, none⟩ = some (.int .i64 mo) := cell_later' (X0.out 4 _ rfl) hb1))
  go_ret
  exact ⟨rfl, bnext (HA.out.trans (hb1.mono HA.out.size)) hb3⟩
set_option maxRecDepth 100000 in
theorem news_early1 {w : World} {C : Array Value} {s : St} (hI : IsSt w (.agg C) s) (hl : s.bn ≤ 9223372036854775807 ∧ s.mn ≤ 9223372036854775807 ∧ s.inn ≤ 9223372036854775807 ∧ s.on_ ≤ 9223372036854775807) (ca : Option Addr) (cn cc : Nat) (en : Int) (da : Option Addr) (dn dc : Nat) (df : Nat → Int) (wt mo : Int) (a : Option Addr) (n c : Nat) (f : Nat → Int) (hn : n ≤ 9223372036854775807) (hdn : dn ≤ 9223372036854775807) (hD : Bytes w da dn df) (hN : Bytes w a n f) (hT : Tab w) (g0 : 0 ≤ en) (h : wt < 0) :
    Calls Tryd.prog 3 #[.agg (imageV ca cn cc en da dn dc wt mo), .slice a n c, .agg C] w fun e w' => e = .returned (.bool true) ∧ Below w.heap.size w w' := by
  have HA : Hid (Below w.heap.size w ((w.alloc (.cells (imageV ca cn cc en da dn dc wt mo) 25)).alloc (.cells C 32))) := ((Below.refl _ w).alloc (Nat.le_refl _) _).alloc (by simp) _
  have X0 : Hid (∀ j v, (imageV ca cn cc en da dn dc wt mo)[j]? = some v → ((w.alloc (.cells (imageV ca cn cc en da dn dc wt mo) 25)).alloc (.cells C 32)).cell? ⟨w.heap.size, j, none⟩ = some v) := fun j v h => cell_later' (new_cell' w _ _ j v h) ((Below.refl _ _).alloc (Nat.le_refl _) _)
  have A1 : Hid (At ((w.alloc (.cells (imageV ca cn cc en da dn dc wt mo) 25)).alloc (.cells C 32)) (w.heap.size + 1) C) := by
    have h := At.new (w.alloc (.cells (imageV ca cn cc en da dn dc wt mo) 25)) C 32
    rwa [show (w.alloc (.cells (imageV ca cn cc en da dn dc wt mo) 25)).heap.size = w.heap.size + 1 from by simp] at h
  have I1 : Hid (IsSt ((w.alloc (.cells (imageV ca cn cc en da dn dc wt mo) 25)).alloc (.cells C 32)) (.agg C) s) := hI.later HA.out
  have T1 : Hid (Tab ((w.alloc (.cells (imageV ca cn cc en da dn dc wt mo) 25)).alloc (.cells C 32))) := hT.later HA.out
  have D1 : Hid (Bytes ((w.alloc (.cells (imageV ca cn cc en da dn dc wt mo) 25)).alloc (.cells C 32)) da dn df) := hD.later HA.out
  have N1 : Hid (Bytes ((w.alloc (.cells (imageV ca cn cc en da dn dc wt mo) 25)).alloc (.cells C 32)) a n f) := hN.later HA.out
  have hz : Hid ((Tryd.prog.info? 32).map (·.size) = some C.toList.length) := (st_info hI).2
  clear hI hT hD hN
  go_enter Tryd.func3, Tryd.ntmps3
  go_upto_region 1 with fail
  generalize ((w.alloc (.cells (imageV ca cn cc en da dn dc wt mo) 25)).alloc (.cells C 32)) = w0 at HA X0 A1 I1 T1 D1 N1 ⊢
  go_wp2_with (first
    | (go_at_call 7; revert hb1; intro hb1; refine (awake_st _ (T1.out.later hb1)).mono ?_; rintro e w3 ⟨rfl, hb3⟩)
    | (go_at_call 7; refine (awake_st _ T1.out).mono ?_; rintro e w1 ⟨rfl, hb1⟩; have x1 : w1.cell? ⟨w.heap.size, 1, none⟩ = some (.int .i64 en) := cell_later' (X0.out 1 _ rfl) hb1; have x2 : w1.cell? ⟨w.heap.size, 2, none⟩ = some (.slice da dn dc) := cell_later' (X0.out 2 _ rfl) hb1; have x3 : w1.cell? ⟨w.heap.size, 3, none⟩ = some (.int .i64 wt) := cell_later' (X0.out 3 _ rfl) hb1; have x4 : w1.cell? ⟨w.heap.size, 4, none⟩ = some (.int .i64 mo) := cell_later' (X0.out 4 _ rfl) hb1))
  go_ret
  exact ⟨rfl, bnext (HA.out.trans (hb1.mono HA.out.size)) hb3⟩
set_option maxRecDepth 100000 in
theorem news_early2 {w : World} {C : Array Value} {s : St} (hI : IsSt w (.agg C) s) (hl : s.bn ≤ 9223372036854775807 ∧ s.mn ≤ 9223372036854775807 ∧ s.inn ≤ 9223372036854775807 ∧ s.on_ ≤ 9223372036854775807) (ca : Option Addr) (cn cc : Nat) (en : Int) (da : Option Addr) (dn dc : Nat) (df : Nat → Int) (wt mo : Int) (a : Option Addr) (n c : Nat) (f : Nat → Int) (hn : n ≤ 9223372036854775807) (hdn : dn ≤ 9223372036854775807) (hD : Bytes w da dn df) (hN : Bytes w a n f) (hT : Tab w) (g0 : 0 ≤ en) (g1 : 0 ≤ wt) (h : mo < 0) :
    Calls Tryd.prog 3 #[.agg (imageV ca cn cc en da dn dc wt mo), .slice a n c, .agg C] w fun e w' => e = .returned (.bool true) ∧ Below w.heap.size w w' := by
  have HA : Hid (Below w.heap.size w ((w.alloc (.cells (imageV ca cn cc en da dn dc wt mo) 25)).alloc (.cells C 32))) := ((Below.refl _ w).alloc (Nat.le_refl _) _).alloc (by simp) _
  have X0 : Hid (∀ j v, (imageV ca cn cc en da dn dc wt mo)[j]? = some v → ((w.alloc (.cells (imageV ca cn cc en da dn dc wt mo) 25)).alloc (.cells C 32)).cell? ⟨w.heap.size, j, none⟩ = some v) := fun j v h => cell_later' (new_cell' w _ _ j v h) ((Below.refl _ _).alloc (Nat.le_refl _) _)
  have A1 : Hid (At ((w.alloc (.cells (imageV ca cn cc en da dn dc wt mo) 25)).alloc (.cells C 32)) (w.heap.size + 1) C) := by
    have h := At.new (w.alloc (.cells (imageV ca cn cc en da dn dc wt mo) 25)) C 32
    rwa [show (w.alloc (.cells (imageV ca cn cc en da dn dc wt mo) 25)).heap.size = w.heap.size + 1 from by simp] at h
  have I1 : Hid (IsSt ((w.alloc (.cells (imageV ca cn cc en da dn dc wt mo) 25)).alloc (.cells C 32)) (.agg C) s) := hI.later HA.out
  have T1 : Hid (Tab ((w.alloc (.cells (imageV ca cn cc en da dn dc wt mo) 25)).alloc (.cells C 32))) := hT.later HA.out
  have D1 : Hid (Bytes ((w.alloc (.cells (imageV ca cn cc en da dn dc wt mo) 25)).alloc (.cells C 32)) da dn df) := hD.later HA.out
  have N1 : Hid (Bytes ((w.alloc (.cells (imageV ca cn cc en da dn dc wt mo) 25)).alloc (.cells C 32)) a n f) := hN.later HA.out
  have hz : Hid ((Tryd.prog.info? 32).map (·.size) = some C.toList.length) := (st_info hI).2
  clear hI hT hD hN
  go_enter Tryd.func3, Tryd.ntmps3
  go_upto_region 1 with fail
  generalize ((w.alloc (.cells (imageV ca cn cc en da dn dc wt mo) 25)).alloc (.cells C 32)) = w0 at HA X0 A1 I1 T1 D1 N1 ⊢
  go_wp2_with (first
    | (go_at_call 7; revert hb1; intro hb1; refine (awake_st _ (T1.out.later hb1)).mono ?_; rintro e w3 ⟨rfl, hb3⟩)
    | (go_at_call 7; refine (awake_st _ T1.out).mono ?_; rintro e w1 ⟨rfl, hb1⟩; have x1 : w1.cell? ⟨w.heap.size, 1, none⟩ = some (.int .i64 en) := cell_later' (X0.out 1 _ rfl) hb1; have x2 : w1.cell? ⟨w.heap.size, 2, none⟩ = some (.slice da dn dc) := cell_later' (X0.out 2 _ rfl) hb1; have x3 : w1.cell? ⟨w.heap.size, 3, none⟩ = some (.int .i64 wt) := cell_later' (X0.out 3 _ rfl) hb1; have x4 : w1.cell? ⟨w.heap.size, 4, none⟩ = some (.int .i64 mo) := cell_later' (X0.out 4 _ rfl) hb1))
  go_ret
  exact ⟨rfl, bnext (HA.out.trans (hb1.mono HA.out.size)) hb3⟩
set_option maxRecDepth 100000 in
theorem news_early3 {w : World} {C : Array Value} {s : St} (hI : IsSt w (.agg C) s) (hl : s.bn ≤ 9223372036854775807 ∧ s.mn ≤ 9223372036854775807 ∧ s.inn ≤ 9223372036854775807 ∧ s.on_ ≤ 9223372036854775807) (ca : Option Addr) (cn cc : Nat) (en : Int) (da : Option Addr) (dn dc : Nat) (df : Nat → Int) (wt mo : Int) (a : Option Addr) (n c : Nat) (f : Nat → Int) (hn : n ≤ 9223372036854775807) (hdn : dn ≤ 9223372036854775807) (hD : Bytes w da dn df) (hN : Bytes w a n f) (hT : Tab w) (g0 : 0 ≤ en) (g1 : 0 ≤ wt) (g2 : 0 ≤ mo) (h : 1048576 < en) :
    Calls Tryd.prog 3 #[.agg (imageV ca cn cc en da dn dc wt mo), .slice a n c, .agg C] w fun e w' => e = .returned (.bool true) ∧ Below w.heap.size w w' := by
  have HA : Hid (Below w.heap.size w ((w.alloc (.cells (imageV ca cn cc en da dn dc wt mo) 25)).alloc (.cells C 32))) := ((Below.refl _ w).alloc (Nat.le_refl _) _).alloc (by simp) _
  have X0 : Hid (∀ j v, (imageV ca cn cc en da dn dc wt mo)[j]? = some v → ((w.alloc (.cells (imageV ca cn cc en da dn dc wt mo) 25)).alloc (.cells C 32)).cell? ⟨w.heap.size, j, none⟩ = some v) := fun j v h => cell_later' (new_cell' w _ _ j v h) ((Below.refl _ _).alloc (Nat.le_refl _) _)
  have A1 : Hid (At ((w.alloc (.cells (imageV ca cn cc en da dn dc wt mo) 25)).alloc (.cells C 32)) (w.heap.size + 1) C) := by
    have h := At.new (w.alloc (.cells (imageV ca cn cc en da dn dc wt mo) 25)) C 32
    rwa [show (w.alloc (.cells (imageV ca cn cc en da dn dc wt mo) 25)).heap.size = w.heap.size + 1 from by simp] at h
  have I1 : Hid (IsSt ((w.alloc (.cells (imageV ca cn cc en da dn dc wt mo) 25)).alloc (.cells C 32)) (.agg C) s) := hI.later HA.out
  have T1 : Hid (Tab ((w.alloc (.cells (imageV ca cn cc en da dn dc wt mo) 25)).alloc (.cells C 32))) := hT.later HA.out
  have D1 : Hid (Bytes ((w.alloc (.cells (imageV ca cn cc en da dn dc wt mo) 25)).alloc (.cells C 32)) da dn df) := hD.later HA.out
  have N1 : Hid (Bytes ((w.alloc (.cells (imageV ca cn cc en da dn dc wt mo) 25)).alloc (.cells C 32)) a n f) := hN.later HA.out
  have hz : Hid ((Tryd.prog.info? 32).map (·.size) = some C.toList.length) := (st_info hI).2
  clear hI hT hD hN
  go_enter Tryd.func3, Tryd.ntmps3
  go_upto_region 1 with fail
  generalize ((w.alloc (.cells (imageV ca cn cc en da dn dc wt mo) 25)).alloc (.cells C 32)) = w0 at HA X0 A1 I1 T1 D1 N1 ⊢
  go_wp2_with (first
    | (go_at_call 7; revert hb1; intro hb1; refine (awake_st _ (T1.out.later hb1)).mono ?_; rintro e w3 ⟨rfl, hb3⟩)
    | (go_at_call 7; refine (awake_st _ T1.out).mono ?_; rintro e w1 ⟨rfl, hb1⟩; have x1 : w1.cell? ⟨w.heap.size, 1, none⟩ = some (.int .i64 en) := cell_later' (X0.out 1 _ rfl) hb1; have x2 : w1.cell? ⟨w.heap.size, 2, none⟩ = some (.slice da dn dc) := cell_later' (X0.out 2 _ rfl) hb1; have x3 : w1.cell? ⟨w.heap.size, 3, none⟩ = some (.int .i64 wt) := cell_later' (X0.out 3 _ rfl) hb1; have x4 : w1.cell? ⟨w.heap.size, 4, none⟩ = some (.int .i64 mo) := cell_later' (X0.out 4 _ rfl) hb1))
  go_ret
  exact ⟨rfl, bnext (HA.out.trans (hb1.mono HA.out.size)) hb3⟩
set_option maxRecDepth 100000 in
theorem news_early4 {w : World} {C : Array Value} {s : St} (hI : IsSt w (.agg C) s) (hl : s.bn ≤ 9223372036854775807 ∧ s.mn ≤ 9223372036854775807 ∧ s.inn ≤ 9223372036854775807 ∧ s.on_ ≤ 9223372036854775807) (ca : Option Addr) (cn cc : Nat) (en : Int) (da : Option Addr) (dn dc : Nat) (df : Nat → Int) (wt mo : Int) (a : Option Addr) (n c : Nat) (f : Nat → Int) (hn : n ≤ 9223372036854775807) (hdn : dn ≤ 9223372036854775807) (hD : Bytes w da dn df) (hN : Bytes w a n f) (hT : Tab w) (g0 : 0 ≤ en) (g1 : 0 ≤ wt) (g2 : 0 ≤ mo) (g3 : en ≤ 1048576) (h : 1048576 < wt) :
    Calls Tryd.prog 3 #[.agg (imageV ca cn cc en da dn dc wt mo), .slice a n c, .agg C] w fun e w' => e = .returned (.bool true) ∧ Below w.heap.size w w' := by
  have HA : Hid (Below w.heap.size w ((w.alloc (.cells (imageV ca cn cc en da dn dc wt mo) 25)).alloc (.cells C 32))) := ((Below.refl _ w).alloc (Nat.le_refl _) _).alloc (by simp) _
  have X0 : Hid (∀ j v, (imageV ca cn cc en da dn dc wt mo)[j]? = some v → ((w.alloc (.cells (imageV ca cn cc en da dn dc wt mo) 25)).alloc (.cells C 32)).cell? ⟨w.heap.size, j, none⟩ = some v) := fun j v h => cell_later' (new_cell' w _ _ j v h) ((Below.refl _ _).alloc (Nat.le_refl _) _)
  have A1 : Hid (At ((w.alloc (.cells (imageV ca cn cc en da dn dc wt mo) 25)).alloc (.cells C 32)) (w.heap.size + 1) C) := by
    have h := At.new (w.alloc (.cells (imageV ca cn cc en da dn dc wt mo) 25)) C 32
    rwa [show (w.alloc (.cells (imageV ca cn cc en da dn dc wt mo) 25)).heap.size = w.heap.size + 1 from by simp] at h
  have I1 : Hid (IsSt ((w.alloc (.cells (imageV ca cn cc en da dn dc wt mo) 25)).alloc (.cells C 32)) (.agg C) s) := hI.later HA.out
  have T1 : Hid (Tab ((w.alloc (.cells (imageV ca cn cc en da dn dc wt mo) 25)).alloc (.cells C 32))) := hT.later HA.out
  have D1 : Hid (Bytes ((w.alloc (.cells (imageV ca cn cc en da dn dc wt mo) 25)).alloc (.cells C 32)) da dn df) := hD.later HA.out
  have N1 : Hid (Bytes ((w.alloc (.cells (imageV ca cn cc en da dn dc wt mo) 25)).alloc (.cells C 32)) a n f) := hN.later HA.out
  have hz : Hid ((Tryd.prog.info? 32).map (·.size) = some C.toList.length) := (st_info hI).2
  clear hI hT hD hN
  go_enter Tryd.func3, Tryd.ntmps3
  go_upto_region 1 with fail
  generalize ((w.alloc (.cells (imageV ca cn cc en da dn dc wt mo) 25)).alloc (.cells C 32)) = w0 at HA X0 A1 I1 T1 D1 N1 ⊢
  go_wp2_with (first
    | (go_at_call 7; revert hb1; intro hb1; refine (awake_st _ (T1.out.later hb1)).mono ?_; rintro e w3 ⟨rfl, hb3⟩)
    | (go_at_call 7; refine (awake_st _ T1.out).mono ?_; rintro e w1 ⟨rfl, hb1⟩; have x1 : w1.cell? ⟨w.heap.size, 1, none⟩ = some (.int .i64 en) := cell_later' (X0.out 1 _ rfl) hb1; have x2 : w1.cell? ⟨w.heap.size, 2, none⟩ = some (.slice da dn dc) := cell_later' (X0.out 2 _ rfl) hb1; have x3 : w1.cell? ⟨w.heap.size, 3, none⟩ = some (.int .i64 wt) := cell_later' (X0.out 3 _ rfl) hb1; have x4 : w1.cell? ⟨w.heap.size, 4, none⟩ = some (.int .i64 mo) := cell_later' (X0.out 4 _ rfl) hb1))
  go_ret
  exact ⟨rfl, bnext (HA.out.trans (hb1.mono HA.out.size)) hb3⟩
set_option maxRecDepth 100000 in
theorem news_early5 {w : World} {C : Array Value} {s : St} (hI : IsSt w (.agg C) s) (hl : s.bn ≤ 9223372036854775807 ∧ s.mn ≤ 9223372036854775807 ∧ s.inn ≤ 9223372036854775807 ∧ s.on_ ≤ 9223372036854775807) (ca : Option Addr) (cn cc : Nat) (en : Int) (da : Option Addr) (dn dc : Nat) (df : Nat → Int) (wt mo : Int) (a : Option Addr) (n c : Nat) (f : Nat → Int) (hn : n ≤ 9223372036854775807) (hdn : dn ≤ 9223372036854775807) (hD : Bytes w da dn df) (hN : Bytes w a n f) (hT : Tab w) (g0 : 0 ≤ en) (g1 : 0 ≤ wt) (g2 : 0 ≤ mo) (g3 : en ≤ 1048576) (g4 : wt ≤ 1048576) (h : 2000 < mo) :
    Calls Tryd.prog 3 #[.agg (imageV ca cn cc en da dn dc wt mo), .slice a n c, .agg C] w fun e w' => e = .returned (.bool true) ∧ Below w.heap.size w w' := by
  have HA : Hid (Below w.heap.size w ((w.alloc (.cells (imageV ca cn cc en da dn dc wt mo) 25)).alloc (.cells C 32))) := ((Below.refl _ w).alloc (Nat.le_refl _) _).alloc (by simp) _
  have X0 : Hid (∀ j v, (imageV ca cn cc en da dn dc wt mo)[j]? = some v → ((w.alloc (.cells (imageV ca cn cc en da dn dc wt mo) 25)).alloc (.cells C 32)).cell? ⟨w.heap.size, j, none⟩ = some v) := fun j v h => cell_later' (new_cell' w _ _ j v h) ((Below.refl _ _).alloc (Nat.le_refl _) _)
  have A1 : Hid (At ((w.alloc (.cells (imageV ca cn cc en da dn dc wt mo) 25)).alloc (.cells C 32)) (w.heap.size + 1) C) := by
    have h := At.new (w.alloc (.cells (imageV ca cn cc en da dn dc wt mo) 25)) C 32
    rwa [show (w.alloc (.cells (imageV ca cn cc en da dn dc wt mo) 25)).heap.size = w.heap.size + 1 from by simp] at h
  have I1 : Hid (IsSt ((w.alloc (.cells (imageV ca cn cc en da dn dc wt mo) 25)).alloc (.cells C 32)) (.agg C) s) := hI.later HA.out
  have T1 : Hid (Tab ((w.alloc (.cells (imageV ca cn cc en da dn dc wt mo) 25)).alloc (.cells C 32))) := hT.later HA.out
  have D1 : Hid (Bytes ((w.alloc (.cells (imageV ca cn cc en da dn dc wt mo) 25)).alloc (.cells C 32)) da dn df) := hD.later HA.out
  have N1 : Hid (Bytes ((w.alloc (.cells (imageV ca cn cc en da dn dc wt mo) 25)).alloc (.cells C 32)) a n f) := hN.later HA.out
  have hz : Hid ((Tryd.prog.info? 32).map (·.size) = some C.toList.length) := (st_info hI).2
  clear hI hT hD hN
  go_enter Tryd.func3, Tryd.ntmps3
  go_upto_region 1 with fail
  generalize ((w.alloc (.cells (imageV ca cn cc en da dn dc wt mo) 25)).alloc (.cells C 32)) = w0 at HA X0 A1 I1 T1 D1 N1 ⊢
  go_wp2_with (first
    | (go_at_call 7; revert hb1; intro hb1; refine (awake_st _ (T1.out.later hb1)).mono ?_; rintro e w3 ⟨rfl, hb3⟩)
    | (go_at_call 7; refine (awake_st _ T1.out).mono ?_; rintro e w1 ⟨rfl, hb1⟩; have x1 : w1.cell? ⟨w.heap.size, 1, none⟩ = some (.int .i64 en) := cell_later' (X0.out 1 _ rfl) hb1; have x2 : w1.cell? ⟨w.heap.size, 2, none⟩ = some (.slice da dn dc) := cell_later' (X0.out 2 _ rfl) hb1; have x3 : w1.cell? ⟨w.heap.size, 3, none⟩ = some (.int .i64 wt) := cell_later' (X0.out 3 _ rfl) hb1; have x4 : w1.cell? ⟨w.heap.size, 4, none⟩ = some (.int .i64 mo) := cell_later' (X0.out 4 _ rfl) hb1))
  go_ret
  exact ⟨rfl, bnext (HA.out.trans (hb1.mono HA.out.size)) hb3⟩
set_option maxRecDepth 100000 in
theorem news_early6 {w : World} {C : Array Value} {s : St} (hI : IsSt w (.agg C) s) (hl : s.bn ≤ 9223372036854775807 ∧ s.mn ≤ 9223372036854775807 ∧ s.inn ≤ 9223372036854775807 ∧ s.on_ ≤ 9223372036854775807) (ca : Option Addr) (cn cc : Nat) (en : Int) (da : Option Addr) (dn dc : Nat) (df : Nat → Int) (wt mo : Int) (a : Option Addr) (n c : Nat) (f : Nat → Int) (hn : n ≤ 9223372036854775807) (hdn : dn ≤ 9223372036854775807) (hD : Bytes w da dn df) (hN : Bytes w a n f) (hT : Tab w) (g0 : 0 ≤ en) (g1 : 0 ≤ wt) (g2 : 0 ≤ mo) (g3 : en ≤ 1048576) (g4 : wt ≤ 1048576) (g5 : mo ≤ 2000) (h : (2000 : Int) < dn) :
    Calls Tryd.prog 3 #[.agg (imageV ca cn cc en da dn dc wt mo), .slice a n c, .agg C] w fun e w' => e = .returned (.bool true) ∧ Below w.heap.size w w' := by
  have HA : Hid (Below w.heap.size w ((w.alloc (.cells (imageV ca cn cc en da dn dc wt mo) 25)).alloc (.cells C 32))) := ((Below.refl _ w).alloc (Nat.le_refl _) _).alloc (by simp) _
  have X0 : Hid (∀ j v, (imageV ca cn cc en da dn dc wt mo)[j]? = some v → ((w.alloc (.cells (imageV ca cn cc en da dn dc wt mo) 25)).alloc (.cells C 32)).cell? ⟨w.heap.size, j, none⟩ = some v) := fun j v h => cell_later' (new_cell' w _ _ j v h) ((Below.refl _ _).alloc (Nat.le_refl _) _)
  have A1 : Hid (At ((w.alloc (.cells (imageV ca cn cc en da dn dc wt mo) 25)).alloc (.cells C 32)) (w.heap.size + 1) C) := by
    have h := At.new (w.alloc (.cells (imageV ca cn cc en da dn dc wt mo) 25)) C 32
    rwa [show (w.alloc (.cells (imageV ca cn cc en da dn dc wt mo) 25)).heap.size = w.heap.size + 1 from by simp] at h
  have I1 : Hid (IsSt ((w.alloc (.cells (imageV ca cn cc en da dn dc wt mo) 25)).alloc (.cells C 32)) (.agg C) s) := hI.later HA.out
  have T1 : Hid (Tab ((w.alloc (.cells (imageV ca cn cc en da dn dc wt mo) 25)).alloc (.cells C 32))) := hT.later HA.out
  have D1 : Hid (Bytes ((w.alloc (.cells (imageV ca cn cc en da dn dc wt mo) 25)).alloc (.cells C 32)) da dn df) := hD.later HA.out
  have N1 : Hid (Bytes ((w.alloc (.cells (imageV ca cn cc en da dn dc wt mo) 25)).alloc (.cells C 32)) a n f) := hN.later HA.out
  have hz : Hid ((Tryd.prog.info? 32).map (·.size) = some C.toList.length) := (st_info hI).2
  clear hI hT hD hN
  go_enter Tryd.func3, Tryd.ntmps3
  go_upto_region 1 with fail
  generalize ((w.alloc (.cells (imageV ca cn cc en da dn dc wt mo) 25)).alloc (.cells C 32)) = w0 at HA X0 A1 I1 T1 D1 N1 ⊢
  go_wp2_with (first
    | (go_at_call 7; revert hb1; intro hb1; refine (awake_st _ (T1.out.later hb1)).mono ?_; rintro e w3 ⟨rfl, hb3⟩)
    | (go_at_call 7; refine (awake_st _ T1.out).mono ?_; rintro e w1 ⟨rfl, hb1⟩; have x1 : w1.cell? ⟨w.heap.size, 1, none⟩ = some (.int .i64 en) := cell_later' (X0.out 1 _ rfl) hb1; have x2 : w1.cell? ⟨w.heap.size, 2, none⟩ = some (.slice da dn dc) := cell_later' (X0.out 2 _ rfl) hb1; have x3 : w1.cell? ⟨w.heap.size, 3, none⟩ = some (.int .i64 wt) := cell_later' (X0.out 3 _ rfl) hb1; have x4 : w1.cell? ⟨w.heap.size, 4, none⟩ = some (.int .i64 mo) := cell_later' (X0.out 4 _ rfl) hb1))
  go_ret
  exact ⟨rfl, bnext (HA.out.trans (hb1.mono HA.out.size)) hb3⟩
set_option maxRecDepth 100000 in
theorem news_early7 {w : World} {C : Array Value} {s : St} (hI : IsSt w (.agg C) s) (hl : s.bn ≤ 9223372036854775807 ∧ s.mn ≤ 9223372036854775807 ∧ s.inn ≤ 9223372036854775807 ∧ s.on_ ≤ 9223372036854775807) (ca : Option Addr) (cn cc : Nat) (en : Int) (da : Option Addr) (dn dc : Nat) (df : Nat → Int) (wt mo : Int) (a : Option Addr) (n c : Nat) (f : Nat → Int) (hn : n ≤ 9223372036854775807) (hdn : dn ≤ 9223372036854775807) (hD : Bytes w da dn df) (hN : Bytes w a n f) (hT : Tab w) (g0 : 0 ≤ en) (g1 : 0 ≤ wt) (g2 : 0 ≤ mo) (g3 : en ≤ 1048576) (g4 : wt ≤ 1048576) (g5 : mo ≤ 2000) (g6 : (dn : Int) ≤ 2000) (h : (500 : Int) < n) :
    Calls Tryd.prog 3 #[.agg (imageV ca cn cc en da dn dc wt mo), .slice a n c, .agg C] w fun e w' => e = .returned (.bool true) ∧ Below w.heap.size w w' := by
  have HA : Hid (Below w.heap.size w ((w.alloc (.cells (imageV ca cn cc en da dn dc wt mo) 25)).alloc (.cells C 32))) := ((Below.refl _ w).alloc (Nat.le_refl _) _).alloc (by simp) _
  have X0 : Hid (∀ j v, (imageV ca cn cc en da dn dc wt mo)[j]? = some v → ((w.alloc (.cells (imageV ca cn cc en da dn dc wt mo) 25)).alloc (.cells C 32)).cell? ⟨w.heap.size, j, none⟩ = some v) := fun j v h => cell_later' (new_cell' w _ _ j v h) ((Below.refl _ _).alloc (Nat.le_refl _) _)
  have A1 : Hid (At ((w.alloc (.cells (imageV ca cn cc en da dn dc wt mo) 25)).alloc (.cells C 32)) (w.heap.size + 1) C) := by
    have h := At.new (w.alloc (.cells (imageV ca cn cc en da dn dc wt mo) 25)) C 32
    rwa [show (w.alloc (.cells (imageV ca cn cc en da dn dc wt mo) 25)).heap.size = w.heap.size + 1 from by simp] at h
  have I1 : Hid (IsSt ((w.alloc (.cells (imageV ca cn cc en da dn dc wt mo) 25)).alloc (.cells C 32)) (.agg C) s) := hI.later HA.out
  have T1 : Hid (Tab ((w.alloc (.cells (imageV ca cn cc en da dn dc wt mo) 25)).alloc (.cells C 32))) := hT.later HA.out
  have D1 : Hid (Bytes ((w.alloc (.cells (imageV ca cn cc en da dn dc wt mo) 25)).alloc (.cells C 32)) da dn df) := hD.later HA.out
  have N1 : Hid (Bytes ((w.alloc (.cells (imageV ca cn cc en da dn dc wt mo) 25)).alloc (.cells C 32)) a n f) := hN.later HA.out
  have hz : Hid ((Tryd.prog.info? 32).map (·.size) = some C.toList.length) := (st_info hI).2
  clear hI hT hD hN
  go_enter Tryd.func3, Tryd.ntmps3
  go_upto_region 1 with fail
  generalize ((w.alloc (.cells (imageV ca cn cc en da dn dc wt mo) 25)).alloc (.cells C 32)) = w0 at HA X0 A1 I1 T1 D1 N1 ⊢
  go_wp2_with (first
    | (go_at_call 7; revert hb1; intro hb1; refine (awake_st _ (T1.out.later hb1)).mono ?_; rintro e w3 ⟨rfl, hb3⟩)
    | (go_at_call 7; refine (awake_st _ T1.out).mono ?_; rintro e w1 ⟨rfl, hb1⟩; have x1 : w1.cell? ⟨w.heap.size, 1, none⟩ = some (.int .i64 en) := cell_later' (X0.out 1 _ rfl) hb1; have x2 : w1.cell? ⟨w.heap.size, 2, none⟩ = some (.slice da dn dc) := cell_later' (X0.out 2 _ rfl) hb1; have x3 : w1.cell? ⟨w.heap.size, 3, none⟩ = some (.int .i64 wt) := cell_later' (X0.out 3 _ rfl) hb1; have x4 : w1.cell? ⟨w.heap.size, 4, none⟩ = some (.int .i64 mo) := cell_later' (X0.out 4 _ rfl) hb1))
  go_ret
  exact ⟨rfl, bnext (HA.out.trans (hb1.mono HA.out.size)) hb3⟩
set_option maxRecDepth 100000 in
theorem news_early8 {w : World} {C : Array Value} {s : St} (hI : IsSt w (.agg C) s) (hl : s.bn ≤ 9223372036854775807 ∧ s.mn ≤ 9223372036854775807 ∧ s.inn ≤ 9223372036854775807 ∧ s.on_ ≤ 9223372036854775807) (ca : Option Addr) (cn cc : Nat) (en : Int) (da : Option Addr) (dn dc : Nat) (df : Nat → Int) (wt mo : Int) (a : Option Addr) (n c : Nat) (f : Nat → Int) (hn : n ≤ 9223372036854775807) (hdn : dn ≤ 9223372036854775807) (hD : Bytes w da dn df) (hN : Bytes w a n f) (hT : Tab w) (g0 : 0 ≤ en) (g1 : 0 ≤ wt) (g2 : 0 ≤ mo) (g3 : en ≤ 1048576) (g4 : wt ≤ 1048576) (g5 : mo ≤ 2000) (g6 : (dn : Int) ≤ 2000) (g7 : (n : Int) ≤ 500) (hf : fewZ s = false) :
    Calls Tryd.prog 3 #[.agg (imageV ca cn cc en da dn dc wt mo), .slice a n c, .agg C] w fun e w' => e = .returned (.bool true) ∧ Below w.heap.size w w' := by
  have HA : Hid (Below w.heap.size w ((w.alloc (.cells (imageV ca cn cc en da dn dc wt mo) 25)).alloc (.cells C 32))) := ((Below.refl _ w).alloc (Nat.le_refl _) _).alloc (by simp) _
  have X0 : Hid (∀ j v, (imageV ca cn cc en da dn dc wt mo)[j]? = some v → ((w.alloc (.cells (imageV ca cn cc en da dn dc wt mo) 25)).alloc (.cells C 32)).cell? ⟨w.heap.size, j, none⟩ = some v) := fun j v h => cell_later' (new_cell' w _ _ j v h) ((Below.refl _ _).alloc (Nat.le_refl _) _)
  have A1 : Hid (At ((w.alloc (.cells (imageV ca cn cc en da dn dc wt mo) 25)).alloc (.cells C 32)) (w.heap.size + 1) C) := by
    have h := At.new (w.alloc (.cells (imageV ca cn cc en da dn dc wt mo) 25)) C 32
    rwa [show (w.alloc (.cells (imageV ca cn cc en da dn dc wt mo) 25)).heap.size = w.heap.size + 1 from by simp] at h
  have I1 : Hid (IsSt ((w.alloc (.cells (imageV ca cn cc en da dn dc wt mo) 25)).alloc (.cells C 32)) (.agg C) s) := hI.later HA.out
  have T1 : Hid (Tab ((w.alloc (.cells (imageV ca cn cc en da dn dc wt mo) 25)).alloc (.cells C 32))) := hT.later HA.out
  have D1 : Hid (Bytes ((w.alloc (.cells (imageV ca cn cc en da dn dc wt mo) 25)).alloc (.cells C 32)) da dn df) := hD.later HA.out
  have N1 : Hid (Bytes ((w.alloc (.cells (imageV ca cn cc en da dn dc wt mo) 25)).alloc (.cells C 32)) a n f) := hN.later HA.out
  have hz : Hid ((Tryd.prog.info? 32).map (·.size) = some C.toList.length) := (st_info hI).2
  clear hI hT hD hN
  go_enter Tryd.func3, Tryd.ntmps3
  go_upto_region 1 with fail
  generalize ((w.alloc (.cells (imageV ca cn cc en da dn dc wt mo) 25)).alloc (.cells C 32)) = w0 at HA X0 A1 I1 T1 D1 N1 ⊢
  have F : Hid (∀ W, Below w0.heap.size w0 W → Calls Tryd.prog 8 #[.agg C] W fun e w' => e = .returned (.bool false) ∧ Below W.heap.size W w') := fun W hW => by have h := few6_st (I1.out.later hW) hl; rwa [hf] at h
  go_wp2_with (first
    | (go_at_call 7; revert hb1; intro hb1; refine (awake_st _ (T1.out.later (bnext hb1 hb2))).mono ?_; rintro e w3 ⟨rfl, hb3⟩)
    | (go_at_call 7; refine (awake_st _ T1.out).mono ?_; rintro e w1 ⟨rfl, hb1⟩; have x1 : w1.cell? ⟨w.heap.size, 1, none⟩ = some (.int .i64 en) := cell_later' (X0.out 1 _ rfl) hb1; have x2 : w1.cell? ⟨w.heap.size, 2, none⟩ = some (.slice da dn dc) := cell_later' (X0.out 2 _ rfl) hb1; have x3 : w1.cell? ⟨w.heap.size, 3, none⟩ = some (.int .i64 wt) := cell_later' (X0.out 3 _ rfl) hb1; have x4 : w1.cell? ⟨w.heap.size, 4, none⟩ = some (.int .i64 mo) := cell_later' (X0.out 4 _ rfl) hb1)
    | ((with_reducible show wpList _ _ _ (Oper.mk _ (Op.load _ _) _ _ _ _ :: _) _ _); refine wpList_load_if (by first | rfl | go_simp) 32 (.tmp 5) rfl (w.heap.size + 1) 0 rfl C.toList _ (at_range (A1.out.later hb1)) Tryd.underlying32 rfl hz.out ?_)
    | (go_at_call 8; refine (F.out _ hb1).mono ?_; rintro e w2 ⟨rfl, hb2⟩))
  go_ret
  exact ⟨rfl, bnext (bnext (HA.out.trans (hb1.mono HA.out.size)) hb2) hb3⟩
set_option maxRecDepth 100000 in
set_option maxHeartbeats 4000000 in
theorem news_main {w : World} {C : Array Value} {s : St} (hI : IsSt w (.agg C) s) (hl : s.bn ≤ 9223372036854775807 ∧ s.mn ≤ 9223372036854775807 ∧ s.inn ≤ 9223372036854775807 ∧ s.on_ ≤ 9223372036854775807) (ca : Option Addr) (cn cc : Nat) (en : Int) (da : Option Addr) (dn dc : Nat) (df : Nat → Int) (wt : Int) (mo : Nat) (a : Option Addr) (n c : Nat) (f : Nat → Int) (hn : n ≤ 9223372036854775807) (hdn : dn ≤ 9223372036854775807) (hD : Bytes w da dn df) (hN : Bytes w a n f) (hT : Tab w) (g0 : 0 ≤ en) (g1 : 0 ≤ wt) (g2 : 0 ≤ (mo : Int)) (g3 : en ≤ 1048576) (g4 : wt ≤ 1048576) (g5 : (mo : Int) ≤ 2000) (g6 : (dn : Int) ≤ 2000) (g7 : (n : Int) ≤ 500) (hf : fewZ s = true) (hs : Small s) (h1 : Head da dn dc) (h2 : Head a n c) :
    Calls Tryd.prog 3 #[.agg (imageV ca cn cc en da dn dc wt (mo : Int)), .slice a n c, .agg C] w fun e w' => e = .returned (.bool true) ∧ Below w.heap.size w w' := by
  have HA : Hid (Below w.heap.size w ((w.alloc (.cells (imageV ca cn cc en da dn dc wt (mo : Int)) 25)).alloc (.cells C 32))) := ((Below.refl _ w).alloc (Nat.le_refl _) _).alloc (by simp) _
  have X0 : Hid (∀ j v, (imageV ca cn cc en da dn dc wt (mo : Int))[j]? = some v → ((w.alloc (.cells (imageV ca cn cc en da dn dc wt (mo : Int)) 25)).alloc (.cells C 32)).cell? ⟨w.heap.size, j, none⟩ = some v) := fun j v h => cell_later' (new_cell' w _ _ j v h) ((Below.refl _ _).alloc (Nat.le_refl _) _)
  have A1 : Hid (At ((w.alloc (.cells (imageV ca cn cc en da dn dc wt (mo : Int)) 25)).alloc (.cells C 32)) (w.heap.size + 1) C) := by
    have h := At.new (w.alloc (.cells (imageV ca cn cc en da dn dc wt (mo : Int)) 25)) C 32
    rwa [show (w.alloc (.cells (imageV ca cn cc en da dn dc wt (mo : Int)) 25)).heap.size = w.heap.size + 1 from by simp] at h
  have I1 : Hid (IsSt ((w.alloc (.cells (imageV ca cn cc en da dn dc wt (mo : Int)) 25)).alloc (.cells C 32)) (.agg C) s) := hI.later HA.out
  have T1 : Hid (Tab ((w.alloc (.cells (imageV ca cn cc en da dn dc wt (mo : Int)) 25)).alloc (.cells C 32))) := hT.later HA.out
  have D1 : Hid (Bytes ((w.alloc (.cells (imageV ca cn cc en da dn dc wt (mo : Int)) 25)).alloc (.cells C 32)) da dn df) := hD.later HA.out
  have N1 : Hid (Bytes ((w.alloc (.cells (imageV ca cn cc en da dn dc wt (mo : Int)) 25)).alloc (.cells C 32)) a n f) := hN.later HA.out
  have hz : Hid ((Tryd.prog.info? 32).map (·.size) = some C.toList.length) := (st_info hI).2
  clear hI hT hD hN
  go_enter Tryd.func3, Tryd.ntmps3
  go_upto_region 1 with fail
  generalize ((w.alloc (.cells (imageV ca cn cc en da dn dc wt (mo : Int)) 25)).alloc (.cells C 32)) = w0 at HA X0 A1 I1 T1 D1 N1 ⊢
  have F : Hid (∀ W, Below w0.heap.size w0 W → Calls Tryd.prog 8 #[.agg C] W fun e w' => e = .returned (.bool true) ∧ Below W.heap.size W w') := fun W hW => by have h := few6_st (I1.out.later hW) hl; rwa [hf] at h
  go_upto_region 4 with (first
    | (go_at_call 7; refine (awake_st _ T1.out).mono ?_; rintro e w1 ⟨rfl, hb1⟩; have x1 : w1.cell? ⟨w.heap.size, 1, none⟩ = some (.int .i64 en) := cell_later' (X0.out 1 _ rfl) hb1; have x2 : w1.cell? ⟨w.heap.size, 2, none⟩ = some (.slice da dn dc) := cell_later' (X0.out 2 _ rfl) hb1; have x3 : w1.cell? ⟨w.heap.size, 3, none⟩ = some (.int .i64 wt) := cell_later' (X0.out 3 _ rfl) hb1; have x4 : w1.cell? ⟨w.heap.size, 4, none⟩ = some (.int .i64 (mo : Int)) := cell_later' (X0.out 4 _ rfl) hb1)
    | ((with_reducible show wpList _ _ _ (Oper.mk _ (Op.load _ _) _ _ _ _ :: _) _ _); refine wpList_load_if (by first | rfl | go_simp) 32 (.tmp 5) rfl (w.heap.size + 1) 0 rfl C.toList _ (at_range (A1.out.later hb1)) Tryd.underlying32 rfl hz.out ?_)
    | (go_at_call 8; refine (F.out _ hb1).mono ?_; rintro e w2 ⟨rfl, hb2⟩; have z0 : w2.cell? ⟨w.heap.size, 0, none⟩ = some (.slice ca cn cc) := cell_later' (X0.out 0 _ rfl) (bnext hb1 hb2); have z1 := cell_later' x1 hb2; have z2 := cell_later' x2 hb2; have z3 := cell_later' x3 hb2; have z4 := cell_later' x4 hb2)
    | (go_at_call 9; refine (new_st w2 ca cn cc en da dn dc df wt mo a n c f (by omega) (by omega) (by omega) h1 h2 (D1.out.later (bnext hb1 hb2)) (N1.out.later (bnext hb1 hb2))).mono ?_; rintro e w3 ⟨v3, rfl, I3, hb3⟩; obtain ⟨Ct, rfl⟩ := isSt_agg I3)
    | ((with_reducible show wpList _ _ _ (Oper.mk _ (Op.store _ _ _) _ _ _ _ :: _) _ _); refine wpList_store_fresh rfl 32 (.tmp 7) (.tmp 59) rfl w3 _ _ Ct rfl rfl (by rw [(st_shape I3).1]; rfl) (st_info I3).1 (st_shape I3).2 ?_; intro w4 hb4 A4 Z4))
  obtain ⟨x, ex⟩ : ∃ x, x = sameZ (newZ en dn df wt mo n f) s := ⟨_, rfl⟩
  have I4 : Hid (IsSt w4 (.agg Ct) (newZ en dn df wt mo n f)) := I3.later hb4
  have J4 : Hid (IsSt w4 (.agg C) s) := I1.out.later (bnext (bnext (bnext hb1 hb2) hb3) hb4)
  have S4 : Hid (At w4 (w.heap.size + 1) C) := A1.out.later (bnext (bnext (bnext hb1 hb2) hb3) hb4)
  have D4 : Hid (Bytes w4 da dn df) := D1.out.later (bnext (bnext (bnext hb1 hb2) hb3) hb4)
  have N4 : Hid (Bytes w4 a n f) := N1.out.later (bnext (bnext (bnext hb1 hb2) hb3) hb4)
  have Q4 : Hid (Below w.heap.size w w4) := HA.out.trans ((bnext (bnext (bnext hb1 hb2) hb3) hb4).mono HA.out.size)
  have b0 := cell_later' (cell_later' z0 hb3) hb4
  have b1 := cell_later' (cell_later' z1 hb3) hb4
  have b2 := cell_later' (cell_later' z2 hb3) hb4
  have b3 := cell_later' (cell_later' z3 hb3) hb4
  have b4 := cell_later' (cell_later' z4 hb3) hb4
  have lT : (newZ en dn df wt mo n f).bn ≤ 100000 ∧ (newZ en dn df wt mo n f).mn ≤ 100000 ∧ (newZ en dn df wt mo n f).inn ≤ 100000 ∧ (newZ en dn df wt mo n f).on_ ≤ 100000 := by simp [newZ]; omega
  have lS : s.bn ≤ 100000 ∧ s.mn ≤ 100000 ∧ s.inn ≤ 100000 ∧ s.on_ ≤ 100000 := by have := hs.2.2.1; omega
  have LT : Hid _ := lT
  have LS : Hid _ := lS
  have A4' : Hid (At w4 w3.heap.size Ct) := A4
  clear lT lS x1 x2 x3 x4 z0 z1 z2 z3 z4 hb1 hb2 hb3 hb4 F I1 A1 D1 N1 T1 HA X0 I3 Z4 A4 g0 g1 g2 g3 g4 g5
  refine wp_region_held_drew (S := fun w' => Below w4.heap.size w4 w') (by kernel_rfl) ?_ (fun hHeld => ?_)
  · exact (Below.refl _ _).drew
  refine wpAnyH_take (i := 0) (oi := { dst := some 60, op := Op.load 32 (.tmp 7), type := _, pos := _, after := _, guard := none }) (v := .agg Ct) rfl (by kernel_rfl) (by kernel_rfl) (by kernel_rfl) (fun _ _ _ h => h) (yields_st (by rfl) (.tmp 7) rfl (w3.heap.size) rfl I4.out (fun w hw => A4'.out.later hw)) (by assumption) ?_
  try simp only [Act.put, List.setIfInBounds_toArray, List.set_cons_zero, List.set_cons_succ]
  refine wpAnyH_take (i := 1) (oi := { dst := some 61, op := Op.load 25 (.tmp 3), type := _, pos := _, after := _, guard := none }) (v := .agg (imageV ca cn cc en da dn dc wt mo)) rfl (by kernel_rfl) (by kernel_rfl) (by kernel_rfl) (fun _ _ _ h => h) (Or.inl ⟨by rfl, ?_⟩) (by assumption) ?_
  · intro w hSw; (try dsimp only at hSw); have f0 := cell_later' b0 hSw; have f1 := cell_later' b1 hSw; have f2 := cell_later' b2 hSw; have f3 := cell_later' b3 hSw; have f4 := cell_later' b4 hSw; go_simp
  try simp only [Act.put, List.setIfInBounds_toArray, List.set_cons_zero, List.set_cons_succ]
  refine wpAnyH_take (i := 2) (oi := { dst := some 62, op := Op.move (.tmp 1), type := _, pos := _, after := _, guard := none }) (v := .slice a n c) rfl (by kernel_rfl) (by kernel_rfl) (by kernel_rfl) (fun _ _ _ h => h) (Or.inl ⟨by rfl, ?_⟩) (by assumption) ?_
  · intro w hSw; (try dsimp only at hSw); go_simp
  try simp only [Act.put, List.setIfInBounds_toArray, List.set_cons_zero, List.set_cons_succ]
  refine wpAnyH_ready (rs := [3]) (by kernel_rfl) (by simp) (AllReadyH.cons (o := { dst := some 63, op := Op.call { callee := .value (.func 11), args := #[.tmp 61, .tmp 62], argTypes := #[25, 23] }, type := _, pos := _, after := _, guard := none }) rfl (fun K hK => ?_) AllReadyH.nil)
  go_simp
  refine (rnew_st _ ca cn cc en da dn dc df wt mo a n c f (by omega) (by omega) (by omega) h1 h2 (D4.out.later hHeld) (N4.out.later hHeld)).mono ?_
  rintro e w5 ⟨Cn, rfl, I5, hb5⟩
  refine hK.out _ _ ?_ (fun hHeld => ?_)
  · exact bnext hHeld hb5
  clear hK K
  try simp only [Act.put, List.setIfInBounds_toArray, List.set_cons_zero, List.set_cons_succ]
  refine wpAnyH_ready (rs := [4]) (by kernel_rfl) (by simp) (AllReadyH.cons (o := { dst := some 64, op := Op.call { callee := .value (.func 10), args := #[.tmp 60, .tmp 63], argTypes := #[32, 32] }, type := _, pos := _, after := _, guard := none }) rfl (fun K hK => ?_) AllReadyH.nil)
  go_simp
  refine ((by have h := rsame6_st (I4.out.later hHeld) I5 LT.out LT.out; rwa [same_self] at h : Calls Tryd.prog 10 #[.agg Ct, .agg Cn] w5 fun e w' => e = .returned (.bool true) ∧ Below w5.heap.size w5 w')).mono ?_
  rintro e w6 ⟨rfl, hb6⟩
  refine hK.out _ _ ?_ (fun hHeld => ?_)
  · exact bnext hHeld hb6
  clear hK K
  try simp only [Act.put, List.setIfInBounds_toArray, List.set_cons_zero, List.set_cons_succ]
  refine wpAnyH_take (i := 5) (oi := { dst := some 65, op := Op.move (.tmp 64), type := _, pos := _, after := _, guard := none }) (v := .bool true) rfl (by kernel_rfl) (by kernel_rfl) (by kernel_rfl) (fun _ _ _ h => h) (Or.inl ⟨by rfl, ?_⟩) (by assumption) ?_
  · intro w hSw; (try dsimp only at hSw); go_simp
  try simp only [Act.put, List.setIfInBounds_toArray, List.set_cons_zero, List.set_cons_succ]
  refine wpAnyH_take (i := 6) (oi := { dst := some 66, op := Op.load 32 (.tmp 7), type := _, pos := _, after := _, guard := some (5, true) }) (v := .agg Ct) rfl (by kernel_rfl) (by kernel_rfl) (by kernel_rfl) (fun _ _ _ h => h) (yields_st (by rfl) (.tmp 7) rfl (w3.heap.size) rfl I4.out (fun w hw => A4'.out.later hw)) (by assumption) ?_
  try simp only [Act.put, List.setIfInBounds_toArray, List.set_cons_zero, List.set_cons_succ]
  refine wpAnyH_take (i := 7) (oi := { dst := some 67, op := Op.load 32 (.tmp 5), type := _, pos := _, after := _, guard := some (5, true) }) (v := .agg C) rfl (by kernel_rfl) (by kernel_rfl) (by kernel_rfl) (fun _ _ _ h => h) (yields_st (by rfl) (.tmp 5) rfl (w.heap.size + 1) rfl J4.out (fun w hw => S4.out.later hw)) (by assumption) ?_
  try simp only [Act.put, List.setIfInBounds_toArray, List.set_cons_zero, List.set_cons_succ]
  refine wpAnyH_take (i := 9) (oi := { dst := some 69, op := Op.load 32 (.tmp 7), type := _, pos := _, after := _, guard := some (5, true) }) (v := .agg Ct) rfl (by kernel_rfl) (by kernel_rfl) (by kernel_rfl) (fun _ _ _ h => h) (yields_st (by rfl) (.tmp 7) rfl (w3.heap.size) rfl I4.out (fun w hw => A4'.out.later hw)) (by assumption) ?_
  try simp only [Act.put, List.setIfInBounds_toArray, List.set_cons_zero, List.set_cons_succ]
  refine wpAnyH_take (i := 10) (oi := { dst := some 70, op := Op.load 32 (.tmp 5), type := _, pos := _, after := _, guard := some (5, true) }) (v := .agg C) rfl (by kernel_rfl) (by kernel_rfl) (by kernel_rfl) (fun _ _ _ h => h) (yields_st (by rfl) (.tmp 5) rfl (w.heap.size + 1) rfl J4.out (fun w hw => S4.out.later hw)) (by assumption) ?_
  try simp only [Act.put, List.setIfInBounds_toArray, List.set_cons_zero, List.set_cons_succ]
  refine wpAnyH_ready (rs := [8]) (by kernel_rfl) (by simp) (AllReadyH.cons (o := { dst := some 68, op := Op.call { callee := .value (.func 12), args := #[.tmp 66, .tmp 67], argTypes := #[32, 32] }, type := _, pos := _, after := _, guard := some (5, true) }) rfl (fun K hK => ?_) AllReadyH.nil)
  go_simp
  refine ((by have h := same_st (I4.out.later hHeld) (J4.out.later hHeld) LT.out LS.out; rwa [← ex] at h : Calls Tryd.prog 12 #[.agg Ct, .agg C] w6 fun e w' => e = .returned (.bool x) ∧ Below w6.heap.size w6 w')).mono ?_
  rintro e w7 ⟨rfl, hb7⟩
  refine hK.out _ _ ?_ (fun hHeld => ?_)
  · exact bnext hHeld hb7
  clear hK K
  try simp only [Act.put, List.setIfInBounds_toArray, List.set_cons_zero, List.set_cons_succ]
  refine wpAnyH_ready (rs := [11]) (by kernel_rfl) (by simp) (AllReadyH.cons (o := { dst := some 71, op := Op.call { callee := .value (.func 10), args := #[.tmp 69, .tmp 70], argTypes := #[32, 32] }, type := _, pos := _, after := _, guard := some (5, true) }) rfl (fun K hK => ?_) AllReadyH.nil)
  go_simp
  refine ((by have h := rsame6_st (I4.out.later hHeld) (J4.out.later hHeld) LT.out LS.out; rwa [← ex] at h : Calls Tryd.prog 10 #[.agg Ct, .agg C] w7 fun e w' => e = .returned (.bool x) ∧ Below w7.heap.size w7 w')).mono ?_
  rintro e w8 ⟨rfl, hb8⟩
  refine hK.out _ _ ?_ (fun hHeld => ?_)
  · exact bnext hHeld hb8
  clear hK K
  try simp only [Act.put, List.setIfInBounds_toArray, List.set_cons_zero, List.set_cons_succ]
  refine wpAnyH_take (i := 12) (oi := { dst := some 72, op := Op.binOp BinOp.eql 4 (.tmp 68) (.tmp 71) 4, type := _, pos := _, after := _, guard := some (5, true) }) (v := .bool true) rfl (by kernel_rfl) (by kernel_rfl) (by kernel_rfl) (fun _ _ _ h => h) (Or.inl ⟨by rfl, ?_⟩) (by assumption) ?_
  · intro w hSw; (try dsimp only at hSw); go_simp
  try simp only [Act.put, List.setIfInBounds_toArray, List.set_cons_zero, List.set_cons_succ]
  refine wpAnyH_take (i := 13) (oi := { dst := some 73, op := Op.pick (.tmp 65) (.tmp 72) (.const (.bool false)), type := _, pos := _, after := _, guard := none }) (v := .bool true) rfl (by kernel_rfl) (by kernel_rfl) (by kernel_rfl) (fun _ _ _ h => h) (Or.inl ⟨by rfl, ?_⟩) (by assumption) ?_
  · intro w hSw; (try dsimp only at hSw); go_simp
  try simp only [Act.put, List.setIfInBounds_toArray, List.set_cons_zero, List.set_cons_succ]
  refine wpAnyH_take (i := 14) (oi := { dst := some 74, op := Op.move (.tmp 73), type := _, pos := _, after := _, guard := none }) (v := .bool true) rfl (by kernel_rfl) (by kernel_rfl) (by kernel_rfl) (fun _ _ _ h => h) (Or.inl ⟨by rfl, ?_⟩) (by assumption) ?_
  · intro w hSw; (try dsimp only at hSw); go_simp
  try simp only [Act.put, List.setIfInBounds_toArray, List.set_cons_zero, List.set_cons_succ]
  refine wpAnyH_take (i := 15) (oi := { dst := some 75, op := Op.load 32 (.tmp 5), type := _, pos := _, after := _, guard := some (14, true) }) (v := .agg C) rfl (by kernel_rfl) (by kernel_rfl) (by kernel_rfl) (fun _ _ _ h => h) (yields_st (by rfl) (.tmp 5) rfl (w.heap.size + 1) rfl J4.out (fun w hw => S4.out.later hw)) (by assumption) ?_
  try simp only [Act.put, List.setIfInBounds_toArray, List.set_cons_zero, List.set_cons_succ]
  refine wpAnyH_take (i := 16) (oi := { dst := some 76, op := Op.load 32 (.tmp 5), type := _, pos := _, after := _, guard := some (14, true) }) (v := .agg C) rfl (by kernel_rfl) (by kernel_rfl) (by kernel_rfl) (fun _ _ _ h => h) (yields_st (by rfl) (.tmp 5) rfl (w.heap.size + 1) rfl J4.out (fun w hw => S4.out.later hw)) (by assumption) ?_
  try simp only [Act.put, List.setIfInBounds_toArray, List.set_cons_zero, List.set_cons_succ]
  refine wpAnyH_ready (rs := [17]) (by kernel_rfl) (by simp) (AllReadyH.cons (o := { dst := some 77, op := Op.call { callee := .value (.func 12), args := #[.tmp 75, .tmp 76], argTypes := #[32, 32] }, type := _, pos := _, after := _, guard := some (14, true) }) rfl (fun K hK => ?_) AllReadyH.nil)
  go_simp
  refine ((by have h := same_st (J4.out.later hHeld) (J4.out.later hHeld) LS.out LS.out; rwa [same_self] at h : Calls Tryd.prog 12 #[.agg C, .agg C] w8 fun e w' => e = .returned (.bool true) ∧ Below w8.heap.size w8 w')).mono ?_
  rintro e w9 ⟨rfl, hb9⟩
  refine hK.out _ _ ?_ (fun hHeld => ?_)
  · exact bnext hHeld hb9
  clear hK K
  try simp only [Act.put, List.setIfInBounds_toArray, List.set_cons_zero, List.set_cons_succ]
  refine wpAnyH_take (i := 18) (oi := { dst := some 78, op := Op.pick (.tmp 74) (.tmp 77) (.const (.bool false)), type := _, pos := _, after := _, guard := none }) (v := .bool true) rfl (by kernel_rfl) (by kernel_rfl) (by kernel_rfl) (fun _ _ _ h => h) (Or.inl ⟨by rfl, ?_⟩) (by assumption) ?_
  · intro w hSw; (try dsimp only at hSw); go_simp
  try simp only [Act.put, List.setIfInBounds_toArray, List.set_cons_zero, List.set_cons_succ]
  refine wpAnyH_take (i := 19) (oi := { dst := some 6, op := Op.assign (.tmp 78), type := _, pos := _, after := _, guard := none }) (v := .bool true) rfl (by kernel_rfl) (by kernel_rfl) (by kernel_rfl) (fun _ _ _ h => h) (Or.inl ⟨by rfl, ?_⟩) (by assumption) ?_
  · intro w hSw; go_simp
  try simp only [Act.put, List.setIfInBounds_toArray, List.set_cons_zero, List.set_cons_succ]
  refine wpAnyH_done (by kernel_rfl) ?_ _
  try simp only [Act.put, List.setIfInBounds_toArray, List.set_cons_zero, List.set_cons_succ]
  go_wp2_with fail
  go_ret
  exact ⟨rfl, Q4.out.trans (hHeld.mono Q4.out.size)⟩
theorem walk (w : World) (ca : Option Addr) (cn cc : Nat) (cf : Nat → Int) (en : Int) (da : Option Addr) (dn dc : Nat) (df : Nat → Int) (wt mo : Int)
    (hm : (cn ≤ cc ∧ cc ≤ maxLen ∧ (ca = none → cc = 0) ∧ RowK .u32 w ca cn cf) ∧ (Lit.int .i64 en).wf = true ∧ (dn ≤ dc ∧ dc ≤ maxLen ∧ (da = none → dc = 0) ∧ Bytes w da dn df) ∧ (Lit.int .i64 wt).wf = true ∧ (Lit.int .i64 mo).wf = true)
    (a : Option Addr) (n c : Nat) (f : Nat → Int) (h0 : n ≤ c ∧ c ≤ maxLen ∧ (a = none → c = 0) ∧ RowK .u8 w a n f)
    (at1 : Int) (r1 : Nat → Int) (ba1 : Option Addr) (bn1 bc1 : Nat) (bf1 : Nat → Int) (wt1 : Int) (ma1 : Option Addr) (mn1 mc1 : Nat) (mf1 : Nat → Int) (ia1 : Option Addr) (in1 ic1 : Nat) (if1 : Nat → Int) (oa1 : Option Addr) (on1 oc1 : Nat) (of1 : Nat → Int) (en1 : Bool) (cd1 ft1 : Int)
    (h1 : (Lit.int .i64 at1).wf = true ∧ (∀ j, (Lit.int .u32 (r1 j)).wf = true) ∧ (bn1 ≤ bc1 ∧ bc1 ≤ maxLen ∧ (ba1 = none → bc1 = 0) ∧ RowK .i64 w ba1 bn1 bf1) ∧ (Lit.int .i64 wt1).wf = true ∧ (mn1 ≤ mc1 ∧ mc1 ≤ maxLen ∧ (ma1 = none → mc1 = 0) ∧ Bytes w ma1 mn1 mf1) ∧
      (in1 ≤ ic1 ∧ ic1 ≤ maxLen ∧ (ia1 = none → ic1 = 0) ∧ Bytes w ia1 in1 if1) ∧ (on1 ≤ oc1 ∧ oc1 ≤ maxLen ∧ (oa1 = none → oc1 = 0) ∧ Bytes w oa1 on1 of1) ∧ (Lit.int .u32 cd1).wf = true ∧ (Lit.int .i64 ft1).wf = true) (hT : Tab w) :
    Calls Tryd.prog 3 #[.agg #[.slice ca cn cc, .int .i64 en, .slice da dn dc, .int .i64 wt, .int .i64 mo], .slice a n c, stateV at1 r1 ba1 bn1 bc1 wt1 ma1 mn1 mc1 ia1 in1 ic1 oa1 on1 oc1 en1 cd1 ft1] w fun e w' => e = .returned (.bool true) ∧ Below w.heap.size w w' := by
  obtain ⟨hat, hr, ⟨b1, b2, b3, hB⟩, hwt, ⟨m1, m2, m3, hM⟩, ⟨i1, i2, i3, hI⟩, ⟨o1, o2, o3, hO⟩, hcd, hft⟩ := h1
  obtain ⟨-, -, ⟨d1, d2, d3, hD⟩, -, -⟩ := hm
  obtain ⟨hn0, hm0, hnil0, hw⟩ := h0
  have hN : Bytes w a n f := ⟨fun i => wf_u8_bd (hw.1 i), hw.2⟩
  unfold maxLen at hm0 b2 m2 i2 o2 d2
  obtain ⟨s, es⟩ : ∃ s : St, s = ⟨at1, r1, bn1, bf1, wt1, mn1, mf1, in1, if1, on1, of1, en1, cd1, ft1⟩ := ⟨_, rfl⟩
  obtain ⟨C, eC⟩ : ∃ C : Array Value, Value.agg C = stateV at1 r1 ba1 bn1 bc1 wt1 ma1 mn1 mc1 ia1 in1 ic1 oa1 on1 oc1 en1 cd1 ft1 := ⟨_, rfl⟩
  rw [← eC]
  have hS : IsSt w (.agg C) s := by rw [es]; exact ⟨ba1, bc1, ma1, mc1, ia1, ic1, oa1, oc1, eC, ⟨⟨b1, b3⟩, hB⟩, ⟨⟨m1, m3⟩, hM⟩, ⟨⟨i1, i3⟩, hI⟩, ⟨o1, o3⟩, hO⟩
  have hl : s.bn ≤ 9223372036854775807 ∧ s.mn ≤ 9223372036854775807 ∧ s.inn ≤ 9223372036854775807 ∧ s.on_ ≤ 9223372036854775807 := by rw [es]; exact ⟨by simp only []; omega, by simp only []; omega, by simp only []; omega, by simp only []; omega⟩
  have hr' : ∀ j, (Lit.int .u32 (s.r j)).wf = true := by rw [es]; exact hr
  have hwt' : (Lit.int .i64 s.wt).wf = true := by rw [es]; exact hwt
  have hcd' : (Lit.int .u32 s.cd).wf = true := by rw [es]; exact hcd
  have hft' : (Lit.int .i64 s.ft).wf = true := by rw [es]; exact hft
  clear es eC
  by_cases c0 : en < 0
  · exact news_early0 hS hl ca cn cc en da dn dc df wt mo a n c f (by omega) (by omega) hD hN hT c0
  by_cases c1 : wt < 0
  · exact news_early1 hS hl ca cn cc en da dn dc df wt mo a n c f (by omega) (by omega) hD hN hT (by omega) c1
  by_cases c2 : mo < 0
  · exact news_early2 hS hl ca cn cc en da dn dc df wt mo a n c f (by omega) (by omega) hD hN hT (by omega) (by omega) c2
  by_cases c3 : 1048576 < en
  · exact news_early3 hS hl ca cn cc en da dn dc df wt mo a n c f (by omega) (by omega) hD hN hT (by omega) (by omega) (by omega) c3
  by_cases c4 : 1048576 < wt
  · exact news_early4 hS hl ca cn cc en da dn dc df wt mo a n c f (by omega) (by omega) hD hN hT (by omega) (by omega) (by omega) (by omega) c4
  by_cases c5 : 2000 < mo
  · exact news_early5 hS hl ca cn cc en da dn dc df wt mo a n c f (by omega) (by omega) hD hN hT (by omega) (by omega) (by omega) (by omega) (by omega) c5
  by_cases c6 : (2000 : Int) < dn
  · exact news_early6 hS hl ca cn cc en da dn dc df wt mo a n c f (by omega) (by omega) hD hN hT (by omega) (by omega) (by omega) (by omega) (by omega) (by omega) c6
  by_cases c7 : (500 : Int) < n
  · exact news_early7 hS hl ca cn cc en da dn dc df wt mo a n c f (by omega) (by omega) hD hN hT (by omega) (by omega) (by omega) (by omega) (by omega) (by omega) (by omega) c7
  cases hf : fewZ s
  · exact news_early8 hS hl ca cn cc en da dn dc df wt mo a n c f (by omega) (by omega) hD hN hT (by omega) (by omega) (by omega) (by omega) (by omega) (by omega) (by omega) (by omega) hf
  obtain ⟨mn, rfl⟩ : ∃ mn : Nat, mo = mn := ⟨mo.toNat, by omega⟩
  exact news_main hS hl ca cn cc en da dn dc df wt mn a n c f (by omega) (by omega) hD hN hT (by omega) (by omega) (by omega) (by omega) (by omega) (by omega) (by omega) (by omega) hf (small_few hf hr' hwt' hcd' hft') ⟨d1, d3⟩ ⟨hn0, hnil0⟩

/-! ### The row's step -/
set_option maxRecDepth 100000 in
theorem lifted (os : Os) (started : os.Started) (H : Type) (enc : TypeId × Value → H) :
    ReturnsInHanded {} Tryd.checked os 3 .any (fun w args => (Rows.cpuNewsSpec.pre enc Tryd.prog Tryd.f3 [] false w args ∧ laidMetH Tryd.prog laidL w) ∧ sizedMet enc Tryd.prog Tryd.f3 (OpenSpec.ofChange Rows.cpuNewsSpec) false w args)
      (Rows.cpuNewsSpec.post enc Tryd.prog Tryd.f3 false true false false) := by
  refine returnsInHanded_of_change_and (C := Tryd.checked) (X := fun w _ => laidMetH Tryd.prog laidL w) (fun _ _ _ hh h => h.of_heap hh) own started (by kernel_rfl) Tryd.func3
    (ChangeSpec.witness_shaped (enc := enc) (C := Tryd.checked) (os := os) (X := fun w _ => laidMetH Tryd.prog laidL w) false (World.doorLaid Tryd.prog 40 os) #[.agg #[.slice none 0 0, .int .i64 0, .slice none 0 0, .int .i64 0, .int .i64 0], .slice none 0 0, .agg #[.int .i64 0, .int .u32 0, .int .u32 0, .int .u32 0, .int .u32 0, .int .u32 0, .int .u32 0, .int .u32 0, .int .u32 0, .int .u32 0, .int .u32 0, .int .u32 0, .int .u32 0, .int .u32 0, .int .u32 0, .int .u32 0, .int .u32 0, .slice none 0 0, .int .i64 0, .slice none 0 0, .slice none 0 0, .slice none 0 0, .bool false, .int .u32 0, .int .i64 0]] 8 rfl (World.shaped_of_RefB (by kernel_rfl) (by kernel_rfl)) (by kernel_rfl) (by kernel_rfl) (by kernel_rfl) (door_met os _)) ?_
  intro W base args ds gs before hval0 hW _ _ hL _
  have hval : ∀ (j : Nat) t v, Tryd.f3.params[j]? = some t → args[j]? = some v → Value.okWide Tryd.prog W .any base t v := hval0
  have hW' := hW
  obtain ⟨p, q, hA0, hV, rfl, hfz, hnd⟩ := hW
  have hA : DataW.TrodAll enc Tryd.prog W 0 (fun _ => true) true Tryd.f3.params.toList args.toList ds p := hA0
  rw [Tryd.params3] at hA hval
  obtain ⟨v0, vs0, d0, ds0, p0, q0, hargs, rfl, rfl, h0, r0⟩ := trodAll_cons hA
  obtain ⟨v1, vs1, d1, ds1, p1, q1, rfl, rfl, rfl, h1, r1⟩ := trodAll_cons r0
  obtain ⟨v2, vs2, d2, ds2, p2, q2, rfl, rfl, rfl, h2, r2⟩ := trodAll_cons r1
  obtain ⟨rfl, rfl, rfl⟩ := trodAll_nil r2
  obtain rfl : args = #[v0, v1, v2] := by cases args; simp_all
  obtain ⟨rfl, rfl⟩ := trodVars_none hV
  have hT := tab_of hL
  have k0 := h0
  have lt0 : ∀ x ∈ p0, x.block < W.heap.size := by obtain ⟨m, hm⟩ := k0; exact DataW.trod_lt m _ _ _ hm
  obtain ⟨vca0, vcn0, vcc0, vcf0, ven0, vda0, vdn0, vdc0, vdf0, vwt0, vmo0, rfl, w0⟩ := open_image (hval 0 25 v0 rfl rfl) h0
  have k1 := h1
  have lt1 : ∀ x ∈ p1, x.block < W.heap.size := by obtain ⟨m, hm⟩ := k1; exact DataW.trod_lt m _ _ _ hm
  obtain ⟨va1, vn1, vc1, vf1, rfl, w1⟩ := open_sl Tryd.underlying23 Tryd.underlying5 (by kernel_rfl) (hval 1 23 v1 rfl rfl) h1
  have k2 := h2
  have lt2 : ∀ x ∈ p2, x.block < W.heap.size := by obtain ⟨m, hm⟩ := k2; exact DataW.trod_lt m _ _ _ hm
  obtain ⟨vat2, vr2, vba2, vbn2, vbc2, vbf2, vwt2, vma2, vmn2, vmc2, vmf2, via2, vin2, vic2, vif2, voa2, von2, voc2, vof2, ven2, vcd2, vft2, rfl, w2⟩ := open_state (hval 2 32 v2 rfl rfl) h2
  clear hA0 hval0
  refine (walk W vca0 vcn0 vcc0 vcf0 ven0 vda0 vdn0 vdc0 vdf0 vwt0 vmo0 w0 va1 vn1 vc1 vf1 w1 vat2 vr2 vba2 vbn2 vbc2 vbf2 vwt2 vma2 vmn2 vmc2 vmf2 via2 vin2 vic2 vif2 voa2 von2 voc2 vof2 ven2 vcd2 vft2 w2 hT).mono fun e W' ⟨he, bel⟩ => ?_
  subst he
  exact ⟨_, rfl, _, _, _, [], _, [], hW', trodAll_mk1 (shut_bool Tryd.underlying4 _), (trodAll_cons_mk (Below.trod laidOut (by kernel_rfl) (of_decide_eq_true (by kernel_rfl)) k0 bel lt0) (trodAll_cons_mk (Below.trod laidOut (by kernel_rfl) (of_decide_eq_true (by kernel_rfl)) k1 bel lt1) (trodAll_cons_mk (Below.trod laidOut (by kernel_rfl) (of_decide_eq_true (by kernel_rfl)) k2 bel lt2) trodAll_mk0))), rfl, bel.frame _, fun h => by cases h⟩

theorem over : Rows.CpuNewsSaid :=
  OpenClaim.holds_of_wide 3 Tryd.f3 rfl rfl rfl rfl rfl rfl rfl ⟨rfl, rfl, rfl, rfl, rfl⟩ rfl rfl rfl rfl rfl (by kernel_rfl) Tryd.func3 (by kernel_rfl)
    (of_decide_eq_true (by kernel_rfl)) (by unfold Func.isWrapper; first | (rw [if_pos (by decide +kernel)]; kernel_rfl) | (rw [if_neg (by decide +kernel)]; exact ⟨rfl, rfl⟩))
    (fun os started H enc _ => lifted os started H enc)

/-- The tied card. -/
theorem card : Rows.CpuNewsCardSaid :=
  Claim7.holds_tied_plain_at .later [] [.data] true (true, "2ae3b24d0b1c2a4f435f061728b50183ea705ec5160814cbbfb91f673c3328a8") false
    over (fun _ h => by cases h) (by kernel_rfl) (fun _ h => by cases h) cpuNews_row_tie rfl ⟨rfl, rfl⟩ (by kernel_rfl) rfl
    (fun f fn hf hfn => by
      obtain rfl : f = 3 := Option.some.inj ((show Tryd.prog.funcNamed "splice/splicelaw06.CpuNews" = some 3 by kernel_rfl).symm.trans hf) |>.symm
      obtain rfl : fn = Tryd.f3 := (Option.some.inj (Tryd.func3.symm.trans hfn)).symm
      exact ⟨by kernel_rfl, fun j t ht => by
        rw [Tryd.params3] at ht
        have hm : t ∈ [25, 23, 32] := by simpa using Array.mem_of_getElem? ht
        have hall : ([25, 23, 32].all fun u => !Tryd.prog.wantsStandIn u) = true := by kernel_rfl
        exact (show Tryd.prog.wantsStandIn t = false by simpa using List.all_eq_true.1 hall t hm)⟩)
    (by kernel_rfl)
end Go.Proofs.YtcibifgbnpcpmaaDoor.cpuNews

namespace Go.Proofs.YtcibifgbnpcpmaaDoor
theorem CpuNews_holds : Rows.CpuNewsCardSaid := cpuNews.card
#print axioms CpuNews_holds
end Go.Proofs.YtcibifgbnpcpmaaDoor
