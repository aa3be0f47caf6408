/- For every image and input RunKeeps returns true: a run changes neither the image's data nor its code nor the input, and what is written into the trace's memory afterwards doesn't either. No condition. -/
import Derived.Test.YtnpejnjigaalfaaDoorDoorFrame
import Derived.Test.YtnpejnjigaalfaaDoorRunAwake
import Derived.Test.YtnpejnjigaalfaaDoorRunStep
import Derived.Test.YtnpejnjigaalfaaDoorCpuWords
import Derived.WalkKit
import Derived.ProofKit
namespace Go.Proofs.YtnpejnjigaalfaaDoor.runKeeps
open Go.ChangeShapes Go.WideShapes Go.ChangeAt Go.RowKit Go.Deep
set_option linter.unusedVariables false

set_option maxRecDepth 100000 in
theorem rkeeps_early0 (w : World) (ca : Option Addr) (cn cc : Nat) (cf : Nat → Int) (en : Int) (da : Option Addr) (dn dc : Nat) (df : Nat → Int) (wt mo : Int) (a : Option Addr) (n c : Nat) (hz : fineZ en wt mo dn cn = false) (hT : Tab w) :
    Calls Tryd.prog 6 #[.agg (imageV ca cn cc en da dn dc wt mo), .slice a n c] w fun e w' => e = .returned (.bool true) ∧ Below w.heap.size w w' := by
  have HA : Hid (Below w.heap.size w (w.alloc (.cells (imageV ca cn cc en da dn dc wt mo) 25))) := (Below.refl _ w).alloc (Nat.le_refl _) _
  have X0 : Hid (∀ j v, (imageV ca cn cc en da dn dc wt mo)[j]? = some v → (w.alloc (.cells (imageV ca cn cc en da dn dc wt mo) 25)).cell? ⟨w.heap.size, j, none⟩ = some v) := fun j v h => new_cell' w _ _ j v h
  have T1 : Hid (Tab (w.alloc (.cells (imageV ca cn cc en da dn dc wt mo) 25))) := hT.later HA.out
  have FN : Hid (∀ W, Calls Tryd.prog 9 #[.agg (imageV ca cn cc en da dn dc wt mo)] W fun e w' => e = .returned (.bool false) ∧ Below W.heap.size W w') := fun W => by have h := fine_st W ca cn cc en da dn dc wt mo; rwa [hz] at h
  clear hT
  go_enter Tryd.func6, Tryd.ntmps6
  go_upto_region 1 with fail
  generalize (w.alloc (.cells (imageV ca cn cc en da dn dc wt mo) 25)) = w0 at HA X0 T1 ⊢
  go_wp2_with (first
    | (go_at_call 8; revert hb1; intro hb1; refine (awake7 _ (T1.out.later (bnext hb1 hb2))).mono ?_; rintro e w3 ⟨rfl, hb3⟩)
    | (go_at_call 8; refine (awake7 _ T1.out).mono ?_; rintro e w1 ⟨rfl, hb1⟩; have x0 : w1.cell? ⟨w.heap.size, 0, none⟩ = some (.slice ca cn cc) := cell_later' (X0.out 0 _ rfl) hb1; have x1 : w1.cell? ⟨w.heap.size, 1, none⟩ = some (.int .i64 en) := cell_later' (X0.out 1 _ rfl) hb1; have x2 : w1.cell? ⟨w.heap.size, 2, none⟩ = some (.slice da dn dc) := cell_later' (X0.out 2 _ rfl) hb1; have x3 : w1.cell? ⟨w.heap.size, 3, none⟩ = some (.int .i64 wt) := cell_later' (X0.out 3 _ rfl) hb1; have x4 : w1.cell? ⟨w.heap.size, 4, none⟩ = some (.int .i64 mo) := cell_later' (X0.out 4 _ rfl) hb1)
    | (go_at_call 9; refine (FN.out _).mono ?_; rintro e w2 ⟨rfl, hb2⟩))
  go_ret
  exact ⟨rfl, bnext (bnext (bnext HA.out hb1) hb2) hb3⟩
set_option maxRecDepth 100000 in
theorem rkeeps_early1 (w : World) (ca : Option Addr) (cn cc : Nat) (cf : Nat → Int) (en : Int) (da : Option Addr) (dn dc : Nat) (df : Nat → Int) (wt mo : Int) (a : Option Addr) (n c : Nat) (hz : fineZ en wt mo dn cn = true) (hn : 200 < n) (hT : Tab w) :
    Calls Tryd.prog 6 #[.agg (imageV ca cn cc en da dn dc wt mo), .slice a n c] w fun e w' => e = .returned (.bool true) ∧ Below w.heap.size w w' := by
  have g1 : decide ((n : Int) > 200) = true := by simp; omega
  have g2 : decide (200 < n) = true := by simp; omega
  have HA : Hid (Below w.heap.size w (w.alloc (.cells (imageV ca cn cc en da dn dc wt mo) 25))) := (Below.refl _ w).alloc (Nat.le_refl _) _
  have X0 : Hid (∀ j v, (imageV ca cn cc en da dn dc wt mo)[j]? = some v → (w.alloc (.cells (imageV ca cn cc en da dn dc wt mo) 25)).cell? ⟨w.heap.size, j, none⟩ = some v) := fun j v h => new_cell' w _ _ j v h
  have T1 : Hid (Tab (w.alloc (.cells (imageV ca cn cc en da dn dc wt mo) 25))) := hT.later HA.out
  have FN : Hid (∀ W, Calls Tryd.prog 9 #[.agg (imageV ca cn cc en da dn dc wt mo)] W fun e w' => e = .returned (.bool true) ∧ Below W.heap.size W w') := fun W => by have h := fine_st W ca cn cc en da dn dc wt mo; rwa [hz] at h
  clear hT
  go_enter Tryd.func6, Tryd.ntmps6
  go_upto_region 1 with fail
  generalize (w.alloc (.cells (imageV ca cn cc en da dn dc wt mo) 25)) = w0 at HA X0 T1 ⊢
  go_wp2_with (first
    | (go_at_call 8; revert hb1; intro hb1; refine (awake7 _ (T1.out.later (bnext hb1 hb2))).mono ?_; rintro e w3 ⟨rfl, hb3⟩)
    | (go_at_call 8; refine (awake7 _ T1.out).mono ?_; rintro e w1 ⟨rfl, hb1⟩; have x0 : w1.cell? ⟨w.heap.size, 0, none⟩ = some (.slice ca cn cc) := cell_later' (X0.out 0 _ rfl) hb1; have x1 : w1.cell? ⟨w.heap.size, 1, none⟩ = some (.int .i64 en) := cell_later' (X0.out 1 _ rfl) hb1; have x2 : w1.cell? ⟨w.heap.size, 2, none⟩ = some (.slice da dn dc) := cell_later' (X0.out 2 _ rfl) hb1; have x3 : w1.cell? ⟨w.heap.size, 3, none⟩ = some (.int .i64 wt) := cell_later' (X0.out 3 _ rfl) hb1; have x4 : w1.cell? ⟨w.heap.size, 4, none⟩ = some (.int .i64 mo) := cell_later' (X0.out 4 _ rfl) hb1)
    | (go_at_call 9; refine (FN.out _).mono ?_; rintro e w2 ⟨rfl, hb2⟩))
  go_ret
  exact ⟨rfl, bnext (bnext (bnext HA.out hb1) hb2) hb3⟩
set_option maxRecDepth 100000 in
set_option maxHeartbeats 2000000 in
theorem rkeeps_main (w : World) (ca : Option Addr) (cn cc : Nat) (cf : Nat → Int) (en : Int) (da : Option Addr) (dn dc : Nat) (df : Nat → Int) (wt : Int) (mo : Nat) (a : Option Addr) (n c : Nat) (f : Nat → Int) (hz : fineZ en wt mo dn cn = true) (hn : n ≤ 200)
    (hc : Head ca cn cc) (hd : Head da dn dc) (hh : Head a n c) (hC : RowK .u32 w ca cn cf) (hD : Bytes w da dn df) (hN : Bytes w a n f) (hT : Tab w) :
    Calls Tryd.prog 6 #[.agg (imageV ca cn cc en da dn dc wt (mo : Int)), .slice a n c] w fun e w' => e = .returned (.bool true) ∧ Below w.heap.size w w' := by
  have hfz := hz
  unfold fineZ at hfz
  rw [decide_eq_true_eq] at hfz
  obtain ⟨e0, t0, -, e1, t1, m1, d1, c1⟩ := hfz
  have g1 : decide ((n : Int) > 200) = false := by simp; omega
  have g2 : decide (200 < n) = false := by simp; omega
  have hF : Fit 0 (newZ en dn df wt mo n f) := fit_new en dn df wt mo n f ⟨e0, e1⟩ ⟨t0, t1⟩ (by omega) (by omega) hD.1 hN.1
  have HA : Hid (Below w.heap.size w (w.alloc (.cells (imageV ca cn cc en da dn dc wt (mo : Int)) 25))) := (Below.refl _ w).alloc (Nat.le_refl _) _
  have X0 : Hid (∀ j v, (imageV ca cn cc en da dn dc wt (mo : Int))[j]? = some v → (w.alloc (.cells (imageV ca cn cc en da dn dc wt (mo : Int)) 25)).cell? ⟨w.heap.size, j, none⟩ = some v) := fun j v h => new_cell' w _ _ j v h
  have T1 : Hid (Tab (w.alloc (.cells (imageV ca cn cc en da dn dc wt (mo : Int)) 25))) := hT.later HA.out
  have FN : Hid (∀ W, Calls Tryd.prog 9 #[.agg (imageV ca cn cc en da dn dc wt (mo : Int))] W fun e w' => e = .returned (.bool true) ∧ Below W.heap.size W w') := fun W => by have h := fine_st W ca cn cc en da dn dc wt (mo : Int); rwa [hz] at h
  have FD : Hid (Bytes w da dn df) := hD
  have FNN : Hid (Bytes w a n f) := hN
  have FC : Hid (RowK .u32 w ca cn cf) := hC
  obtain ⟨T, eT⟩ : ∃ T, itY cn cf (newZ en dn df wt mo n f) 50 = T := ⟨_, rfl⟩
  obtain ⟨N, eN⟩ : ∃ N, cntY cn cf (newZ en dn df wt mo n f) 50 = N := ⟨_, rfl⟩
  have FT : Fit (0 + 50) T := by rw [← eT]; exact fit_it hF (by omega) 50
  have ft1 := FT.mn
  clear FT hF
  clear hT
  go_enter Tryd.func6, Tryd.ntmps6
  go_upto_region 1 with fail
  generalize (w.alloc (.cells (imageV ca cn cc en da dn dc wt (mo : Int)) 25)) = w0 at HA X0 T1 ⊢
  have DO : Hid (∀ W, Below w0.heap.size w0 W → Calls Tryd.prog 10 #[.agg (imageV ca cn cc en da dn dc wt (mo : Int)), .slice a n c, .int .i64 50] W fun e w' => ∃ oa oc ma mc, e = .returned (.agg (traceV oa T.on_ oc T.en T.cd T.ft ma T.mn mc (N : Int))) ∧
      (Head ma T.mn mc ∧ (T.mn = 0 ∨ ∃ g, ma = some ⟨g, 0, none⟩ ∧ W.heap.size ≤ g ∧ RowB w' g T.mn T.mf)) ∧ Below W.heap.size W w') := fun W hW => by
    have h := do_st W ca cn cc cf en da dn dc df wt mo a n c f 50 (by omega) (by omega) (by omega) (by omega) (by omega) (by omega) (by omega) hc hd hh (FC.out.later (bnext HA.out hW)) (FD.out.later (bnext HA.out hW)) (FNN.out.later (bnext HA.out hW)) (T1.out.later hW)
    rw [show (50 : Int).toNat = 50 from rfl, eT, eN] at h
    refine h.mono ?_
    rintro e w' ⟨oa, oc, ma, mc, h1, h2, ⟨h3, h4, h5⟩, h6⟩
    exact ⟨oa, oc, ma, mc, h1, ⟨h3, h4⟩, h6⟩
  clear hC hD hN eT eN
  go_upto_region 3 with (first
    | (go_at_call 8; refine (awake7 _ T1.out).mono ?_; rintro e w1 ⟨rfl, hb1⟩; have x0 : w1.cell? ⟨w.heap.size, 0, none⟩ = some (.slice ca cn cc) := cell_later' (X0.out 0 _ rfl) hb1; have x1 : w1.cell? ⟨w.heap.size, 1, none⟩ = some (.int .i64 en) := cell_later' (X0.out 1 _ rfl) hb1; have x2 : w1.cell? ⟨w.heap.size, 2, none⟩ = some (.slice da dn dc) := cell_later' (X0.out 2 _ rfl) hb1; have x3 : w1.cell? ⟨w.heap.size, 3, none⟩ = some (.int .i64 wt) := cell_later' (X0.out 3 _ rfl) hb1; have x4 : w1.cell? ⟨w.heap.size, 4, none⟩ = some (.int .i64 (mo : Int)) := cell_later' (X0.out 4 _ rfl) hb1)
    | (go_at_call 9; refine (FN.out _).mono ?_; rintro e w2 ⟨rfl, hb2⟩; have z0 := cell_later' x0 hb2; have z1 := cell_later' x1 hb2; have z2 := cell_later' x2 hb2; have z3 := cell_later' x3 hb2; have z4 := cell_later' x4 hb2))
  have Q2 : Hid (Below w0.heap.size w0 w2) := bnext hb1 hb2
  have L2 : w.heap.size < w2.heap.size := World.block_lt_of_cell? w2 ⟨w.heap.size, 0, none⟩ z0
  clear x0 x1 x2 x3 x4 hb1 hb2
  have HR1 : Hid (∀ ad, da = some ad → ∀ j u, (cellsK .u8 dn df)[j]? = some u → w2.cell? (ad.add j) = some u) := bytes_cells (FD.out.later (bnext HA.out Q2.out))
  go_upto_region 4 with (at_builtin; refine wpList_append_fresh w2 rfl (.tmp 23) (.tmp 25) 23 rfl 5 (.int .u8 0) 1 Tryd.underlying23 infoB rfl rfl da dn dc (cellsK .u8 dn df) rfl (cellsK_len _ _ _) (head_nil hd) HR1.out (cellsK_one _ _ _) (by unfold maxLen; omega) (by omega) ?_; intro a3 c3 w3 own3 hb3)
  have Q3 : Hid (Below w0.heap.size w0 w3) := bnext Q2.out hb3
  have O3 : Hid (Bytes w3 a3 dn df) := (own_bytes own3 FD.out.1).2
  have L3 : w.heap.size < w3.heap.size := Nat.lt_of_lt_of_le L2 hb3.size
  clear z0 z1 z2 z3 z4 own3 hb3 HR1 Q2 L2
  have x0 : w3.cell? ⟨w.heap.size, 0, none⟩ = some (.slice ca cn cc) := cell_later' (X0.out 0 _ rfl) Q3.out
  have x1 : w3.cell? ⟨w.heap.size, 1, none⟩ = some (.int .i64 en) := cell_later' (X0.out 1 _ rfl) Q3.out
  have x2 : w3.cell? ⟨w.heap.size, 2, none⟩ = some (.slice da dn dc) := cell_later' (X0.out 2 _ rfl) Q3.out
  have x3 : w3.cell? ⟨w.heap.size, 3, none⟩ = some (.int .i64 wt) := cell_later' (X0.out 3 _ rfl) Q3.out
  have x4 : w3.cell? ⟨w.heap.size, 4, none⟩ = some (.int .i64 mo) := cell_later' (X0.out 4 _ rfl) Q3.out
  have HR2 : Hid (∀ ad, ca = some ad → ∀ j u, (cellsK .u32 cn cf)[j]? = some u → w3.cell? (ad.add j) = some u) := row_cells (FC.out.later (bnext HA.out Q3.out))
  go_upto_region 5 with (at_builtin; refine wpList_append_fresh w3 rfl (.tmp 27) (.tmp 29) 22 rfl 28 (.int .u32 0) 4 Tryd.underlying22 infoW rfl rfl ca cn cc (cellsK .u32 cn cf) rfl (cellsK_len _ _ _) (head_nil hc) HR2.out (cellsK_one _ _ _) (by unfold maxLen; omega) (by omega) ?_; intro a4 c4 w4 own4 hb4)
  have Q4 : Hid (Below w0.heap.size w0 w4) := bnext Q3.out hb4
  have O4 : Hid (RowK .u32 w4 a4 cn cf) := (own_ints own4 FC.out.1).2
  have O34 : Hid (Bytes w4 a3 dn df) := O3.out.later hb4
  have L4 : w.heap.size < w4.heap.size := Nat.lt_of_lt_of_le L3 hb4.size
  clear x0 x1 x2 x3 x4 own4 hb4 HR2 Q3 L3 O3
  have x0 : w4.cell? ⟨w.heap.size, 0, none⟩ = some (.slice ca cn cc) := cell_later' (X0.out 0 _ rfl) Q4.out
  have x1 : w4.cell? ⟨w.heap.size, 1, none⟩ = some (.int .i64 en) := cell_later' (X0.out 1 _ rfl) Q4.out
  have x2 : w4.cell? ⟨w.heap.size, 2, none⟩ = some (.slice da dn dc) := cell_later' (X0.out 2 _ rfl) Q4.out
  have x3 : w4.cell? ⟨w.heap.size, 3, none⟩ = some (.int .i64 wt) := cell_later' (X0.out 3 _ rfl) Q4.out
  have x4 : w4.cell? ⟨w.heap.size, 4, none⟩ = some (.int .i64 mo) := cell_later' (X0.out 4 _ rfl) Q4.out
  have HR3 : Hid (∀ ad, a = some ad → ∀ j u, (cellsK .u8 n f)[j]? = some u → w4.cell? (ad.add j) = some u) := bytes_cells (FNN.out.later (bnext HA.out Q4.out))
  go_upto_region 6 with (at_builtin; refine wpList_append_fresh w4 rfl (.tmp 31) (.tmp 32) 23 rfl 5 (.int .u8 0) 1 Tryd.underlying23 infoB rfl rfl a n c (cellsK .u8 n f) rfl (cellsK_len _ _ _) (head_nil hh) HR3.out (cellsK_one _ _ _) (by unfold maxLen; omega) (by omega) ?_; intro a5 c5 w5 own5 hb5)
  have Q5 : Hid (Below w0.heap.size w0 w5) := bnext Q4.out hb5
  have O5 : Hid (Bytes w5 a5 n f) := (own_bytes own5 FNN.out.1).2
  have O45 : Hid (RowK .u32 w5 a4 cn cf) := O4.out.later hb5
  have O35 : Hid (Bytes w5 a3 dn df) := O34.out.later hb5
  clear x0 x1 x2 x3 x4 own5 hb5 HR3 Q4 L4 O4 O34
  have x0 : w5.cell? ⟨w.heap.size, 0, none⟩ = some (.slice ca cn cc) := cell_later' (X0.out 0 _ rfl) Q5.out
  have x1 : w5.cell? ⟨w.heap.size, 1, none⟩ = some (.int .i64 en) := cell_later' (X0.out 1 _ rfl) Q5.out
  have x2 : w5.cell? ⟨w.heap.size, 2, none⟩ = some (.slice da dn dc) := cell_later' (X0.out 2 _ rfl) Q5.out
  have x3 : w5.cell? ⟨w.heap.size, 3, none⟩ = some (.int .i64 wt) := cell_later' (X0.out 3 _ rfl) Q5.out
  have x4 : w5.cell? ⟨w.heap.size, 4, none⟩ = some (.int .i64 mo) := cell_later' (X0.out 4 _ rfl) Q5.out
  go_upto_region 7 with (go_at_call 10; refine (DO.out _ Q5.out).mono ?_; rintro e w6 ⟨oa, oc, ma, mc, rfl, hm, hb6⟩)
  have bb : Below w6.heap.size w6 (w6.alloc (.cells (traceV oa T.on_ oc T.en T.cd T.ft ma T.mn mc (N : Int)) 30)) := (Below.refl _ _).alloc (Nat.le_refl _) _
  have Q57 : Hid (Below w5.heap.size w5 (w6.alloc (.cells (traceV oa T.on_ oc T.en T.cd T.ft ma T.mn mc (N : Int)) 30))) := bnext hb6 bb
  have t4 : (w6.alloc (.cells (traceV oa T.on_ oc T.en T.cd T.ft ma T.mn mc (N : Int)) 30)).cell? ⟨w6.heap.size, 4, none⟩ = some (.slice ma T.mn mc) := new_cell' w6 _ _ 4 _ rfl
  have HM : Hid (T.mn = 0 ∨ ∃ g, ma = some ⟨g, 0, none⟩ ∧ w5.heap.size ≤ g ∧ g < w6.heap.size ∧ RowB (w6.alloc (.cells (traceV oa T.on_ oc T.en T.cd T.ft ma T.mn mc (N : Int)) 30)) g T.mn T.mf) := hm.2.imp id fun ⟨g, e, h1, h2⟩ => ⟨g, e, h1, h2.2.2, h2.later bb⟩
  have HH : Hid (Head ma T.mn mc) := hm.1
  clear bb hm hb6 x0 x1 x2 x3 x4 DO
  generalize w6.heap.size = g8 at t4 HM ⊢
  generalize w6.alloc (.cells (traceV oa T.on_ oc T.en T.cd T.ft ma T.mn mc (N : Int)) 30) = w7 at Q57 t4 HM ⊢
  have x0 : w5.cell? ⟨w.heap.size, 0, none⟩ = some (.slice ca cn cc) := cell_later' (X0.out 0 _ rfl) Q5.out
  have x2 : w5.cell? ⟨w.heap.size, 2, none⟩ = some (.slice da dn dc) := cell_later' (X0.out 2 _ rfl) Q5.out
  have D5 : Hid (Bytes w5 da dn df) := FD.out.later (bnext HA.out Q5.out)
  have N5 : Hid (Bytes w5 a n f) := FNN.out.later (bnext HA.out Q5.out)
  have C5 : Hid (RowK .u32 w5 ca cn cf) := FC.out.later (bnext HA.out Q5.out)
  have HL : Hid (w.heap.size < w5.heap.size) := World.block_lt_of_cell? w5 ⟨w.heap.size, 0, none⟩ x0
  clear FD FNN FC
  obtain h0 | ⟨g, rfl, hg, hgl, hR⟩ := HM.out
  · rw [h0] at t4
    have T4 : Hid (w7.cell? ⟨g8, 4, none⟩ = some (.slice ma 0 mc)) := t4
    clear HM HH t4
    go_wp2
    go_loopw [9] (fun i wr => i = .int .i64 0 ∧ wr.cell? ⟨g8, 4, none⟩ = some (.slice ma 0 mc) ∧ Below w5.heap.size w5 wr) (fun i _ => 0)
    case atStart => exact ⟨rfl, T4.out, Q57.out⟩
    case round =>
      obtain ⟨rfl, t4, hbel⟩ := hrel
      have HBr : Hid (Below w5.heap.size w5 wr) := hbel
      clear hbel Q57 T4
      have y0 := cell_later' x0 HBr.out
      have y2 := cell_later' x2 HBr.out
      have SD : Hid (∀ W, Below wr.heap.size wr W → Calls Tryd.prog 14 #[.slice da dn dc, .slice a3 dn c3] W fun e w' => e = .returned (.bool true) ∧ Below W.heap.size W w') := fun W hW => by
        have h := bytes_eq W da a3 dn dn dc c3 df df (by omega) (by omega) ((D5.out.later HBr.out).later hW) ((O35.out.later HBr.out).later hW)
        rwa [eqB_self] at h
      have SC : Hid (∀ W, Below wr.heap.size wr W → Calls Tryd.prog 18 #[.slice ca cn cc, .slice a4 cn c4] W fun e w' => e = .returned (.bool true) ∧ Below W.heap.size W w') := fun W hW => words_same W ca a4 cn cc c4 cf (by omega) ((C5.out.later HBr.out).later hW) ((O45.out.later HBr.out).later hW)
      have SN : Hid (∀ W, Below wr.heap.size wr W → Calls Tryd.prog 14 #[.slice a n c, .slice a5 n c5] W fun e w' => e = .returned (.bool true) ∧ Below W.heap.size W w') := fun W hW => by
        have h := bytes_eq W a a5 n n c c5 f f (by omega) (by omega) ((N5.out.later HBr.out).later hW) ((O5.out.later HBr.out).later hW)
        rwa [eqB_self] at h
      clear D5 N5 C5 O35 O45 O5 x0 x2
      go_wp2_with (first
        | (go_at_call 14; revert hb9; intro hb9; refine (SN.out _ (bnext hb8 hb9)).mono ?_; rintro e w10 ⟨rfl, hb10⟩)
        | (go_at_call 18; refine (SC.out _ hb8).mono ?_; rintro e w9 ⟨rfl, hb9⟩)
        | (go_at_call 14; refine (SD.out _ (Below.refl _ _)).mono ?_; rintro e w8 ⟨rfl, hb8⟩; have y0' := cell_later' y0 hb8; have y2' := cell_later' y2 hb8))
      go_ret
      exact ⟨rfl, bnext (bnext (bnext (bnext (bnext HA.out Q5.out) HBr.out) hb8) hb9) hb10⟩
  · have T4 : Hid (w7.cell? ⟨g8, 4, none⟩ = some (.slice (some ⟨g, 0, none⟩) T.mn mc)) := t4
    have HR : Hid (∀ q, q < T.mn → ∃ v : Int, w7.cell? ⟨g, q, none⟩ = some (.int .u8 v)) := fun q hq => ⟨_, hR.1 q hq⟩
    have HF : Hid (∀ q, w7.frozen? ⟨g, q, none⟩ = false) := hR.2.1
    have hGN : g8 ≠ g := by omega
    generalize hmn : T.mn = K at T4 HR ft1 HH
    have hmc : K ≤ mc := HH.out.1
    clear HM HH t4 hR
    go_wp2
    go_loopw [9] (fun t wr => ∃ j : Nat, j ≤ K ∧ t = .int .i64 j ∧ Below w5.heap.size w5 wr ∧ wr.cell? ⟨g8, 4, none⟩ = some (.slice (some ⟨g, 0, none⟩) K mc) ∧ (∀ q, q < K → ∃ v : Int, wr.cell? ⟨g, q, none⟩ = some (.int .u8 v)) ∧ (∀ q, wr.frozen? ⟨g, q, none⟩ = false)) (fun t _ => K - (intOf t).toNat)
    case atStart => exact ⟨0, Nat.zero_le _, rfl, Q57.out, T4.out, HR.out, HF.out⟩
    case round =>
      obtain ⟨j, hj, rfl, hbel, hN, hrow, hfz⟩ := hrel
      have HBr : Hid (Below w5.heap.size w5 wr) := hbel
      have HNr : Hid (wr.cell? ⟨g8, 4, none⟩ = some (.slice (some ⟨g, 0, none⟩) K mc)) := hN
      have HRr : Hid (∀ q, q < K → ∃ v : Int, wr.cell? ⟨g, q, none⟩ = some (.int .u8 v)) := hrow
      have HFr : Hid (∀ q, wr.frozen? ⟨g, q, none⟩ = false) := hfz
      clear Q57 T4 HR HF
      by_cases hlt : j < K
      · obtain ⟨v, gj⟩ := hrow j hlt
        have gf := hfz j
        clear hbel hrow hfz
        go_upto_region 10 with fail
        go_region_with (fail)
        all_goals go_wp2_with fail
        all_goals
          go_roundw
          case rel =>
            refine ⟨j + 1, by omega, by go_num, (HBr.out.setCell (p := ⟨g, j, none⟩) hg _).drew, (World.cell?_setCell_other _ _ _ _ (fun e => hGN (congrArg Addr.block e).symm)).trans HNr.out, fun q hq => ?_, fun q => ?_⟩
            · by_cases e : q = j
              · subst e; exact ⟨_, World.cell?_setCell_same _ _ _ gj⟩
              · obtain ⟨u, hu⟩ := HRr.out q hq
                exact ⟨u, (World.cell?_setCell_other _ _ _ _ (fun h => e (congrArg Addr.off h).symm)).trans hu⟩
            · have h := HFr.out q
              simpa using h
          case measure => simp [intOf]; omega
      · obtain rfl : j = K := by omega
        clear hbel hrow hfz HNr HRr HFr
        have y0 := cell_later' x0 HBr.out
        have y2 := cell_later' x2 HBr.out
        have SD : Hid (∀ W, Below wr.heap.size wr W → Calls Tryd.prog 14 #[.slice da dn dc, .slice a3 dn c3] W fun e w' => e = .returned (.bool true) ∧ Below W.heap.size W w') := fun W hW => by
          have h := bytes_eq W da a3 dn dn dc c3 df df (by omega) (by omega) ((D5.out.later HBr.out).later hW) ((O35.out.later HBr.out).later hW)
          rwa [eqB_self] at h
        have SC : Hid (∀ W, Below wr.heap.size wr W → Calls Tryd.prog 18 #[.slice ca cn cc, .slice a4 cn c4] W fun e w' => e = .returned (.bool true) ∧ Below W.heap.size W w') := fun W hW => words_same W ca a4 cn cc c4 cf (by omega) ((C5.out.later HBr.out).later hW) ((O45.out.later HBr.out).later hW)
        have SN : Hid (∀ W, Below wr.heap.size wr W → Calls Tryd.prog 14 #[.slice a n c, .slice a5 n c5] W fun e w' => e = .returned (.bool true) ∧ Below W.heap.size W w') := fun W hW => by
          have h := bytes_eq W a a5 n n c c5 f f (by omega) (by omega) ((N5.out.later HBr.out).later hW) ((O5.out.later HBr.out).later hW)
          rwa [eqB_self] at h
        clear D5 N5 C5 O35 O45 O5 x0 x2
        go_wp2_with (first
          | (go_at_call 14; revert hb9; intro hb9; refine (SN.out _ (bnext hb8 hb9)).mono ?_; rintro e w10 ⟨rfl, hb10⟩)
          | (go_at_call 18; refine (SC.out _ hb8).mono ?_; rintro e w9 ⟨rfl, hb9⟩)
          | (go_at_call 14; refine (SD.out _ (Below.refl _ _)).mono ?_; rintro e w8 ⟨rfl, hb8⟩; have y0' := cell_later' y0 hb8; have y2' := cell_later' y2 hb8))
        go_ret
        exact ⟨rfl, bnext (bnext (bnext (bnext (bnext HA.out Q5.out) HBr.out) hb8) hb9) hb10⟩
theorem walk (w : World) (ca : Option Addr) (cn cc : Nat) (cf : Nat → Int) (en : Int) (da : Option Addr) (dn dc : Nat) (df : Nat → Int) (wt mo : Int)
    (hm : (cn ≤ cc ∧ cc ≤ maxLen ∧ (ca = none → cc = 0) ∧ RowK .u32 w ca cn cf) ∧ (Lit.int .i64 en).wf = true ∧ (dn ≤ dc ∧ dc ≤ maxLen ∧ (da = none → dc = 0) ∧ Bytes w da dn df) ∧ (Lit.int .i64 wt).wf = true ∧ (Lit.int .i64 mo).wf = true)
    (a : Option Addr) (n c : Nat) (f : Nat → Int) (h0 : n ≤ c ∧ c ≤ maxLen ∧ (a = none → c = 0) ∧ RowK .u8 w a n f) (hT : Tab w) :
    Calls Tryd.prog 6 #[.agg #[.slice ca cn cc, .int .i64 en, .slice da dn dc, .int .i64 wt, .int .i64 mo], .slice a n c] w fun e w' => e = .returned (.bool true) ∧ Below w.heap.size w w' := by
  obtain ⟨⟨k1, k2, k3, hC⟩, -, ⟨d1, d2, d3, hD⟩, -, -⟩ := hm
  obtain ⟨hn0, hm0, hnil0, hw⟩ := h0
  have hN : Bytes w a n f := ⟨fun i => wf_u8_bd (hw.1 i), hw.2⟩
  cases hz : fineZ en wt mo dn cn
  · exact rkeeps_early0 w ca cn cc cf en da dn dc df wt mo a n c hz hT
  by_cases hn : 200 < n
  · exact rkeeps_early1 w ca cn cc cf en da dn dc df wt mo a n c hz hn hT
  obtain ⟨mn, rfl⟩ : ∃ mn : Nat, mo = mn := ⟨mo.toNat, by unfold fineZ at hz; rw [decide_eq_true_eq] at hz; omega⟩
  exact rkeeps_main w ca cn cc cf en da dn dc df wt mn a n c f hz (by omega) ⟨k1, k3⟩ ⟨d1, d3⟩ ⟨hn0, hnil0⟩ hC hD hN hT

/-! ### The row's step -/
set_option maxRecDepth 100000 in
theorem lifted (os : Os) (started : os.Started) (H : Type) (enc : TypeId × Value → H) :
    ReturnsInHanded {} Tryd.checked os 6 .any (fun w args => (Rows.runKeepsSpec.pre enc Tryd.prog Tryd.f6 [] false w args ∧ laidMetH Tryd.prog laidL w) ∧ sizedMet enc Tryd.prog Tryd.f6 (OpenSpec.ofChange Rows.runKeepsSpec) false w args)
      (Rows.runKeepsSpec.post enc Tryd.prog Tryd.f6 false true false false) := by
  refine returnsInHanded_of_change_and (C := Tryd.checked) (X := fun w _ => laidMetH Tryd.prog laidL w) (fun _ _ _ hh h => h.of_heap hh) own started (by kernel_rfl) Tryd.func6
    (ChangeSpec.witness_shaped (enc := enc) (C := Tryd.checked) (os := os) (X := fun w _ => laidMetH Tryd.prog laidL w) false (World.doorLaid Tryd.prog 40 os) #[.agg #[.slice none 0 0, .int .i64 0, .slice none 0 0, .int .i64 0, .int .i64 0], .slice none 0 0] 8 rfl (World.shaped_of_RefB (by kernel_rfl) (by kernel_rfl)) (by kernel_rfl) (by kernel_rfl) (by kernel_rfl) (door_met os _)) ?_
  intro W base args ds gs before hval0 hW _ _ hL _
  have hval : ∀ (j : Nat) t v, Tryd.f6.params[j]? = some t → args[j]? = some v → Value.okWide Tryd.prog W .any base t v := hval0
  have hW' := hW
  obtain ⟨p, q, hA0, hV, rfl, hfz, hnd⟩ := hW
  have hA : DataW.TrodAll enc Tryd.prog W 0 (fun _ => true) true Tryd.f6.params.toList args.toList ds p := hA0
  rw [Tryd.params6] at hA hval
  obtain ⟨v0, vs0, d0, ds0, p0, q0, hargs, rfl, rfl, h0, r0⟩ := trodAll_cons hA
  obtain ⟨v1, vs1, d1, ds1, p1, q1, rfl, rfl, rfl, h1, r1⟩ := trodAll_cons r0
  obtain ⟨rfl, rfl, rfl⟩ := trodAll_nil r1
  obtain rfl : args = #[v0, v1] := by cases args; simp_all
  obtain ⟨rfl, rfl⟩ := trodVars_none hV
  have hT := tab_of hL
  have k0 := h0
  have lt0 : ∀ x ∈ p0, x.block < W.heap.size := by obtain ⟨m, hm⟩ := k0; exact DataW.trod_lt m _ _ _ hm
  obtain ⟨vca0, vcn0, vcc0, vcf0, ven0, vda0, vdn0, vdc0, vdf0, vwt0, vmo0, rfl, w0⟩ := open_image (hval 0 25 v0 rfl rfl) h0
  have k1 := h1
  have lt1 : ∀ x ∈ p1, x.block < W.heap.size := by obtain ⟨m, hm⟩ := k1; exact DataW.trod_lt m _ _ _ hm
  obtain ⟨va1, vn1, vc1, vf1, rfl, w1⟩ := open_sl Tryd.underlying23 Tryd.underlying5 (by kernel_rfl) (hval 1 23 v1 rfl rfl) h1
  clear hA0 hval0
  refine (walk W vca0 vcn0 vcc0 vcf0 ven0 vda0 vdn0 vdc0 vdf0 vwt0 vmo0 w0 va1 vn1 vc1 vf1 w1 hT).mono fun e W' ⟨he, bel⟩ => ?_
  subst he
  exact ⟨_, rfl, _, _, _, [], _, [], hW', trodAll_mk1 (shut_bool Tryd.underlying4 _), (trodAll_cons_mk (Below.trod laidOut (by kernel_rfl) (of_decide_eq_true (by kernel_rfl)) k0 bel lt0) (trodAll_cons_mk (Below.trod laidOut (by kernel_rfl) (of_decide_eq_true (by kernel_rfl)) k1 bel lt1) trodAll_mk0)), rfl, bel.frame _, fun h => by cases h⟩

theorem over : Rows.RunKeepsSaid :=
  OpenClaim.holds_of_wide 6 Tryd.f6 rfl rfl rfl rfl rfl rfl rfl ⟨rfl, rfl, rfl, rfl, rfl⟩ rfl rfl rfl rfl rfl (by kernel_rfl) Tryd.func6 (by kernel_rfl)
    (of_decide_eq_true (by kernel_rfl)) (by unfold Func.isWrapper; first | (rw [if_pos (by decide +kernel)]; kernel_rfl) | (rw [if_neg (by decide +kernel)]; exact ⟨rfl, rfl⟩))
    (fun os started H enc _ => lifted os started H enc)

/-- The tied card. -/
theorem card : Rows.RunKeepsCardSaid :=
  Claim7.holds_tied_plain_at .later [] [.data] true (true, "c72f633930f7a357c4a2a2024328d705ae8589c9b4b8ffd14eafe99737a9bc53") false
    over (fun _ h => by cases h) (by kernel_rfl) (fun _ h => by cases h) runKeeps_row_tie rfl ⟨rfl, rfl⟩ (by kernel_rfl) rfl
    (fun f fn hf hfn => by
      obtain rfl : f = 6 := Option.some.inj ((show Tryd.prog.funcNamed "splice/splicelaw07.RunKeeps" = some 6 by kernel_rfl).symm.trans hf) |>.symm
      obtain rfl : fn = Tryd.f6 := (Option.some.inj (Tryd.func6.symm.trans hfn)).symm
      exact ⟨by kernel_rfl, fun j t ht => by
        rw [Tryd.params6] at ht
        have hm : t ∈ [25, 23] := by simpa using Array.mem_of_getElem? ht
        have hall : ([25, 23].all fun u => !Tryd.prog.wantsStandIn u) = true := by kernel_rfl
        exact (show Tryd.prog.wantsStandIn t = false by simpa using List.all_eq_true.1 hall t hm)⟩)
    (by kernel_rfl)
end Go.Proofs.YtnpejnjigaalfaaDoor.runKeeps

namespace Go.Proofs.YtnpejnjigaalfaaDoor
theorem RunKeeps_holds : Rows.RunKeepsCardSaid := runKeeps.card
#print axioms RunKeeps_holds
end Go.Proofs.YtnpejnjigaalfaaDoor
