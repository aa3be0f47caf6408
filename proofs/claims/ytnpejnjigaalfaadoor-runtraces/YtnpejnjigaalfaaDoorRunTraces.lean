/- For every image and input and all fuel RunTraces returns true: of an image that may be and is small, 200 bytes of input and 2000 steps at most, the code's trace is what the document's own steps come to: its output, whether it ended, its number and fault, its memory, and how many steps were done; of any other true too. No condition. -/
import Derived.Test.YtnpejnjigaalfaaDoorDoorFrame
import Derived.Test.YtnpejnjigaalfaaDoorRunAwake
import Derived.Test.YtnpejnjigaalfaaDoorRunStep
import Derived.WalkKit
import Derived.ProofKit
namespace Go.Proofs.YtnpejnjigaalfaaDoor.runTraces
open Go.ChangeShapes Go.WideShapes Go.ChangeAt Go.RowKit Go.Deep
set_option linter.unusedVariables false

set_option maxRecDepth 100000 in
theorem traces_early0 (w : World) (ca : Option Addr) (cn cc : Nat) (cf : Nat → Int) (en : Int) (da : Option Addr) (dn dc : Nat) (df : Nat → Int) (wt mo : Int) (a : Option Addr) (n c : Nat) (k : Int) (hz : fineZ en wt mo dn cn = false) (hT : Tab w) :
    Calls Tryd.prog 3 #[.agg (imageV ca cn cc en da dn dc wt mo), .slice a n c, .int .i64 k] w fun e w' => e = .returned (.bool true) ∧ Below w.heap.size w w' := by
  have HA : Hid (Below w.heap.size w (w.alloc (.cells (imageV ca cn cc en da dn dc wt mo) 25))) := (Below.refl _ w).alloc (Nat.le_refl _) _
  have X0 : Hid (∀ j v, (imageV ca cn cc en da dn dc wt mo)[j]? = some v → (w.alloc (.cells (imageV ca cn cc en da dn dc wt mo) 25)).cell? ⟨w.heap.size, j, none⟩ = some v) := fun j v h => new_cell' w _ _ j v h
  have T1 : Hid (Tab (w.alloc (.cells (imageV ca cn cc en da dn dc wt mo) 25))) := hT.later HA.out
  have FN : Hid (∀ W, Calls Tryd.prog 9 #[.agg (imageV ca cn cc en da dn dc wt mo)] W fun e w' => e = .returned (.bool false) ∧ Below W.heap.size W w') := fun W => by have h := fine_st W ca cn cc en da dn dc wt mo; rwa [hz] at h
  clear hT
  go_enter Tryd.func3, Tryd.ntmps3
  go_upto_region 1 with fail
  generalize (w.alloc (.cells (imageV ca cn cc en da dn dc wt mo) 25)) = w0 at HA X0 T1 ⊢
  go_wp2_with (first
    | (go_at_call 8; revert hb1; intro hb1; refine (awake7 _ (T1.out.later (bnext hb1 hb2))).mono ?_; rintro e w3 ⟨rfl, hb3⟩)
    | (go_at_call 8; refine (awake7 _ T1.out).mono ?_; rintro e w1 ⟨rfl, hb1⟩; have x0 : w1.cell? ⟨w.heap.size, 0, none⟩ = some (.slice ca cn cc) := cell_later' (X0.out 0 _ rfl) hb1; have x1 : w1.cell? ⟨w.heap.size, 1, none⟩ = some (.int .i64 en) := cell_later' (X0.out 1 _ rfl) hb1; have x2 : w1.cell? ⟨w.heap.size, 2, none⟩ = some (.slice da dn dc) := cell_later' (X0.out 2 _ rfl) hb1; have x3 : w1.cell? ⟨w.heap.size, 3, none⟩ = some (.int .i64 wt) := cell_later' (X0.out 3 _ rfl) hb1; have x4 : w1.cell? ⟨w.heap.size, 4, none⟩ = some (.int .i64 mo) := cell_later' (X0.out 4 _ rfl) hb1)
    | (go_at_call 9; refine (FN.out _).mono ?_; rintro e w2 ⟨rfl, hb2⟩))
  go_ret
  exact ⟨rfl, bnext (bnext (bnext HA.out hb1) hb2) hb3⟩
set_option maxRecDepth 100000 in
theorem traces_early1 (w : World) (ca : Option Addr) (cn cc : Nat) (cf : Nat → Int) (en : Int) (da : Option Addr) (dn dc : Nat) (df : Nat → Int) (wt mo : Int) (a : Option Addr) (n c : Nat) (k : Int) (hz : fineZ en wt mo dn cn = true) (hn : 200 < n) (hT : Tab w) :
    Calls Tryd.prog 3 #[.agg (imageV ca cn cc en da dn dc wt mo), .slice a n c, .int .i64 k] w fun e w' => e = .returned (.bool true) ∧ Below w.heap.size w w' := by
  have g1 : decide ((n : Int) > 200) = true := by simp; omega
  have g2 : decide (200 < n) = true := by simp; omega
  have HA : Hid (Below w.heap.size w (w.alloc (.cells (imageV ca cn cc en da dn dc wt mo) 25))) := (Below.refl _ w).alloc (Nat.le_refl _) _
  have X0 : Hid (∀ j v, (imageV ca cn cc en da dn dc wt mo)[j]? = some v → (w.alloc (.cells (imageV ca cn cc en da dn dc wt mo) 25)).cell? ⟨w.heap.size, j, none⟩ = some v) := fun j v h => new_cell' w _ _ j v h
  have T1 : Hid (Tab (w.alloc (.cells (imageV ca cn cc en da dn dc wt mo) 25))) := hT.later HA.out
  have FN : Hid (∀ W, Calls Tryd.prog 9 #[.agg (imageV ca cn cc en da dn dc wt mo)] W fun e w' => e = .returned (.bool true) ∧ Below W.heap.size W w') := fun W => by have h := fine_st W ca cn cc en da dn dc wt mo; rwa [hz] at h
  clear hT
  go_enter Tryd.func3, Tryd.ntmps3
  go_upto_region 1 with fail
  generalize (w.alloc (.cells (imageV ca cn cc en da dn dc wt mo) 25)) = w0 at HA X0 T1 ⊢
  go_wp2_with (first
    | (go_at_call 8; revert hb1; intro hb1; refine (awake7 _ (T1.out.later (bnext hb1 hb2))).mono ?_; rintro e w3 ⟨rfl, hb3⟩)
    | (go_at_call 8; refine (awake7 _ T1.out).mono ?_; rintro e w1 ⟨rfl, hb1⟩; have x0 : w1.cell? ⟨w.heap.size, 0, none⟩ = some (.slice ca cn cc) := cell_later' (X0.out 0 _ rfl) hb1; have x1 : w1.cell? ⟨w.heap.size, 1, none⟩ = some (.int .i64 en) := cell_later' (X0.out 1 _ rfl) hb1; have x2 : w1.cell? ⟨w.heap.size, 2, none⟩ = some (.slice da dn dc) := cell_later' (X0.out 2 _ rfl) hb1; have x3 : w1.cell? ⟨w.heap.size, 3, none⟩ = some (.int .i64 wt) := cell_later' (X0.out 3 _ rfl) hb1; have x4 : w1.cell? ⟨w.heap.size, 4, none⟩ = some (.int .i64 mo) := cell_later' (X0.out 4 _ rfl) hb1)
    | (go_at_call 9; refine (FN.out _).mono ?_; rintro e w2 ⟨rfl, hb2⟩))
  go_ret
  exact ⟨rfl, bnext (bnext (bnext HA.out hb1) hb2) hb3⟩
set_option maxRecDepth 100000 in
theorem traces_early2 (w : World) (ca : Option Addr) (cn cc : Nat) (cf : Nat → Int) (en : Int) (da : Option Addr) (dn dc : Nat) (df : Nat → Int) (wt mo : Int) (a : Option Addr) (n c : Nat) (k : Int) (hz : fineZ en wt mo dn cn = true) (hn : n ≤ 200) (hk : 2000 < k) (hT : Tab w) :
    Calls Tryd.prog 3 #[.agg (imageV ca cn cc en da dn dc wt mo), .slice a n c, .int .i64 k] w fun e w' => e = .returned (.bool true) ∧ Below w.heap.size w w' := by
  have g1 : decide ((n : Int) > 200) = false := by simp; omega
  have g2 : decide (200 < n) = false := by simp; omega
  have HA : Hid (Below w.heap.size w (w.alloc (.cells (imageV ca cn cc en da dn dc wt mo) 25))) := (Below.refl _ w).alloc (Nat.le_refl _) _
  have X0 : Hid (∀ j v, (imageV ca cn cc en da dn dc wt mo)[j]? = some v → (w.alloc (.cells (imageV ca cn cc en da dn dc wt mo) 25)).cell? ⟨w.heap.size, j, none⟩ = some v) := fun j v h => new_cell' w _ _ j v h
  have T1 : Hid (Tab (w.alloc (.cells (imageV ca cn cc en da dn dc wt mo) 25))) := hT.later HA.out
  have FN : Hid (∀ W, Calls Tryd.prog 9 #[.agg (imageV ca cn cc en da dn dc wt mo)] W fun e w' => e = .returned (.bool true) ∧ Below W.heap.size W w') := fun W => by have h := fine_st W ca cn cc en da dn dc wt mo; rwa [hz] at h
  clear hT
  go_enter Tryd.func3, Tryd.ntmps3
  go_upto_region 1 with fail
  generalize (w.alloc (.cells (imageV ca cn cc en da dn dc wt mo) 25)) = w0 at HA X0 T1 ⊢
  go_wp2_with (first
    | (go_at_call 8; revert hb1; intro hb1; refine (awake7 _ (T1.out.later (bnext hb1 hb2))).mono ?_; rintro e w3 ⟨rfl, hb3⟩)
    | (go_at_call 8; refine (awake7 _ T1.out).mono ?_; rintro e w1 ⟨rfl, hb1⟩; have x0 : w1.cell? ⟨w.heap.size, 0, none⟩ = some (.slice ca cn cc) := cell_later' (X0.out 0 _ rfl) hb1; have x1 : w1.cell? ⟨w.heap.size, 1, none⟩ = some (.int .i64 en) := cell_later' (X0.out 1 _ rfl) hb1; have x2 : w1.cell? ⟨w.heap.size, 2, none⟩ = some (.slice da dn dc) := cell_later' (X0.out 2 _ rfl) hb1; have x3 : w1.cell? ⟨w.heap.size, 3, none⟩ = some (.int .i64 wt) := cell_later' (X0.out 3 _ rfl) hb1; have x4 : w1.cell? ⟨w.heap.size, 4, none⟩ = some (.int .i64 mo) := cell_later' (X0.out 4 _ rfl) hb1)
    | (go_at_call 9; refine (FN.out _).mono ?_; rintro e w2 ⟨rfl, hb2⟩))
  go_ret
  exact ⟨rfl, bnext (bnext (bnext HA.out hb1) hb2) hb3⟩
set_option maxRecDepth 100000 in
set_option maxHeartbeats 2000000 in
theorem traces_main (w : World) (ca : Option Addr) (cn cc : Nat) (cf : Nat → Int) (en : Int) (da : Option Addr) (dn dc : Nat) (df : Nat → Int) (wt : Int) (mo : Nat) (a : Option Addr) (n c : Nat) (f : Nat → Int) (k : Int) (hz : fineZ en wt mo dn cn = true) (hn : n ≤ 200) (hk : k ≤ 2000)
    (hc : Head ca cn cc) (hd : Head da dn dc) (hh : Head a n c) (hC : RowK .u32 w ca cn cf) (hD : Bytes w da dn df) (hN : Bytes w a n f) (hT : Tab w) :
    Calls Tryd.prog 3 #[.agg (imageV ca cn cc en da dn dc wt (mo : Int)), .slice a n c, .int .i64 k] w fun e w' => e = .returned (.bool true) ∧ Below w.heap.size w w' := by
  have hfz := hz
  unfold fineZ at hfz
  rw [decide_eq_true_eq] at hfz
  obtain ⟨e0, t0, -, e1, t1, m1, d1, c1⟩ := hfz
  have g1 : decide ((n : Int) > 200) = false := by simp; omega
  have g2 : decide (200 < n) = false := by simp; omega
  have g3 : decide (k > 2000) = false := by simp; omega
  obtain ⟨K, eK⟩ : ∃ K, k.toNat = K := ⟨_, rfl⟩
  have FU : Hid (∀ W, Calls Tryd.prog 12 #[.int .i64 k] W fun e w' => e = .returned (.int .i64 (K : Int)) ∧ w' = W) := fun W => by have h := fuel_any k W; rwa [eK] at h
  have hF : Fit 0 (newZ en dn df wt mo n f) := fit_new en dn df wt mo n f ⟨e0, e1⟩ ⟨t0, t1⟩ (by omega) (by omega) hD.1 hN.1
  have HA : Hid (Below w.heap.size w (w.alloc (.cells (imageV ca cn cc en da dn dc wt (mo : Int)) 25))) := (Below.refl _ w).alloc (Nat.le_refl _) _
  have X0 : Hid (∀ j v, (imageV ca cn cc en da dn dc wt (mo : Int))[j]? = some v → (w.alloc (.cells (imageV ca cn cc en da dn dc wt (mo : Int)) 25)).cell? ⟨w.heap.size, j, none⟩ = some v) := fun j v h => new_cell' w _ _ j v h
  have T1 : Hid (Tab (w.alloc (.cells (imageV ca cn cc en da dn dc wt (mo : Int)) 25))) := hT.later HA.out
  have FN : Hid (∀ W, Calls Tryd.prog 9 #[.agg (imageV ca cn cc en da dn dc wt (mo : Int))] W fun e w' => e = .returned (.bool true) ∧ Below W.heap.size W w') := fun W => by have h := fine_st W ca cn cc en da dn dc wt (mo : Int); rwa [hz] at h
  have FD : Hid (Bytes w da dn df) := hD
  have FNN : Hid (Bytes w a n f) := hN
  have FC : Hid (RowK .u32 w ca cn cf) := hC
  have hc0 := hc
  have hT0 := hT
  clear hT
  go_enter Tryd.func3, Tryd.ntmps3
  go_upto_region 1 with fail
  generalize (w.alloc (.cells (imageV ca cn cc en da dn dc wt (mo : Int)) 25)) = w0 at HA X0 T1 ⊢
  have DO : Hid (∀ W, Below w0.heap.size w0 W → Calls Tryd.prog 10 #[.agg (imageV ca cn cc en da dn dc wt (mo : Int)), .slice a n c, .int .i64 k] W fun e w' => ∃ oa oc ma mc, e = .returned (.agg (traceV oa (itY cn cf (newZ en dn df wt mo n f) K).on_ oc (itY cn cf (newZ en dn df wt mo n f) K).en (itY cn cf (newZ en dn df wt mo n f) K).cd (itY cn cf (newZ en dn df wt mo n f) K).ft ma (itY cn cf (newZ en dn df wt mo n f) K).mn mc (cntY cn cf (newZ en dn df wt mo n f) K : Nat))) ∧
      (Head oa (itY cn cf (newZ en dn df wt mo n f) K).on_ oc ∧ Bytes w' oa (itY cn cf (newZ en dn df wt mo n f) K).on_ (itY cn cf (newZ en dn df wt mo n f) K).of_) ∧ (Head ma (itY cn cf (newZ en dn df wt mo n f) K).mn mc ∧ Bytes w' ma (itY cn cf (newZ en dn df wt mo n f) K).mn (itY cn cf (newZ en dn df wt mo n f) K).mf) ∧ Below W.heap.size W w') := fun W hW => by
    have h := do_st W ca cn cc cf en da dn dc df wt mo a n c f k (by omega) (by omega) (by omega) (by omega) (by omega) (by omega) (by omega) hc hd hh (hC.later (bnext HA.out hW)) (hD.later (bnext HA.out hW)) (hN.later (bnext HA.out hW)) (T1.out.later hW)
    rw [eK] at h
    refine h.mono ?_
    rintro e w' ⟨oa, oc, ma, mc, h1, h2, ⟨h3, h4, h5⟩, h6⟩
    refine ⟨oa, oc, ma, mc, h1, h2, ⟨h3, h5, ?_⟩, h6⟩
    obtain h4 | ⟨g, rfl, -, h4⟩ := h4
    · exact .inl h4
    · exact .inr ⟨g, 0, rfl, fun i hi => by rw [Nat.zero_add]; exact h4.1 i hi⟩
  clear hC hD hN
  obtain ⟨T, eT⟩ : ∃ T, (itY cn cf (newZ en dn df wt mo n f) K) = T := ⟨_, rfl⟩
  obtain ⟨N, eN⟩ : ∃ N, cntY cn cf (newZ en dn df wt mo n f) K = N := ⟨_, rfl⟩
  rw [eT, eN] at DO
  go_upto_region 4 with (first
    | (go_at_call 8; refine (awake7 _ T1.out).mono ?_; rintro e w1 ⟨rfl, hb1⟩; have x0 : w1.cell? ⟨w.heap.size, 0, none⟩ = some (.slice ca cn cc) := cell_later' (X0.out 0 _ rfl) hb1; have x1 : w1.cell? ⟨w.heap.size, 1, none⟩ = some (.int .i64 en) := cell_later' (X0.out 1 _ rfl) hb1; have x2 : w1.cell? ⟨w.heap.size, 2, none⟩ = some (.slice da dn dc) := cell_later' (X0.out 2 _ rfl) hb1; have x3 : w1.cell? ⟨w.heap.size, 3, none⟩ = some (.int .i64 wt) := cell_later' (X0.out 3 _ rfl) hb1; have x4 : w1.cell? ⟨w.heap.size, 4, none⟩ = some (.int .i64 (mo : Int)) := cell_later' (X0.out 4 _ rfl) hb1)
    | (go_at_call 9; refine (FN.out _).mono ?_; rintro e w2 ⟨rfl, hb2⟩; have z0 := cell_later' x0 hb2; have z1 := cell_later' x1 hb2; have z2 := cell_later' x2 hb2; have z3 := cell_later' x3 hb2; have z4 := cell_later' x4 hb2)
    | (go_at_call 10; refine (DO.out _ (bnext hb1 hb2)).mono ?_; rintro e w3 ⟨oa, oc, ma, mc, rfl, ho, hm, hb3⟩))
  have Q3 : Hid (Below w0.heap.size w0 w3) := bnext (bnext hb1 hb2) hb3
  have b4 : Below w3.heap.size w3 (w3.alloc (.cells (traceV oa T.on_ oc T.en T.cd T.ft ma T.mn mc N) 30)) := (Below.refl _ _).alloc (Nat.le_refl _) _
  have R4 : Hid (∀ j v, (traceV oa T.on_ oc T.en T.cd T.ft ma T.mn mc (N : Int))[j]? = some v → (w3.alloc (.cells (traceV oa T.on_ oc T.en T.cd T.ft ma T.mn mc N) 30)).cell? ⟨w3.heap.size, j, none⟩ = some v) := fun j v h => new_cell' w3 _ _ j v h
  have Q4 : Hid (Below w0.heap.size w0 (w3.alloc (.cells (traceV oa T.on_ oc T.en T.cd T.ft ma T.mn mc N) 30))) := bnext Q3.out b4
  have O4 : Hid (Head oa T.on_ oc ∧ Bytes (w3.alloc (.cells (traceV oa T.on_ oc T.en T.cd T.ft ma T.mn mc N) 30)) oa T.on_ T.of_) := ⟨ho.1, ho.2.later b4⟩
  have M4 : Hid (Head ma T.mn mc ∧ Bytes (w3.alloc (.cells (traceV oa T.on_ oc T.en T.cd T.ft ma T.mn mc N) 30)) ma T.mn T.mf) := ⟨hm.1, hm.2.later b4⟩
  have l4 : w3.heap.size < (w3.alloc (.cells (traceV oa T.on_ oc T.en T.cd T.ft ma T.mn mc N) 30)).heap.size := by simp
  clear hb1 hb2 hb3 x0 x1 x2 x3 x4 z0 z1 z2 z3 z4 ho hm DO FN Q3 b4
  generalize hg7 : w3.heap.size = g7 at R4 l4 ⊢
  generalize w3.alloc (.cells (traceV oa T.on_ oc T.en T.cd T.ft ma T.mn mc N) 30) = w4 at R4 Q4 O4 M4 l4 ⊢
  have x0 : w4.cell? ⟨w.heap.size, 0, none⟩ = some (.slice ca cn cc) := cell_later' (X0.out 0 _ rfl) Q4.out
  have x1 : w4.cell? ⟨w.heap.size, 1, none⟩ = some (.int .i64 en) := cell_later' (X0.out 1 _ rfl) Q4.out
  have x2 : w4.cell? ⟨w.heap.size, 2, none⟩ = some (.slice da dn dc) := cell_later' (X0.out 2 _ rfl) Q4.out
  have x3 : w4.cell? ⟨w.heap.size, 3, none⟩ = some (.int .i64 wt) := cell_later' (X0.out 3 _ rfl) Q4.out
  have x4 : w4.cell? ⟨w.heap.size, 4, none⟩ = some (.int .i64 mo) := cell_later' (X0.out 4 _ rfl) Q4.out
  have D4 : Hid (Bytes w4 da dn df) := FD.out.later (bnext HA.out Q4.out)
  have N4 : Hid (Bytes w4 a n f) := FNN.out.later (bnext HA.out Q4.out)
  have C4 : Hid (RowK .u32 w4 ca cn cf) := FC.out.later (bnext HA.out Q4.out)
  go_upto_region 6 with (first
    | (go_at_call 11; refine (rnew_st w4 ca cn cc en da dn dc df wt mo a n c f (by omega) (by omega) (by omega) hd hh D4.out N4.out).mono ?_; rintro e w5 ⟨C5, rfl, I5, hb5⟩)
    | ((with_reducible show wpList _ _ _ (Oper.mk _ (Op.store _ _ _) _ _ _ _ :: _) _ _); refine wpList_store_fresh rfl 37 (.tmp 8) (.tmp 33) rfl w5 _ _ C5 rfl rfl (by rw [(st_shape I5).1]; rfl) (st_info I5).1 (st_shape I5).2 ?_; intro w6 hb6 A6 Z6))
  have Q5 : Hid (Below w4.heap.size w4 w5) := hb5
  have V5 : Hid (Avoids C5 w5.heap.size) := avoids_new I5 (Nat.le_refl _)
  have I6 : Hid (IsSt w6 (.agg C5) (newZ en dn df wt mo n f)) := I5.later hb6
  have H6 : Hid (w6.there w5.heap.size 0 25) := by
    intro j hj
    have h1 := A6.out
    have h2 : j < C5.size := by rw [(st_shape I5).1]; exact hj
    have h3 := h1 j _ (Array.getElem?_eq_getElem h2)
    rw [Nat.zero_add]
    exact ⟨by rw [h3]; rfl, Z6.out j⟩
  have HB6 : Hid (Below w5.heap.size w5 w6) := hb6
  clear x1 x2 x3 x4 hb5 hb6 D4 N4
  go_loopw [9] (fun i wr => ∃ (j : Nat) (C' : Array Value), i = .int .i64 j ∧ j ≤ K ∧ (∀ m, m < j → (itY cn cf (newZ en dn df wt mo n f) m).en = false) ∧ At wr w5.heap.size C' ∧ wr.there w5.heap.size 0 25 ∧ IsSt wr (.agg C') (itY cn cf (newZ en dn df wt mo n f) j) ∧ Avoids C' w5.heap.size ∧ Below w5.heap.size w5 wr) (fun i _ => K - (intOf i).toNat)
  case atStart => exact ⟨0, C5, rfl, Nat.zero_le _, fun m hm => by omega, A6.out, H6.out, I6.out, V5.out, HB6.out⟩
  case round =>
    obtain ⟨j, C', rfl, hj, hgo, hA, hT, hI, hV, hB⟩ := hrel
    have A7 : Hid (At wr w5.heap.size C') := hA
    have T7 : Hid (wr.there w5.heap.size 0 25) := hT
    have V7 : Hid (Avoids C' w5.heap.size) := hV
    have HB : Hid (Below w5.heap.size w5 wr) := hB
    have y0 : wr.cell? ⟨w.heap.size, 0, none⟩ = some (.slice ca cn cc) := cell_later' (cell_later' x0 Q5.out) hB
    have HZ : Hid ((Tryd.prog.info? 37).map (·.size) = some C'.toList.length) := (st_info hI).2
    have x22 : wr.cell? ⟨w5.heap.size, 22, none⟩ = some (.bool (itY cn cf (newZ en dn df wt mo n f) j).en) := by
      obtain ⟨ba2, bc2, ma2, mc2, ia2, ic2, oa2, oc2, eC, -⟩ := st_cells hI
      exact hA 22 _ (by rw [eC]; rfl)
    have l8 : w5.heap.size < wr.heap.size := World.block_lt_of_cell? wr ⟨w5.heap.size, 22, none⟩ x22
    have CR : Hid (RowK .u32 wr ca cn cf) := (C4.out.later Q5.out).later hB
    have HF : Hid (Fit (0 + j) (itY cn cf (newZ en dn df wt mo n f) j)) := fit_it hF (by omega) j
    have FT : Fit (0 + K) T := by rw [← eT]; exact fit_it hF (by omega) K
    have ft1 := FT.mn
    have ft2 := FT.on_
    have HG : Hid (∀ m, m < j → (itY cn cf (newZ en dn df wt mo n f) m).en = false) := hgo
    clear hA hT hV hB x0 FT hgo
    by_cases hlt : j < K
    · cases hen : (itY cn cf (newZ en dn df wt mo n f) j).en
      · have HI : Hid (IsSt wr (.agg C') (itY cn cf (newZ en dn df wt mo n f) j)) := hI
        have HEN : Hid ((itY cn cf (newZ en dn df wt mo n f) j).en = false) := hen
        rw [hen] at x22
        have hlt' : (j : Int) < K := by omega
        have ST : Hid (∀ W, Below wr.heap.size wr W → Calls Tryd.prog 13 #[.slice ca cn cc, .agg C'] W (StPost W C' (itY cn cf (newZ en dn df wt mo n f) (j + 1)))) := fun W hW => rstep_y (HI.out.later hW) HF.out (by omega) ca cn cc cf (by omega) (CR.out.later hW)
        clear hI hen
        go_wp2_with (first
          | (go_at_call 12; refine (FU.out _).mono ?_; rintro e w9 ⟨rfl, hw9⟩; obtain rfl := hw9.symm)
          | ((with_reducible show wpList _ _ _ (Oper.mk _ (Op.load _ _) _ _ _ _ :: _) _ _); refine wpList_load_if (by rfl) 37 (.tmp 8) rfl w5.heap.size 0 rfl C'.toList _ (at_range A7.out) Tryd.underlying37 rfl HZ.out ?_)
          | (go_at_call 13; refine (ST.out _ (Below.refl _ _)).mono ?_; rintro e w9 ⟨C9, rfl, h9, v9, b9⟩)
          | ((with_reducible show wpList _ _ _ (Oper.mk _ (Op.store _ _ _) _ _ _ _ :: _) _ _); refine wpList_store_mid rfl 37 (.tmp 8) (.tmp 46) rfl w5.heap.size 0 C9 rfl rfl (by rw [(st_shape h9).1]; exact there_later T7.out b9) (st_info h9).1 (st_shape h9).2 ?_))
        go_roundw
        case rel =>
          have hA9 := v9.av w5.heap.size l8 V7.out
          refine ⟨j + 1, C9, by go_num, by omega, fun m hm => ?_, at_of_range (World.rangeAt_setCells_same w9 _ 0 C9.toList (by rw [Array.length_toList, (st_shape h9).1]; exact there_later T7.out b9)), World.there_setCells (there_later T7.out b9) _ _ _, IsSt.setAll hA9 _ _ _ h9, hA9, below_setCells _ _ _ _ (bnext HB.out b9) (Nat.le_refl _)⟩
          rcases (by omega : m < j ∨ m = j) with e | rfl
          · exact HG.out m e
          · exact HEN.out
        case measure => simp [intOf]; omega
      · have hN2 : cntY cn cf (newZ en dn df wt mo n f) j = j := cntY_all HG.out
        have hE := itY_ended hen (K - j)
        rw [show j + (K - j) = K from by omega, eT, eN, hN2] at hE
        obtain ⟨hE1, rfl⟩ := hE
        rw [hen] at x22
        have HEN : Hid (T.en = true) := by show _ = _; rw [hE1]; exact hen
        have HI : Hid (IsSt wr (.agg C') T) := by rw [← hE1] at hI; exact hI
        have hlt' : (N : Int) < K := by omega
        clear hI hE1 hen HF
        have hI : IsSt wr (.agg C') T := HI.out
        obtain ⟨ba2, bc2, ma2, mc2, ia2, ic2, oa2, oc2, eC, -, m2, -, o2⟩ := st_cells hI
        have p0 : wr.cell? ⟨g7, 0, none⟩ = some (.slice oa T.on_ oc) := cell_later' (cell_later' (R4.out 0 _ rfl) Q5.out) HB.out
        have p1 : wr.cell? ⟨g7, 1, none⟩ = some (.bool T.en) := cell_later' (cell_later' (R4.out 1 _ rfl) Q5.out) HB.out
        have p2 : wr.cell? ⟨g7, 2, none⟩ = some (.int .u32 T.cd) := cell_later' (cell_later' (R4.out 2 _ rfl) Q5.out) HB.out
        have p3 : wr.cell? ⟨g7, 3, none⟩ = some (.int .i64 T.ft) := cell_later' (cell_later' (R4.out 3 _ rfl) Q5.out) HB.out
        have p4 : wr.cell? ⟨g7, 4, none⟩ = some (.slice ma T.mn mc) := cell_later' (cell_later' (R4.out 4 _ rfl) Q5.out) HB.out
        have p5 : wr.cell? ⟨g7, 5, none⟩ = some (.int .i64 N) := cell_later' (cell_later' (R4.out 5 _ rfl) Q5.out) HB.out
        have q19 : wr.cell? ⟨w5.heap.size, 19, none⟩ = some (.slice ma2 T.mn mc2) := A7.out 19 _ (by rw [eC]; rfl)
        have q21 : wr.cell? ⟨w5.heap.size, 21, none⟩ = some (.slice oa2 T.on_ oc2) := A7.out 21 _ (by rw [eC]; rfl)
        have q22 : wr.cell? ⟨w5.heap.size, 22, none⟩ = some (.bool T.en) := A7.out 22 _ (by rw [eC]; rfl)
        have q23 : wr.cell? ⟨w5.heap.size, 23, none⟩ = some (.int .u32 T.cd) := A7.out 23 _ (by rw [eC]; rfl)
        have q24 : wr.cell? ⟨w5.heap.size, 24, none⟩ = some (.int .i64 T.ft) := A7.out 24 _ (by rw [eC]; rfl)
        have SM1 : Hid (∀ W, Below wr.heap.size wr W → Calls Tryd.prog 14 #[.slice oa T.on_ oc, .slice oa2 T.on_ oc2] W fun e w' => e = .returned (.bool true) ∧ Below W.heap.size W w') := fun W hW => by
          have h := bytes_eq W oa oa2 T.on_ T.on_ oc oc2 T.of_ T.of_ (by omega) (by omega) ((O4.out.2.later (bnext Q5.out HB.out)).later hW) (o2.2.later hW)
          rwa [eqB_self] at h
        have SM2 : Hid (∀ W, Below wr.heap.size wr W → Calls Tryd.prog 14 #[.slice ma T.mn mc, .slice ma2 T.mn mc2] W fun e w' => e = .returned (.bool true) ∧ Below W.heap.size W w') := fun W hW => by
          have h := bytes_eq W ma ma2 T.mn T.mn mc mc2 T.mf T.mf (by omega) (by omega) ((M4.out.2.later (bnext Q5.out HB.out)).later hW) (m2.2.later hW)
          rwa [eqB_self] at h
        clear m2 o2 eC hI
        go_wp2_with (first
          | (go_at_call 12; refine (FU.out _).mono ?_; rintro e w9 ⟨rfl, hw9⟩; obtain rfl := hw9.symm)
          | (go_at_call 14; revert hb8; intro hb8; refine (SM2.out _ hb8).mono ?_; rintro e w10 ⟨rfl, hb10⟩; have p0' := cell_later' p0' hb10; have p1' := cell_later' p1' hb10; have p2' := cell_later' p2' hb10; have p3' := cell_later' p3' hb10; have p4' := cell_later' p4' hb10; have p5' := cell_later' p5' hb10)
          | (go_at_call 14; refine (SM1.out _ (Below.refl _ _)).mono ?_; rintro e w8 ⟨rfl, hb8⟩; have p0' := cell_later' p0 hb8; have p1' := cell_later' p1 hb8; have p2' := cell_later' p2 hb8; have p3' := cell_later' p3 hb8; have p4' := cell_later' p4 hb8; have p5' := cell_later' p5 hb8; have q19' := cell_later' q19 hb8; have q21' := cell_later' q21 hb8; have q22' := cell_later' q22 hb8; have q23' := cell_later' q23 hb8; have q24' := cell_later' q24 hb8))
        go_ret
        exact ⟨rfl, bnext (bnext (bnext (bnext (bnext HA.out Q4.out) Q5.out) HB.out) hb8) hb10⟩
    · obtain rfl : j = K := by omega
      have hN2 : N = j := by rw [← eN]; exact cntY_all HG.out
      subst hN2
      rw [eT] at hI x22
      have HI : Hid (IsSt wr (.agg C') T) := hI
      have hlt' : ¬ (N : Int) < N := by omega
      clear hI HF
      have hI : IsSt wr (.agg C') T := HI.out
      obtain ⟨ba2, bc2, ma2, mc2, ia2, ic2, oa2, oc2, eC, -, m2, -, o2⟩ := st_cells hI
      have p0 : wr.cell? ⟨g7, 0, none⟩ = some (.slice oa T.on_ oc) := cell_later' (cell_later' (R4.out 0 _ rfl) Q5.out) HB.out
      have p1 : wr.cell? ⟨g7, 1, none⟩ = some (.bool T.en) := cell_later' (cell_later' (R4.out 1 _ rfl) Q5.out) HB.out
      have p2 : wr.cell? ⟨g7, 2, none⟩ = some (.int .u32 T.cd) := cell_later' (cell_later' (R4.out 2 _ rfl) Q5.out) HB.out
      have p3 : wr.cell? ⟨g7, 3, none⟩ = some (.int .i64 T.ft) := cell_later' (cell_later' (R4.out 3 _ rfl) Q5.out) HB.out
      have p4 : wr.cell? ⟨g7, 4, none⟩ = some (.slice ma T.mn mc) := cell_later' (cell_later' (R4.out 4 _ rfl) Q5.out) HB.out
      have p5 : wr.cell? ⟨g7, 5, none⟩ = some (.int .i64 N) := cell_later' (cell_later' (R4.out 5 _ rfl) Q5.out) HB.out
      have q19 : wr.cell? ⟨w5.heap.size, 19, none⟩ = some (.slice ma2 T.mn mc2) := A7.out 19 _ (by rw [eC]; rfl)
      have q21 : wr.cell? ⟨w5.heap.size, 21, none⟩ = some (.slice oa2 T.on_ oc2) := A7.out 21 _ (by rw [eC]; rfl)
      have q22 : wr.cell? ⟨w5.heap.size, 22, none⟩ = some (.bool T.en) := A7.out 22 _ (by rw [eC]; rfl)
      have q23 : wr.cell? ⟨w5.heap.size, 23, none⟩ = some (.int .u32 T.cd) := A7.out 23 _ (by rw [eC]; rfl)
      have q24 : wr.cell? ⟨w5.heap.size, 24, none⟩ = some (.int .i64 T.ft) := A7.out 24 _ (by rw [eC]; rfl)
      have SM1 : Hid (∀ W, Below wr.heap.size wr W → Calls Tryd.prog 14 #[.slice oa T.on_ oc, .slice oa2 T.on_ oc2] W fun e w' => e = .returned (.bool true) ∧ Below W.heap.size W w') := fun W hW => by
        have h := bytes_eq W oa oa2 T.on_ T.on_ oc oc2 T.of_ T.of_ (by omega) (by omega) ((O4.out.2.later (bnext Q5.out HB.out)).later hW) (o2.2.later hW)
        rwa [eqB_self] at h
      have SM2 : Hid (∀ W, Below wr.heap.size wr W → Calls Tryd.prog 14 #[.slice ma T.mn mc, .slice ma2 T.mn mc2] W fun e w' => e = .returned (.bool true) ∧ Below W.heap.size W w') := fun W hW => by
        have h := bytes_eq W ma ma2 T.mn T.mn mc mc2 T.mf T.mf (by omega) (by omega) ((M4.out.2.later (bnext Q5.out HB.out)).later hW) (m2.2.later hW)
        rwa [eqB_self] at h
      clear m2 o2 eC hI
      go_wp2_with (first
        | (go_at_call 12; refine (FU.out _).mono ?_; rintro e w9 ⟨rfl, hw9⟩; obtain rfl := hw9.symm)
        | (go_at_call 14; revert hb8; intro hb8; refine (SM2.out _ hb8).mono ?_; rintro e w10 ⟨rfl, hb10⟩; have p0' := cell_later' p0' hb10; have p1' := cell_later' p1' hb10; have p2' := cell_later' p2' hb10; have p3' := cell_later' p3' hb10; have p4' := cell_later' p4' hb10; have p5' := cell_later' p5' hb10)
        | (go_at_call 14; refine (SM1.out _ (Below.refl _ _)).mono ?_; rintro e w8 ⟨rfl, hb8⟩; have p0' := cell_later' p0 hb8; have p1' := cell_later' p1 hb8; have p2' := cell_later' p2 hb8; have p3' := cell_later' p3 hb8; have p4' := cell_later' p4 hb8; have p5' := cell_later' p5 hb8; have q19' := cell_later' q19 hb8; have q21' := cell_later' q21 hb8; have q22' := cell_later' q22 hb8; have q23' := cell_later' q23 hb8; have q24' := cell_later' q24 hb8))
      go_ret
      exact ⟨rfl, bnext (bnext (bnext (bnext (bnext HA.out Q4.out) Q5.out) HB.out) hb8) hb10⟩
theorem walk (w : World) (ca : Option Addr) (cn cc : Nat) (cf : Nat → Int) (en : Int) (da : Option Addr) (dn dc : Nat) (df : Nat → Int) (wt mo : Int)
    (hm : (cn ≤ cc ∧ cc ≤ maxLen ∧ (ca = none → cc = 0) ∧ RowK .u32 w ca cn cf) ∧ (Lit.int .i64 en).wf = true ∧ (dn ≤ dc ∧ dc ≤ maxLen ∧ (da = none → dc = 0) ∧ Bytes w da dn df) ∧ (Lit.int .i64 wt).wf = true ∧ (Lit.int .i64 mo).wf = true)
    (a : Option Addr) (n c : Nat) (f : Nat → Int) (h0 : n ≤ c ∧ c ≤ maxLen ∧ (a = none → c = 0) ∧ RowK .u8 w a n f) (k : Int) (hkw : (Lit.int .i64 k).wf = true) (hT : Tab w) :
    Calls Tryd.prog 3 #[.agg #[.slice ca cn cc, .int .i64 en, .slice da dn dc, .int .i64 wt, .int .i64 mo], .slice a n c, .int .i64 k] w fun e w' => e = .returned (.bool true) ∧ Below w.heap.size w w' := by
  obtain ⟨⟨k1, k2, k3, hC⟩, -, ⟨d1, d2, d3, hD⟩, -, -⟩ := hm
  obtain ⟨hn0, hm0, hnil0, hw⟩ := h0
  have hN : Bytes w a n f := ⟨fun i => wf_u8_bd (hw.1 i), hw.2⟩
  cases hz : fineZ en wt mo dn cn
  · exact traces_early0 w ca cn cc cf en da dn dc df wt mo a n c k hz hT
  by_cases hn : 200 < n
  · exact traces_early1 w ca cn cc cf en da dn dc df wt mo a n c k hz hn hT
  by_cases hk : 2000 < k
  · exact traces_early2 w ca cn cc cf en da dn dc df wt mo a n c k hz (by omega) hk hT
  obtain ⟨mn, rfl⟩ : ∃ mn : Nat, mo = mn := ⟨mo.toNat, by unfold fineZ at hz; rw [decide_eq_true_eq] at hz; omega⟩
  exact traces_main w ca cn cc cf en da dn dc df wt mn a n c f k hz (by omega) (by omega) ⟨k1, k3⟩ ⟨d1, d3⟩ ⟨hn0, hnil0⟩ hC hD hN hT

/-! ### The row's step -/
set_option maxRecDepth 100000 in
theorem lifted (os : Os) (started : os.Started) (H : Type) (enc : TypeId × Value → H) :
    ReturnsInHanded {} Tryd.checked os 3 .any (fun w args => (Rows.runTracesSpec.pre enc Tryd.prog Tryd.f3 [] false w args ∧ laidMetH Tryd.prog laidL w) ∧ sizedMet enc Tryd.prog Tryd.f3 (OpenSpec.ofChange Rows.runTracesSpec) false w args)
      (Rows.runTracesSpec.post enc Tryd.prog Tryd.f3 false true false false) := by
  refine returnsInHanded_of_change_and (C := Tryd.checked) (X := fun w _ => laidMetH Tryd.prog laidL w) (fun _ _ _ hh h => h.of_heap hh) own started (by kernel_rfl) Tryd.func3
    (ChangeSpec.witness_shaped (enc := enc) (C := Tryd.checked) (os := os) (X := fun w _ => laidMetH Tryd.prog laidL w) false (World.doorLaid Tryd.prog 40 os) #[.agg #[.slice none 0 0, .int .i64 0, .slice none 0 0, .int .i64 0, .int .i64 0], .slice none 0 0, .int .i64 0] 8 rfl (World.shaped_of_RefB (by kernel_rfl) (by kernel_rfl)) (by kernel_rfl) (by kernel_rfl) (by kernel_rfl) (door_met os _)) ?_
  intro W base args ds gs before hval0 hW _ _ hL _
  have hval : ∀ (j : Nat) t v, Tryd.f3.params[j]? = some t → args[j]? = some v → Value.okWide Tryd.prog W .any base t v := hval0
  have hW' := hW
  obtain ⟨p, q, hA0, hV, rfl, hfz, hnd⟩ := hW
  have hA : DataW.TrodAll enc Tryd.prog W 0 (fun _ => true) true Tryd.f3.params.toList args.toList ds p := hA0
  rw [Tryd.params3] at hA hval
  obtain ⟨v0, vs0, d0, ds0, p0, q0, hargs, rfl, rfl, h0, r0⟩ := trodAll_cons hA
  obtain ⟨v1, vs1, d1, ds1, p1, q1, rfl, rfl, rfl, h1, r1⟩ := trodAll_cons r0
  obtain ⟨v2, vs2, d2, ds2, p2, q2, rfl, rfl, rfl, h2, r2⟩ := trodAll_cons r1
  obtain ⟨rfl, rfl, rfl⟩ := trodAll_nil r2
  obtain rfl : args = #[v0, v1, v2] := by cases args; simp_all
  obtain ⟨rfl, rfl⟩ := trodVars_none hV
  have hT := tab_of hL
  have k0 := h0
  have lt0 : ∀ x ∈ p0, x.block < W.heap.size := by obtain ⟨m, hm⟩ := k0; exact DataW.trod_lt m _ _ _ hm
  obtain ⟨vca0, vcn0, vcc0, vcf0, ven0, vda0, vdn0, vdc0, vdf0, vwt0, vmo0, rfl, w0⟩ := open_image (hval 0 25 v0 rfl rfl) h0
  have k1 := h1
  have lt1 : ∀ x ∈ p1, x.block < W.heap.size := by obtain ⟨m, hm⟩ := k1; exact DataW.trod_lt m _ _ _ hm
  obtain ⟨va1, vn1, vc1, vf1, rfl, w1⟩ := open_sl Tryd.underlying23 Tryd.underlying5 (by kernel_rfl) (hval 1 23 v1 rfl rfl) h1
  obtain ⟨a2, rfl, rfl, rfl, w2⟩ := open_int Tryd.underlying3 (hval 2 3 v2 rfl rfl) h2
  clear hA0 hval0
  refine (walk W vca0 vcn0 vcc0 vcf0 ven0 vda0 vdn0 vdc0 vdf0 vwt0 vmo0 w0 va1 vn1 vc1 vf1 w1 a2 w2 hT).mono fun e W' ⟨he, bel⟩ => ?_
  subst he
  exact ⟨_, rfl, _, _, _, [], _, [], hW', trodAll_mk1 (shut_bool Tryd.underlying4 _), (trodAll_cons_mk (Below.trod laidOut (by kernel_rfl) (of_decide_eq_true (by kernel_rfl)) k0 bel lt0) (trodAll_cons_mk (Below.trod laidOut (by kernel_rfl) (of_decide_eq_true (by kernel_rfl)) k1 bel lt1) (trodAll_cons_mk (shut_int Tryd.underlying3 w2) trodAll_mk0))), rfl, bel.frame _, fun h => by cases h⟩

theorem over : Rows.RunTracesSaid :=
  OpenClaim.holds_of_wide 3 Tryd.f3 rfl rfl rfl rfl rfl rfl rfl ⟨rfl, rfl, rfl, rfl, rfl⟩ rfl rfl rfl rfl rfl (by kernel_rfl) Tryd.func3 (by kernel_rfl)
    (of_decide_eq_true (by kernel_rfl)) (by unfold Func.isWrapper; first | (rw [if_pos (by decide +kernel)]; kernel_rfl) | (rw [if_neg (by decide +kernel)]; exact ⟨rfl, rfl⟩))
    (fun os started H enc _ => lifted os started H enc)

/-- The tied card. -/
theorem card : Rows.RunTracesCardSaid :=
  Claim7.holds_tied_plain_at .later [] [.data] true (true, "c72f633930f7a357c4a2a2024328d705ae8589c9b4b8ffd14eafe99737a9bc53") false
    over (fun _ h => by cases h) (by kernel_rfl) (fun _ h => by cases h) runTraces_row_tie rfl ⟨rfl, rfl⟩ (by kernel_rfl) rfl
    (fun f fn hf hfn => by
      obtain rfl : f = 3 := Option.some.inj ((show Tryd.prog.funcNamed "splice/splicelaw07.RunTraces" = some 3 by kernel_rfl).symm.trans hf) |>.symm
      obtain rfl : fn = Tryd.f3 := (Option.some.inj (Tryd.func3.symm.trans hfn)).symm
      exact ⟨by kernel_rfl, fun j t ht => by
        rw [Tryd.params3] at ht
        have hm : t ∈ [25, 23, 3] := by simpa using Array.mem_of_getElem? ht
        have hall : ([25, 23, 3].all fun u => !Tryd.prog.wantsStandIn u) = true := by kernel_rfl
        exact (show Tryd.prog.wantsStandIn t = false by simpa using List.all_eq_true.1 hall t hm)⟩)
    (by kernel_rfl)
end Go.Proofs.YtnpejnjigaalfaaDoor.runTraces

namespace Go.Proofs.YtnpejnjigaalfaaDoor
theorem RunTraces_holds : Rows.RunTracesCardSaid := runTraces.card
#print axioms RunTraces_holds
end Go.Proofs.YtnpejnjigaalfaaDoor
