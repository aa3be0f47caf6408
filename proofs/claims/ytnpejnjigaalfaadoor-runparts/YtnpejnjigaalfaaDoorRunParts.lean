/- For every image, input and two numbers of steps RunParts returns true: steps behind one another are as all at once, as many are done, and no more than were asked for; who ended with less fuel ends alike with more, after as many steps. No condition. -/
import Derived.Test.YtnpejnjigaalfaaDoorDoorFrame
import Derived.Test.YtnpejnjigaalfaaDoorRunAwake
import Derived.Test.YtnpejnjigaalfaaDoorRunStep
import Derived.WalkKit
import Derived.ProofKit
namespace Go.Proofs.YtnpejnjigaalfaaDoor.runParts
open Go.ChangeShapes Go.WideShapes Go.ChangeAt Go.RowKit Go.Deep
set_option linter.unusedVariables false

set_option maxRecDepth 100000 in
theorem parts_early0 (w : World) (ca : Option Addr) (cn cc : Nat) (cf : Nat → Int) (en : Int) (da : Option Addr) (dn dc : Nat) (df : Nat → Int) (wt mo : Int) (a : Option Addr) (n c : Nat) (x y : Int) (hz : fineZ en wt mo dn cn = false) (hT : Tab w) :
    Calls Tryd.prog 4 #[.agg (imageV ca cn cc en da dn dc wt mo), .slice a n c, .int .u8 x, .int .u8 y] w fun e w' => e = .returned (.bool true) ∧ Below w.heap.size w w' := by
  have HA : Hid (Below w.heap.size w (w.alloc (.cells (imageV ca cn cc en da dn dc wt mo) 25))) := (Below.refl _ w).alloc (Nat.le_refl _) _
  have X0 : Hid (∀ j v, (imageV ca cn cc en da dn dc wt mo)[j]? = some v → (w.alloc (.cells (imageV ca cn cc en da dn dc wt mo) 25)).cell? ⟨w.heap.size, j, none⟩ = some v) := fun j v h => new_cell' w _ _ j v h
  have T1 : Hid (Tab (w.alloc (.cells (imageV ca cn cc en da dn dc wt mo) 25))) := hT.later HA.out
  have FN : Hid (∀ W, Calls Tryd.prog 9 #[.agg (imageV ca cn cc en da dn dc wt mo)] W fun e w' => e = .returned (.bool false) ∧ Below W.heap.size W w') := fun W => by have h := fine_st W ca cn cc en da dn dc wt mo; rwa [hz] at h
  clear hT
  go_enter Tryd.func4, Tryd.ntmps4
  go_upto_region 1 with fail
  generalize (w.alloc (.cells (imageV ca cn cc en da dn dc wt mo) 25)) = w0 at HA X0 T1 ⊢
  go_wp2_with (first
    | (go_at_call 8; revert hb1; intro hb1; refine (awake7 _ (T1.out.later (bnext hb1 hb2))).mono ?_; rintro e w3 ⟨rfl, hb3⟩)
    | (go_at_call 8; refine (awake7 _ T1.out).mono ?_; rintro e w1 ⟨rfl, hb1⟩; have x0 : w1.cell? ⟨w.heap.size, 0, none⟩ = some (.slice ca cn cc) := cell_later' (X0.out 0 _ rfl) hb1; have x1 : w1.cell? ⟨w.heap.size, 1, none⟩ = some (.int .i64 en) := cell_later' (X0.out 1 _ rfl) hb1; have x2 : w1.cell? ⟨w.heap.size, 2, none⟩ = some (.slice da dn dc) := cell_later' (X0.out 2 _ rfl) hb1; have x3 : w1.cell? ⟨w.heap.size, 3, none⟩ = some (.int .i64 wt) := cell_later' (X0.out 3 _ rfl) hb1; have x4 : w1.cell? ⟨w.heap.size, 4, none⟩ = some (.int .i64 mo) := cell_later' (X0.out 4 _ rfl) hb1)
    | (go_at_call 9; refine (FN.out _).mono ?_; rintro e w2 ⟨rfl, hb2⟩))
  go_ret
  exact ⟨rfl, bnext (bnext (bnext HA.out hb1) hb2) hb3⟩
set_option maxRecDepth 100000 in
theorem parts_early1 (w : World) (ca : Option Addr) (cn cc : Nat) (cf : Nat → Int) (en : Int) (da : Option Addr) (dn dc : Nat) (df : Nat → Int) (wt mo : Int) (a : Option Addr) (n c : Nat) (x y : Int) (hz : fineZ en wt mo dn cn = true) (hn : 200 < n) (hT : Tab w) :
    Calls Tryd.prog 4 #[.agg (imageV ca cn cc en da dn dc wt mo), .slice a n c, .int .u8 x, .int .u8 y] w fun e w' => e = .returned (.bool true) ∧ Below w.heap.size w w' := by
  have g1 : decide ((n : Int) > 200) = true := by simp; omega
  have g2 : decide (200 < n) = true := by simp; omega
  have HA : Hid (Below w.heap.size w (w.alloc (.cells (imageV ca cn cc en da dn dc wt mo) 25))) := (Below.refl _ w).alloc (Nat.le_refl _) _
  have X0 : Hid (∀ j v, (imageV ca cn cc en da dn dc wt mo)[j]? = some v → (w.alloc (.cells (imageV ca cn cc en da dn dc wt mo) 25)).cell? ⟨w.heap.size, j, none⟩ = some v) := fun j v h => new_cell' w _ _ j v h
  have T1 : Hid (Tab (w.alloc (.cells (imageV ca cn cc en da dn dc wt mo) 25))) := hT.later HA.out
  have FN : Hid (∀ W, Calls Tryd.prog 9 #[.agg (imageV ca cn cc en da dn dc wt mo)] W fun e w' => e = .returned (.bool true) ∧ Below W.heap.size W w') := fun W => by have h := fine_st W ca cn cc en da dn dc wt mo; rwa [hz] at h
  clear hT
  go_enter Tryd.func4, Tryd.ntmps4
  go_upto_region 1 with fail
  generalize (w.alloc (.cells (imageV ca cn cc en da dn dc wt mo) 25)) = w0 at HA X0 T1 ⊢
  go_wp2_with (first
    | (go_at_call 8; revert hb1; intro hb1; refine (awake7 _ (T1.out.later (bnext hb1 hb2))).mono ?_; rintro e w3 ⟨rfl, hb3⟩)
    | (go_at_call 8; refine (awake7 _ T1.out).mono ?_; rintro e w1 ⟨rfl, hb1⟩; have x0 : w1.cell? ⟨w.heap.size, 0, none⟩ = some (.slice ca cn cc) := cell_later' (X0.out 0 _ rfl) hb1; have x1 : w1.cell? ⟨w.heap.size, 1, none⟩ = some (.int .i64 en) := cell_later' (X0.out 1 _ rfl) hb1; have x2 : w1.cell? ⟨w.heap.size, 2, none⟩ = some (.slice da dn dc) := cell_later' (X0.out 2 _ rfl) hb1; have x3 : w1.cell? ⟨w.heap.size, 3, none⟩ = some (.int .i64 wt) := cell_later' (X0.out 3 _ rfl) hb1; have x4 : w1.cell? ⟨w.heap.size, 4, none⟩ = some (.int .i64 mo) := cell_later' (X0.out 4 _ rfl) hb1)
    | (go_at_call 9; refine (FN.out _).mono ?_; rintro e w2 ⟨rfl, hb2⟩))
  go_ret
  exact ⟨rfl, bnext (bnext (bnext HA.out hb1) hb2) hb3⟩
set_option maxRecDepth 100000 in
set_option maxHeartbeats 2000000 in
theorem parts_main (w : World) (ca : Option Addr) (cn cc : Nat) (cf : Nat → Int) (en : Int) (da : Option Addr) (dn dc : Nat) (df : Nat → Int) (wt : Int) (mo : Nat) (a : Option Addr) (n c : Nat) (f : Nat → Int) (A B : Nat) (hz : fineZ en wt mo dn cn = true) (hn : n ≤ 200) (hA : A < 256) (hB : B < 256)
    (hc : Head ca cn cc) (hd : Head da dn dc) (hh : Head a n c) (hC : RowK .u32 w ca cn cf) (hD : Bytes w da dn df) (hN : Bytes w a n f) (hT : Tab w) :
    Calls Tryd.prog 4 #[.agg (imageV ca cn cc en da dn dc wt (mo : Int)), .slice a n c, .int .u8 A, .int .u8 B] w fun e w' => e = .returned (.bool true) ∧ Below w.heap.size w w' := by
  have hfz := hz
  unfold fineZ at hfz
  rw [decide_eq_true_eq] at hfz
  obtain ⟨e0, t0, -, e1, t1, m1, d1, c1⟩ := hfz
  have g1 : decide ((n : Int) > 200) = false := by simp; omega
  have g2 : decide (200 < n) = false := by simp; omega
  have hF : Fit 0 (newZ en dn df wt mo n f) := fit_new en dn df wt mo n f ⟨e0, e1⟩ ⟨t0, t1⟩ (by omega) (by omega) hD.1 hN.1
  have HA : Hid (Below w.heap.size w (w.alloc (.cells (imageV ca cn cc en da dn dc wt (mo : Int)) 25))) := (Below.refl _ w).alloc (Nat.le_refl _) _
  have X0 : Hid (∀ j v, (imageV ca cn cc en da dn dc wt (mo : Int))[j]? = some v → (w.alloc (.cells (imageV ca cn cc en da dn dc wt (mo : Int)) 25)).cell? ⟨w.heap.size, j, none⟩ = some v) := fun j v h => new_cell' w _ _ j v h
  have T1 : Hid (Tab (w.alloc (.cells (imageV ca cn cc en da dn dc wt (mo : Int)) 25))) := hT.later HA.out
  have FN : Hid (∀ W, Calls Tryd.prog 9 #[.agg (imageV ca cn cc en da dn dc wt (mo : Int))] W fun e w' => e = .returned (.bool true) ∧ Below W.heap.size W w') := fun W => by have h := fine_st W ca cn cc en da dn dc wt (mo : Int); rwa [hz] at h
  have FD : Hid (Bytes w da dn df) := hD
  have FNN : Hid (Bytes w a n f) := hN
  have FC : Hid (RowK .u32 w ca cn cf) := hC
  obtain ⟨T, eT⟩ : ∃ T, (itY cn cf (newZ en dn df wt mo n f) A) = T := ⟨_, rfl⟩
  obtain ⟨N, eN⟩ : ∃ N, cntY cn cf (newZ en dn df wt mo n f) A = N := ⟨_, rfl⟩
  obtain ⟨U, eU⟩ : ∃ U, (itY cn cf (newZ en dn df wt mo n f) (A + B)) = U := ⟨_, rfl⟩
  obtain ⟨M, eM⟩ : ∃ M, cntY cn cf (newZ en dn df wt mo n f) (A + B) = M := ⟨_, rfl⟩
  obtain ⟨L, eL⟩ : ∃ L, cntY cn cf T B = L := ⟨_, rfl⟩
  have FT : Fit (0 + A) T := by rw [← eT]; exact fit_it hF (by omega) A
  have FU : Fit (0 + (A + B)) U := by rw [← eU]; exact fit_it hF (by omega) (A + B)
  have hTU := itY_add cn cf (newZ en dn df wt mo n f) A B
  rw [eT, eU, eN, eM, eL] at hTU
  obtain ⟨hTU1, hTU2⟩ := hTU
  have hNP : N ≤ A := by rw [← eN]; exact cntY_le _ _ _ _
  have hLB : L ≤ B := by rw [← eL]; exact cntY_le _ _ _ _
  have hEnd : T.en = true → U = T ∧ M = N := fun h => by
    have hE := itY_ended (n := cn) (f := cf) (s := (newZ en dn df wt mo n f)) (k := A) (by rw [eT]; exact h) B
    rw [eU, eM, eT, eN] at hE; exact hE
  have HEnd : Hid (T.en = true → U = T ∧ M = N) := hEnd
  have HF0 : Hid (Fit 0 (newZ en dn df wt mo n f)) := hF
  have HFT : Hid (Fit (0 + A) T) := FT
  have HFU : Hid (Fit (0 + (A + B)) U) := FU
  have ft1 := FT.mn
  have ft2 := FT.on_
  clear hEnd FT FU hF
  clear hT
  go_enter Tryd.func4, Tryd.ntmps4
  go_upto_region 1 with fail
  generalize (w.alloc (.cells (imageV ca cn cc en da dn dc wt (mo : Int)) 25)) = w0 at HA X0 T1 ⊢
  have F1 : Hid (∀ W C, Below w0.heap.size w0 W → IsSt W (.agg C) (newZ en dn df wt mo n f) → Calls Tryd.prog 15 #[.slice ca cn cc, .agg C, .int .i64 (A : Int)] W fun e w' => ∃ C', e = .returned (.tuple #[.agg C', .int .i64 (N : Int)]) ∧ IsSt w' (.agg C') T ∧ Below W.heap.size W w') := fun W C hW hI => by
    have h := from_st hI HF0.out ca cn cc cf (by omega) hc (FC.out.later (bnext HA.out hW)) (T1.out.later hW) A (by omega)
    rw [eT, eN] at h; exact h
  have F2 : Hid (∀ W C, Below w0.heap.size w0 W → IsSt W (.agg C) T → Calls Tryd.prog 15 #[.slice ca cn cc, .agg C, .int .i64 (B : Int)] W fun e w' => ∃ C', e = .returned (.tuple #[.agg C', .int .i64 (L : Int)]) ∧ IsSt w' (.agg C') U ∧ Below W.heap.size W w') := fun W C hW hI => by
    have h := from_st hI HFT.out ca cn cc cf (by omega) hc (FC.out.later (bnext HA.out hW)) (T1.out.later hW) B (by omega)
    rw [hTU1, eL] at h; exact h
  have F3 : Hid (∀ W C, Below w0.heap.size w0 W → IsSt W (.agg C) (newZ en dn df wt mo n f) → Calls Tryd.prog 15 #[.slice ca cn cc, .agg C, .int .i64 ((A : Int) + B)] W fun e w' => ∃ C', e = .returned (.tuple #[.agg C', .int .i64 (M : Int)]) ∧ IsSt w' (.agg C') U ∧ Below W.heap.size W w') := fun W C hW hI => by
    have h := from_st hI HF0.out ca cn cc cf (by omega) hc (FC.out.later (bnext HA.out hW)) (T1.out.later hW) (A + B) (by omega)
    rw [eU, eM] at h; rw [← Int.natCast_add]; exact h
  have D1 : Hid (∀ W, Below w0.heap.size w0 W → Calls Tryd.prog 10 #[.agg (imageV ca cn cc en da dn dc wt (mo : Int)), .slice a n c, .int .i64 (A : Int)] W fun e w' => ∃ oa oc ma mc, e = .returned (.agg (traceV oa T.on_ oc T.en T.cd T.ft ma T.mn mc (N : Int))) ∧
      (Head oa T.on_ oc ∧ Bytes w' oa T.on_ T.of_) ∧ (Head ma T.mn mc ∧ Bytes w' ma T.mn T.mf) ∧ Below W.heap.size W w') := fun W hW => by
    have h := do_st W ca cn cc cf en da dn dc df wt mo a n c f (A : Int) (by omega) (by omega) (by omega) (by omega) (by omega) (by omega) (by omega) hc hd hh (FC.out.later (bnext HA.out hW)) (FD.out.later (bnext HA.out hW)) (FNN.out.later (bnext HA.out hW)) (T1.out.later hW)
    rw [show ((A : Int)).toNat = A from by omega, eT, eN] at h
    refine h.mono ?_
    rintro e w' ⟨oa, oc, ma, mc, h1, h2, ⟨h3, h4, h5⟩, h6⟩
    refine ⟨oa, oc, ma, mc, h1, h2, ⟨h3, h5, ?_⟩, h6⟩
    obtain h4 | ⟨g, rfl, -, h4⟩ := h4
    · exact .inl h4
    · exact .inr ⟨g, 0, rfl, fun i hi => by rw [Nat.zero_add]; exact h4.1 i hi⟩
  have D2 : Hid (∀ W, Below w0.heap.size w0 W → Calls Tryd.prog 10 #[.agg (imageV ca cn cc en da dn dc wt (mo : Int)), .slice a n c, .int .i64 ((A : Int) + B)] W fun e w' => ∃ oa oc ma mc, e = .returned (.agg (traceV oa U.on_ oc U.en U.cd U.ft ma U.mn mc (M : Int))) ∧
      (Head oa U.on_ oc ∧ Bytes w' oa U.on_ U.of_) ∧ (Head ma U.mn mc ∧ Bytes w' ma U.mn U.mf) ∧ Below W.heap.size W w') := fun W hW => by
    have h := do_st W ca cn cc cf en da dn dc df wt mo a n c f ((A : Int) + B) (by omega) (by omega) (by omega) (by omega) (by omega) (by omega) (by omega) hc hd hh (FC.out.later (bnext HA.out hW)) (FD.out.later (bnext HA.out hW)) (FNN.out.later (bnext HA.out hW)) (T1.out.later hW)
    rw [show (((A : Int) + B)).toNat = (A + B) from by omega, eU, eM] at h
    refine h.mono ?_
    rintro e w' ⟨oa, oc, ma, mc, h1, h2, ⟨h3, h4, h5⟩, h6⟩
    refine ⟨oa, oc, ma, mc, h1, h2, ⟨h3, h5, ?_⟩, h6⟩
    obtain h4 | ⟨g, rfl, -, h4⟩ := h4
    · exact .inl h4
    · exact .inr ⟨g, 0, rfl, fun i hi => by rw [Nat.zero_add]; exact h4.1 i hi⟩
  clear hC hD hN eT eN eU eM eL hTU1
  go_upto_region 3 with (first
    | (go_at_call 8; refine (awake7 _ T1.out).mono ?_; rintro e w1 ⟨rfl, hb1⟩; have x0 : w1.cell? ⟨w.heap.size, 0, none⟩ = some (.slice ca cn cc) := cell_later' (X0.out 0 _ rfl) hb1; have x1 : w1.cell? ⟨w.heap.size, 1, none⟩ = some (.int .i64 en) := cell_later' (X0.out 1 _ rfl) hb1; have x2 : w1.cell? ⟨w.heap.size, 2, none⟩ = some (.slice da dn dc) := cell_later' (X0.out 2 _ rfl) hb1; have x3 : w1.cell? ⟨w.heap.size, 3, none⟩ = some (.int .i64 wt) := cell_later' (X0.out 3 _ rfl) hb1; have x4 : w1.cell? ⟨w.heap.size, 4, none⟩ = some (.int .i64 (mo : Int)) := cell_later' (X0.out 4 _ rfl) hb1)
    | (go_at_call 9; refine (FN.out _).mono ?_; rintro e w2 ⟨rfl, hb2⟩; have z0 := cell_later' x0 hb2; have z1 := cell_later' x1 hb2; have z2 := cell_later' x2 hb2; have z3 := cell_later' x3 hb2; have z4 := cell_later' x4 hb2))
  have Q2 : Hid (Below w0.heap.size w0 w2) := bnext hb1 hb2
  have D2' : Hid (Bytes w2 da dn df) := FD.out.later (bnext HA.out Q2.out)
  have N2' : Hid (Bytes w2 a n f) := FNN.out.later (bnext HA.out Q2.out)
  clear x0 x1 x2 x3 x4 hb1 hb2
  go_upto_region 4 with (first
    | (go_at_call 11; refine (rnew_st w2 ca cn cc en da dn dc df wt mo a n c f (by omega) (by omega) (by omega) hd hh D2'.out N2'.out).mono ?_; rintro e w3 ⟨C3, rfl, I3, hb3⟩)
    | ((with_reducible show wpList _ _ _ (Oper.mk _ (Op.store _ _ _) _ _ _ _ :: _) _ _); refine wpList_store_fresh rfl 37 (.tmp 9) (.tmp 33) rfl w3 _ _ C3 rfl rfl (by rw [(st_shape I3).1]; rfl) (st_info I3).1 (st_shape I3).2 ?_; intro w4 hb4 A4 Z4))
  have Q4 : Hid (Below w0.heap.size w0 w4) := bnext (bnext Q2.out hb3) hb4
  have I4 : Hid (IsSt w4 (.agg C3) (newZ en dn df wt mo n f)) := I3.later hb4
  have A4' : Hid (At w4 w3.heap.size C3) := A4
  clear z0 z1 z2 z3 z4 hb3 hb4 I3 Z4 A4 Q2 D2' N2'
  generalize w3.heap.size = g9 at A4' ⊢
  have x0 : w4.cell? ⟨w.heap.size, 0, none⟩ = some (.slice ca cn cc) := cell_later' (X0.out 0 _ rfl) Q4.out
  have x1 : w4.cell? ⟨w.heap.size, 1, none⟩ = some (.int .i64 en) := cell_later' (X0.out 1 _ rfl) Q4.out
  have x2 : w4.cell? ⟨w.heap.size, 2, none⟩ = some (.slice da dn dc) := cell_later' (X0.out 2 _ rfl) Q4.out
  have x3 : w4.cell? ⟨w.heap.size, 3, none⟩ = some (.int .i64 wt) := cell_later' (X0.out 3 _ rfl) Q4.out
  have x4 : w4.cell? ⟨w.heap.size, 4, none⟩ = some (.int .i64 mo) := cell_later' (X0.out 4 _ rfl) Q4.out
  go_upto_region 5 with (first
    | ((with_reducible show wpList _ _ _ (Oper.mk _ (Op.load _ _) _ _ _ _ :: _) _ _); refine wpList_load_if (by first | rfl | go_simp) 37 (.tmp 9) rfl g9 0 rfl C3.toList _ (at_range A4'.out) Tryd.underlying37 rfl (st_info I4.out).2 ?_)
    | (go_at_call 15; refine (F1.out _ _ Q4.out I4.out).mono ?_; rintro e w5 ⟨C5, rfl, I5, hb5⟩)
    | ((with_reducible show wpList _ _ _ (Oper.mk _ (Op.store _ _ _) _ _ _ _ :: _) _ _); refine wpList_store_fresh rfl 37 (.tmp 10) (.tmp 41) rfl w5 _ _ C5 rfl rfl (by rw [(st_shape I5).1]; rfl) (st_info I5).1 (st_shape I5).2 ?_; intro w6 hb6 A6 Z6))
  have Q46 : Hid (Below w4.heap.size w4 w6) := bnext hb5 hb6
  have Q6 : Hid (Below w0.heap.size w0 w6) := bnext Q4.out Q46.out
  have I6 : Hid (IsSt w6 (.agg C5) T) := I5.later hb6
  have A6' : Hid (At w6 w5.heap.size C5) := A6
  have A46 : Hid (At w6 g9 C3) := A4'.out.later Q46.out
  have I46 : Hid (IsSt w6 (.agg C3) (newZ en dn df wt mo n f)) := I4.out.later Q46.out
  clear x0 x1 x2 x3 x4 hb5 hb6 I5 Z6 A6 Q46 A4' I4 F1
  generalize w5.heap.size = g10 at A6' ⊢
  have x0 : w6.cell? ⟨w.heap.size, 0, none⟩ = some (.slice ca cn cc) := cell_later' (X0.out 0 _ rfl) Q6.out
  have x1 : w6.cell? ⟨w.heap.size, 1, none⟩ = some (.int .i64 en) := cell_later' (X0.out 1 _ rfl) Q6.out
  have x2 : w6.cell? ⟨w.heap.size, 2, none⟩ = some (.slice da dn dc) := cell_later' (X0.out 2 _ rfl) Q6.out
  have x3 : w6.cell? ⟨w.heap.size, 3, none⟩ = some (.int .i64 wt) := cell_later' (X0.out 3 _ rfl) Q6.out
  have x4 : w6.cell? ⟨w.heap.size, 4, none⟩ = some (.int .i64 mo) := cell_later' (X0.out 4 _ rfl) Q6.out
  go_upto_region 6 with (first
    | ((with_reducible show wpList _ _ _ (Oper.mk _ (Op.load _ _) _ _ _ _ :: _) _ _); refine wpList_load_if (by first | rfl | go_simp) 37 (.tmp 10) rfl g10 0 rfl C5.toList _ (at_range A6'.out) Tryd.underlying37 rfl (st_info I6.out).2 ?_)
    | (go_at_call 15; refine (F2.out _ _ Q6.out I6.out).mono ?_; rintro e w7 ⟨C7, rfl, I7, hb7⟩)
    | ((with_reducible show wpList _ _ _ (Oper.mk _ (Op.store _ _ _) _ _ _ _ :: _) _ _); refine wpList_store_fresh rfl 37 (.tmp 12) (.tmp 50) rfl w7 _ _ C7 rfl rfl (by rw [(st_shape I7).1]; rfl) (st_info I7).1 (st_shape I7).2 ?_; intro w8 hb8 A8 Z8))
  have Q68 : Hid (Below w6.heap.size w6 w8) := bnext hb7 hb8
  have Q8 : Hid (Below w0.heap.size w0 w8) := bnext Q6.out Q68.out
  have I8 : Hid (IsSt w8 (.agg C7) U) := I7.later hb8
  have A8' : Hid (At w8 w7.heap.size C7) := A8
  have A48 : Hid (At w8 g9 C3) := A46.out.later Q68.out
  have I48 : Hid (IsSt w8 (.agg C3) (newZ en dn df wt mo n f)) := I46.out.later Q68.out
  clear x0 x1 x2 x3 x4 hb7 hb8 I7 Z8 A8 Q68 A46 I46 A6' I6 F2 Q6
  generalize w7.heap.size = g12 at A8' ⊢
  have x0 : w8.cell? ⟨w.heap.size, 0, none⟩ = some (.slice ca cn cc) := cell_later' (X0.out 0 _ rfl) Q8.out
  have x1 : w8.cell? ⟨w.heap.size, 1, none⟩ = some (.int .i64 en) := cell_later' (X0.out 1 _ rfl) Q8.out
  have x2 : w8.cell? ⟨w.heap.size, 2, none⟩ = some (.slice da dn dc) := cell_later' (X0.out 2 _ rfl) Q8.out
  have x3 : w8.cell? ⟨w.heap.size, 3, none⟩ = some (.int .i64 wt) := cell_later' (X0.out 3 _ rfl) Q8.out
  have x4 : w8.cell? ⟨w.heap.size, 4, none⟩ = some (.int .i64 mo) := cell_later' (X0.out 4 _ rfl) Q8.out
  go_upto_region 7 with (first
    | ((with_reducible show wpList _ _ _ (Oper.mk _ (Op.load _ _) _ _ _ _ :: _) _ _); refine wpList_load_if (by first | rfl | go_simp) 37 (.tmp 9) rfl g9 0 rfl C3.toList _ (at_range A48.out) Tryd.underlying37 rfl (st_info I48.out).2 ?_)
    | (go_at_call 15; refine (F3.out _ _ Q8.out I48.out).mono ?_; rintro e w9 ⟨C9, rfl, I9, hb9⟩)
    | ((with_reducible show wpList _ _ _ (Oper.mk _ (Op.store _ _ _) _ _ _ _ :: _) _ _); refine wpList_store_fresh rfl 37 (.tmp 14) (.tmp 62) rfl w9 _ _ C9 rfl rfl (by rw [(st_shape I9).1]; rfl) (st_info I9).1 (st_shape I9).2 ?_; intro wA hbA AA ZA))
  have QA : Hid (Below w8.heap.size w8 wA) := bnext hb9 hbA
  have Q10 : Hid (Below w0.heap.size w0 wA) := bnext Q8.out QA.out
  have IA : Hid (IsSt wA (.agg C9) U) := I9.later hbA
  have AA' : Hid (At wA w9.heap.size C9) := AA
  have A8A : Hid (At wA g12 C7) := A8'.out.later QA.out
  have I8A : Hid (IsSt wA (.agg C7) U) := I8.out.later QA.out
  clear x0 x1 x2 x3 x4 hb9 hbA I9 ZA AA QA A48 I48 A8' I8 F3 Q8
  generalize w9.heap.size = g14 at AA' ⊢
  have SM : Hid (∀ W, Below wA.heap.size wA W → Calls Tryd.prog 16 #[.agg C7, .agg C9] W fun e w' => e = .returned (.bool true) ∧ Below W.heap.size W w') := fun W hW => by
    have lU : U.bn ≤ 100000 ∧ U.mn ≤ 100000 ∧ U.inn ≤ 100000 ∧ U.on_ ≤ 100000 := by have h1 := HFU.out.bn; have h2 := HFU.out.mn; have h3 := HFU.out.inn; have h4 := HFU.out.on_; omega
    have h := rsame6_st (I8A.out.later hW) (IA.out.later hW) lU lU
    rwa [same_self] at h
  have qq : ((N : Int) + L != M) = false := by simp; omega
  have qr : decide ((N : Int) > A) = false := by simp; omega
  have qr2 : decide (A < N) = false := by simp; omega
  go_upto_region 9 with (first
    | ((with_reducible show wpList _ _ _ (Oper.mk _ (Op.load _ _) _ _ _ _ :: _) _ _); refine wpList_load_if (by first | rfl | go_simp) 37 (.tmp 12) rfl g12 0 rfl C7.toList _ (at_range A8A.out) Tryd.underlying37 rfl (st_info I8A.out).2 ?_)
    | ((with_reducible show wpList _ _ _ (Oper.mk _ (Op.load _ _) _ _ _ _ :: _) _ _); refine wpList_load_if (by first | rfl | go_simp) 37 (.tmp 14) rfl g14 0 rfl C9.toList _ (at_range AA'.out) Tryd.underlying37 rfl (st_info IA.out).2 ?_)
    | (go_at_call 16; refine (SM.out _ (Below.refl _ _)).mono ?_; rintro e wB ⟨rfl, hbB⟩))
  have QB : Hid (Below w0.heap.size w0 wB) := bnext Q10.out hbB
  clear hbB SM IA AA' A8A I8A Q10 qq qr qr2
  have x0 : wB.cell? ⟨w.heap.size, 0, none⟩ = some (.slice ca cn cc) := cell_later' (X0.out 0 _ rfl) QB.out
  have x1 : wB.cell? ⟨w.heap.size, 1, none⟩ = some (.int .i64 en) := cell_later' (X0.out 1 _ rfl) QB.out
  have x2 : wB.cell? ⟨w.heap.size, 2, none⟩ = some (.slice da dn dc) := cell_later' (X0.out 2 _ rfl) QB.out
  have x3 : wB.cell? ⟨w.heap.size, 3, none⟩ = some (.int .i64 wt) := cell_later' (X0.out 3 _ rfl) QB.out
  have x4 : wB.cell? ⟨w.heap.size, 4, none⟩ = some (.int .i64 mo) := cell_later' (X0.out 4 _ rfl) QB.out
  go_upto_region 10 with (go_at_call 10; refine (D1.out _ QB.out).mono ?_; rintro e wC ⟨oaA, ocA, maA, mcA, rfl, hoA, hmA, hbA⟩)
  have QC : Hid (Below w0.heap.size w0 wC) := bnext QB.out hbA
  have bb : Below wC.heap.size wC (wC.alloc (.cells (traceV oaA T.on_ ocA T.en T.cd T.ft maA T.mn mcA (N : Int)) 30)) := (Below.refl _ _).alloc (Nat.le_refl _) _
  have RA : Hid (∀ j v, (traceV oaA T.on_ ocA T.en T.cd T.ft maA T.mn mcA (N : Int))[j]? = some v → (wC.alloc (.cells (traceV oaA T.on_ ocA T.en T.cd T.ft maA T.mn mcA (N : Int)) 30)).cell? ⟨wC.heap.size, j, none⟩ = some v) := fun j v h => new_cell' wC _ _ j v h
  have QD : Hid (Below w0.heap.size w0 (wC.alloc (.cells (traceV oaA T.on_ ocA T.en T.cd T.ft maA T.mn mcA (N : Int)) 30))) := bnext QC.out bb
  have TIA : Hid (IsTr (wC.alloc (.cells (traceV oaA T.on_ ocA T.en T.cd T.ft maA T.mn mcA (N : Int)) 30)) (.agg (traceV oaA T.on_ ocA T.en T.cd T.ft maA T.mn mcA (N : Int))) { on_ := T.on_, of_ := T.of_, en := T.en, cd := T.cd, ft := T.ft, mn := T.mn, mf := T.mf, st := (N : Int) }) := ⟨oaA, ocA, maA, mcA, rfl, ⟨hoA.1, hoA.2.later bb⟩, hmA.1, hmA.2.later bb⟩
  clear bb hoA hmA x0 x1 x2 x3 x4 hbA D1 QC QB
  generalize wC.heap.size = g16 at RA ⊢
  generalize wC.alloc (.cells (traceV oaA T.on_ ocA T.en T.cd T.ft maA T.mn mcA (N : Int)) 30) = wD at RA QD TIA ⊢
  have x0 : wD.cell? ⟨w.heap.size, 0, none⟩ = some (.slice ca cn cc) := cell_later' (X0.out 0 _ rfl) QD.out
  have x1 : wD.cell? ⟨w.heap.size, 1, none⟩ = some (.int .i64 en) := cell_later' (X0.out 1 _ rfl) QD.out
  have x2 : wD.cell? ⟨w.heap.size, 2, none⟩ = some (.slice da dn dc) := cell_later' (X0.out 2 _ rfl) QD.out
  have x3 : wD.cell? ⟨w.heap.size, 3, none⟩ = some (.int .i64 wt) := cell_later' (X0.out 3 _ rfl) QD.out
  have x4 : wD.cell? ⟨w.heap.size, 4, none⟩ = some (.int .i64 mo) := cell_later' (X0.out 4 _ rfl) QD.out
  go_upto_region 11 with (go_at_call 10; refine (D2.out _ QD.out).mono ?_; rintro e wE ⟨oaB, ocB, maB, mcB, rfl, hoB, hmB, hbB⟩)
  have QE : Hid (Below wD.heap.size wD wE) := hbB
  have QE' : Hid (Below w0.heap.size w0 wE) := bnext QD.out hbB
  have bb : Below wE.heap.size wE (wE.alloc (.cells (traceV oaB U.on_ ocB U.en U.cd U.ft maB U.mn mcB (M : Int)) 30)) := (Below.refl _ _).alloc (Nat.le_refl _) _
  have RB : Hid (∀ j v, (traceV oaB U.on_ ocB U.en U.cd U.ft maB U.mn mcB (M : Int))[j]? = some v → (wE.alloc (.cells (traceV oaB U.on_ ocB U.en U.cd U.ft maB U.mn mcB (M : Int)) 30)).cell? ⟨wE.heap.size, j, none⟩ = some v) := fun j v h => new_cell' wE _ _ j v h
  have QF : Hid (Below w0.heap.size w0 (wE.alloc (.cells (traceV oaB U.on_ ocB U.en U.cd U.ft maB U.mn mcB (M : Int)) 30))) := bnext QE'.out bb
  have TIB : Hid (IsTr (wE.alloc (.cells (traceV oaB U.on_ ocB U.en U.cd U.ft maB U.mn mcB (M : Int)) 30)) (.agg (traceV oaB U.on_ ocB U.en U.cd U.ft maB U.mn mcB (M : Int))) { on_ := U.on_, of_ := U.of_, en := U.en, cd := U.cd, ft := U.ft, mn := U.mn, mf := U.mf, st := (M : Int) }) := ⟨oaB, ocB, maB, mcB, rfl, ⟨hoB.1, hoB.2.later bb⟩, hmB.1, hmB.2.later bb⟩
  have QDF : Hid (Below wD.heap.size wD (wE.alloc (.cells (traceV oaB U.on_ ocB U.en U.cd U.ft maB U.mn mcB (M : Int)) 30))) := bnext QE.out bb
  clear bb hoB hmB x0 x1 x2 x3 x4 D2 QE'
  generalize wE.heap.size = g17 at RB ⊢
  generalize wE.alloc (.cells (traceV oaB U.on_ ocB U.en U.cd U.ft maB U.mn mcB (M : Int)) 30) = wF at RB QF TIB QDF ⊢
  have p0 : wF.cell? ⟨g16, 0, none⟩ = some (.slice oaA T.on_ ocA) := cell_later' (RA.out 0 _ rfl) QDF.out
  have p1 : wF.cell? ⟨g16, 1, none⟩ = some (.bool T.en) := cell_later' (RA.out 1 _ rfl) QDF.out
  have p2 : wF.cell? ⟨g16, 2, none⟩ = some (.int .u32 T.cd) := cell_later' (RA.out 2 _ rfl) QDF.out
  have p3 : wF.cell? ⟨g16, 3, none⟩ = some (.int .i64 T.ft) := cell_later' (RA.out 3 _ rfl) QDF.out
  have p4 : wF.cell? ⟨g16, 4, none⟩ = some (.slice maA T.mn mcA) := cell_later' (RA.out 4 _ rfl) QDF.out
  have p5 : wF.cell? ⟨g16, 5, none⟩ = some (.int .i64 N) := cell_later' (RA.out 5 _ rfl) QDF.out
  have q0 : wF.cell? ⟨g17, 0, none⟩ = some (.slice oaB U.on_ ocB) := RB.out 0 _ rfl
  have q1 : wF.cell? ⟨g17, 1, none⟩ = some (.bool U.en) := RB.out 1 _ rfl
  have q2 : wF.cell? ⟨g17, 2, none⟩ = some (.int .u32 U.cd) := RB.out 2 _ rfl
  have q3 : wF.cell? ⟨g17, 3, none⟩ = some (.int .i64 U.ft) := RB.out 3 _ rfl
  have q4 : wF.cell? ⟨g17, 4, none⟩ = some (.slice maB U.mn mcB) := RB.out 4 _ rfl
  have q5 : wF.cell? ⟨g17, 5, none⟩ = some (.int .i64 M) := RB.out 5 _ rfl
  have TIA6 : Hid (IsTr wF (.agg (traceV oaA T.on_ ocA T.en T.cd T.ft maA T.mn mcA (N : Int))) { on_ := T.on_, of_ := T.of_, en := T.en, cd := T.cd, ft := T.ft, mn := T.mn, mf := T.mf, st := (N : Int) }) := TIA.out.later QDF.out
  clear TIA RA RB QD QE QDF hbB HF0 HFT
  cases hen : T.en
  · rw [hen] at p1
    clear HEnd TIA6 TIB q0 q1 q2 q3 q4 q5
    go_wp2
    go_ret
    exact ⟨rfl, bnext HA.out QF.out⟩
  · obtain ⟨rfl, rfl⟩ := HEnd.out hen
    have AK : Hid (∀ W, Below wF.heap.size wF W → Calls Tryd.prog 17 #[.agg (traceV oaA U.on_ ocA U.en U.cd U.ft maA U.mn mcA (M : Int)), .agg (traceV oaB U.on_ ocB U.en U.cd U.ft maB U.mn mcB (M : Int))] W fun e w' => e = .returned (.bool true) ∧ Below W.heap.size W w') := fun W hW => by
      have h := alike_st (TIA6.out.later hW) (TIB.out.later hW) ⟨by simp only []; omega, by simp only []; omega⟩ ⟨by simp only []; omega, by simp only []; omega⟩
      rwa [alike_self] at h
    rw [hen] at p1 q1
    simp only [hen] at AK
    clear HEnd TIA6 TIB
    go_wp2_with (go_at_call 17; refine (AK.out _ (Below.refl _ _)).mono ?_; rintro e w7 ⟨rfl, hb7⟩; have p0' := cell_later' p0 hb7; have q0' := cell_later' q0 hb7; have p1' := cell_later' p1 hb7; have q1' := cell_later' q1 hb7; have p2' := cell_later' p2 hb7; have q2' := cell_later' q2 hb7; have p3' := cell_later' p3 hb7; have q3' := cell_later' q3 hb7; have p4' := cell_later' p4 hb7; have q4' := cell_later' q4 hb7; have p5' := cell_later' p5 hb7; have q5' := cell_later' q5 hb7)
    go_ret
    exact ⟨rfl, bnext (bnext HA.out QF.out) hb7⟩
theorem walk (w : World) (ca : Option Addr) (cn cc : Nat) (cf : Nat → Int) (en : Int) (da : Option Addr) (dn dc : Nat) (df : Nat → Int) (wt mo : Int)
    (hm : (cn ≤ cc ∧ cc ≤ maxLen ∧ (ca = none → cc = 0) ∧ RowK .u32 w ca cn cf) ∧ (Lit.int .i64 en).wf = true ∧ (dn ≤ dc ∧ dc ≤ maxLen ∧ (da = none → dc = 0) ∧ Bytes w da dn df) ∧ (Lit.int .i64 wt).wf = true ∧ (Lit.int .i64 mo).wf = true)
    (a : Option Addr) (n c : Nat) (f : Nat → Int) (h0 : n ≤ c ∧ c ≤ maxLen ∧ (a = none → c = 0) ∧ RowK .u8 w a n f) (x : Int) (hxw : (Lit.int .u8 x).wf = true) (y : Int) (hyw : (Lit.int .u8 y).wf = true) (hT : Tab w) :
    Calls Tryd.prog 4 #[.agg #[.slice ca cn cc, .int .i64 en, .slice da dn dc, .int .i64 wt, .int .i64 mo], .slice a n c, .int .u8 x, .int .u8 y] w fun e w' => e = .returned (.bool true) ∧ Below w.heap.size w w' := by
  obtain ⟨⟨k1, k2, k3, hC⟩, -, ⟨d1, d2, d3, hD⟩, -, -⟩ := hm
  obtain ⟨hn0, hm0, hnil0, hw⟩ := h0
  have hN : Bytes w a n f := ⟨fun i => wf_u8_bd (hw.1 i), hw.2⟩
  have hx := wf_u8_bd hxw
  have hy := wf_u8_bd hyw
  cases hz : fineZ en wt mo dn cn
  · exact parts_early0 w ca cn cc cf en da dn dc df wt mo a n c x y hz hT
  by_cases hn : 200 < n
  · exact parts_early1 w ca cn cc cf en da dn dc df wt mo a n c x y hz hn hT
  obtain ⟨mn, rfl⟩ : ∃ mn : Nat, mo = mn := ⟨mo.toNat, by unfold fineZ at hz; rw [decide_eq_true_eq] at hz; omega⟩
  obtain ⟨A, rfl⟩ := Int.eq_ofNat_of_zero_le hx.1
  obtain ⟨B, rfl⟩ := Int.eq_ofNat_of_zero_le hy.1
  exact parts_main w ca cn cc cf en da dn dc df wt mn a n c f A B hz (by omega) (by omega) (by omega) ⟨k1, k3⟩ ⟨d1, d3⟩ ⟨hn0, hnil0⟩ hC hD hN hT

/-! ### The row's step -/
set_option maxRecDepth 100000 in
theorem lifted (os : Os) (started : os.Started) (H : Type) (enc : TypeId × Value → H) :
    ReturnsInHanded {} Tryd.checked os 4 .any (fun w args => (Rows.runPartsSpec.pre enc Tryd.prog Tryd.f4 [] false w args ∧ laidMetH Tryd.prog laidL w) ∧ sizedMet enc Tryd.prog Tryd.f4 (OpenSpec.ofChange Rows.runPartsSpec) false w args)
      (Rows.runPartsSpec.post enc Tryd.prog Tryd.f4 false true false false) := by
  refine returnsInHanded_of_change_and (C := Tryd.checked) (X := fun w _ => laidMetH Tryd.prog laidL w) (fun _ _ _ hh h => h.of_heap hh) own started (by kernel_rfl) Tryd.func4
    (ChangeSpec.witness_shaped (enc := enc) (C := Tryd.checked) (os := os) (X := fun w _ => laidMetH Tryd.prog laidL w) false (World.doorLaid Tryd.prog 40 os) #[.agg #[.slice none 0 0, .int .i64 0, .slice none 0 0, .int .i64 0, .int .i64 0], .slice none 0 0, .int .u8 0, .int .u8 0] 8 rfl (World.shaped_of_RefB (by kernel_rfl) (by kernel_rfl)) (by kernel_rfl) (by kernel_rfl) (by kernel_rfl) (door_met os _)) ?_
  intro W base args ds gs before hval0 hW _ _ hL _
  have hval : ∀ (j : Nat) t v, Tryd.f4.params[j]? = some t → args[j]? = some v → Value.okWide Tryd.prog W .any base t v := hval0
  have hW' := hW
  obtain ⟨p, q, hA0, hV, rfl, hfz, hnd⟩ := hW
  have hA : DataW.TrodAll enc Tryd.prog W 0 (fun _ => true) true Tryd.f4.params.toList args.toList ds p := hA0
  rw [Tryd.params4] at hA hval
  obtain ⟨v0, vs0, d0, ds0, p0, q0, hargs, rfl, rfl, h0, r0⟩ := trodAll_cons hA
  obtain ⟨v1, vs1, d1, ds1, p1, q1, rfl, rfl, rfl, h1, r1⟩ := trodAll_cons r0
  obtain ⟨v2, vs2, d2, ds2, p2, q2, rfl, rfl, rfl, h2, r2⟩ := trodAll_cons r1
  obtain ⟨v3, vs3, d3, ds3, p3, q3, rfl, rfl, rfl, h3, r3⟩ := trodAll_cons r2
  obtain ⟨rfl, rfl, rfl⟩ := trodAll_nil r3
  obtain rfl : args = #[v0, v1, v2, v3] := by cases args; simp_all
  obtain ⟨rfl, rfl⟩ := trodVars_none hV
  have hT := tab_of hL
  have k0 := h0
  have lt0 : ∀ x ∈ p0, x.block < W.heap.size := by obtain ⟨m, hm⟩ := k0; exact DataW.trod_lt m _ _ _ hm
  obtain ⟨vca0, vcn0, vcc0, vcf0, ven0, vda0, vdn0, vdc0, vdf0, vwt0, vmo0, rfl, w0⟩ := open_image (hval 0 25 v0 rfl rfl) h0
  have k1 := h1
  have lt1 : ∀ x ∈ p1, x.block < W.heap.size := by obtain ⟨m, hm⟩ := k1; exact DataW.trod_lt m _ _ _ hm
  obtain ⟨va1, vn1, vc1, vf1, rfl, w1⟩ := open_sl Tryd.underlying23 Tryd.underlying5 (by kernel_rfl) (hval 1 23 v1 rfl rfl) h1
  obtain ⟨a2, rfl, rfl, rfl, w2⟩ := open_int Tryd.underlying5 (hval 2 5 v2 rfl rfl) h2
  obtain ⟨a3, rfl, rfl, rfl, w3⟩ := open_int Tryd.underlying5 (hval 3 5 v3 rfl rfl) h3
  clear hA0 hval0
  refine (walk W vca0 vcn0 vcc0 vcf0 ven0 vda0 vdn0 vdc0 vdf0 vwt0 vmo0 w0 va1 vn1 vc1 vf1 w1 a2 w2 a3 w3 hT).mono fun e W' ⟨he, bel⟩ => ?_
  subst he
  exact ⟨_, rfl, _, _, _, [], _, [], hW', trodAll_mk1 (shut_bool Tryd.underlying4 _), (trodAll_cons_mk (Below.trod laidOut (by kernel_rfl) (of_decide_eq_true (by kernel_rfl)) k0 bel lt0) (trodAll_cons_mk (Below.trod laidOut (by kernel_rfl) (of_decide_eq_true (by kernel_rfl)) k1 bel lt1) (trodAll_cons_mk (shut_int Tryd.underlying5 w2) (trodAll_cons_mk (shut_int Tryd.underlying5 w3) trodAll_mk0)))), rfl, bel.frame _, fun h => by cases h⟩

theorem over : Rows.RunPartsSaid :=
  OpenClaim.holds_of_wide 4 Tryd.f4 rfl rfl rfl rfl rfl rfl rfl ⟨rfl, rfl, rfl, rfl, rfl⟩ rfl rfl rfl rfl rfl (by kernel_rfl) Tryd.func4 (by kernel_rfl)
    (of_decide_eq_true (by kernel_rfl)) (by unfold Func.isWrapper; first | (rw [if_pos (by decide +kernel)]; kernel_rfl) | (rw [if_neg (by decide +kernel)]; exact ⟨rfl, rfl⟩))
    (fun os started H enc _ => lifted os started H enc)

/-- The tied card. -/
theorem card : Rows.RunPartsCardSaid :=
  Claim7.holds_tied_plain_at .later [] [.data] true (true, "c72f633930f7a357c4a2a2024328d705ae8589c9b4b8ffd14eafe99737a9bc53") false
    over (fun _ h => by cases h) (by kernel_rfl) (fun _ h => by cases h) runParts_row_tie rfl ⟨rfl, rfl⟩ (by kernel_rfl) rfl
    (fun f fn hf hfn => by
      obtain rfl : f = 4 := Option.some.inj ((show Tryd.prog.funcNamed "splice/splicelaw07.RunParts" = some 4 by kernel_rfl).symm.trans hf) |>.symm
      obtain rfl : fn = Tryd.f4 := (Option.some.inj (Tryd.func4.symm.trans hfn)).symm
      exact ⟨by kernel_rfl, fun j t ht => by
        rw [Tryd.params4] at ht
        have hm : t ∈ [25, 23, 5, 5] := by simpa using Array.mem_of_getElem? ht
        have hall : ([25, 23, 5, 5].all fun u => !Tryd.prog.wantsStandIn u) = true := by kernel_rfl
        exact (show Tryd.prog.wantsStandIn t = false by simpa using List.all_eq_true.1 hall t hm)⟩)
    (by kernel_rfl)
end Go.Proofs.YtnpejnjigaalfaaDoor.runParts

namespace Go.Proofs.YtnpejnjigaalfaaDoor
theorem RunParts_holds : Rows.RunPartsCardSaid := runParts.card
#print axioms RunParts_holds
end Go.Proofs.YtnpejnjigaalfaaDoor
