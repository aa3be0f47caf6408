/- For every image, input and two numbers RunEnds returns true: a run that ended has the same end with whatever more fuel, after as many steps, and no number where it has a fault; one that didn't took all its fuel, and has neither. No condition. -/
import Derived.Test.YtnpejnjigaalfaaDoorDoorFrame
import Derived.Test.YtnpejnjigaalfaaDoorRunAwake
import Derived.Test.YtnpejnjigaalfaaDoorRunStep
import Derived.WalkKit
import Derived.ProofKit
namespace Go.Proofs.YtnpejnjigaalfaaDoor.runEnds
open Go.ChangeShapes Go.WideShapes Go.ChangeAt Go.RowKit Go.Deep
set_option linter.unusedVariables false

set_option maxRecDepth 100000 in
theorem ends_early0 (w : World) (ca : Option Addr) (cn cc : Nat) (cf : Nat → Int) (en : Int) (da : Option Addr) (dn dc : Nat) (df : Nat → Int) (wt mo : Int) (a : Option Addr) (n c : Nat) (x y : Int) (hz : fineZ en wt mo dn cn = false) (hT : Tab w) :
    Calls Tryd.prog 7 #[.agg (imageV ca cn cc en da dn dc wt mo), .slice a n c, .int .u16 x, .int .u16 y] w fun e w' => e = .returned (.bool true) ∧ Below w.heap.size w w' := by
  have HA : Hid (Below w.heap.size w (w.alloc (.cells (imageV ca cn cc en da dn dc wt mo) 25))) := (Below.refl _ w).alloc (Nat.le_refl _) _
  have X0 : Hid (∀ j v, (imageV ca cn cc en da dn dc wt mo)[j]? = some v → (w.alloc (.cells (imageV ca cn cc en da dn dc wt mo) 25)).cell? ⟨w.heap.size, j, none⟩ = some v) := fun j v h => new_cell' w _ _ j v h
  have T1 : Hid (Tab (w.alloc (.cells (imageV ca cn cc en da dn dc wt mo) 25))) := hT.later HA.out
  have FN : Hid (∀ W, Calls Tryd.prog 9 #[.agg (imageV ca cn cc en da dn dc wt mo)] W fun e w' => e = .returned (.bool false) ∧ Below W.heap.size W w') := fun W => by have h := fine_st W ca cn cc en da dn dc wt mo; rwa [hz] at h
  clear hT
  go_enter Tryd.func7, Tryd.ntmps7
  go_upto_region 1 with fail
  generalize (w.alloc (.cells (imageV ca cn cc en da dn dc wt mo) 25)) = w0 at HA X0 T1 ⊢
  go_wp2_with (first
    | (go_at_call 8; revert hb1; intro hb1; refine (awake7 _ (T1.out.later (bnext hb1 hb2))).mono ?_; rintro e w3 ⟨rfl, hb3⟩)
    | (go_at_call 8; refine (awake7 _ T1.out).mono ?_; rintro e w1 ⟨rfl, hb1⟩; have x0 : w1.cell? ⟨w.heap.size, 0, none⟩ = some (.slice ca cn cc) := cell_later' (X0.out 0 _ rfl) hb1; have x1 : w1.cell? ⟨w.heap.size, 1, none⟩ = some (.int .i64 en) := cell_later' (X0.out 1 _ rfl) hb1; have x2 : w1.cell? ⟨w.heap.size, 2, none⟩ = some (.slice da dn dc) := cell_later' (X0.out 2 _ rfl) hb1; have x3 : w1.cell? ⟨w.heap.size, 3, none⟩ = some (.int .i64 wt) := cell_later' (X0.out 3 _ rfl) hb1; have x4 : w1.cell? ⟨w.heap.size, 4, none⟩ = some (.int .i64 mo) := cell_later' (X0.out 4 _ rfl) hb1)
    | (go_at_call 9; refine (FN.out _).mono ?_; rintro e w2 ⟨rfl, hb2⟩))
  go_ret
  exact ⟨rfl, bnext (bnext (bnext HA.out hb1) hb2) hb3⟩
set_option maxRecDepth 100000 in
theorem ends_early1 (w : World) (ca : Option Addr) (cn cc : Nat) (cf : Nat → Int) (en : Int) (da : Option Addr) (dn dc : Nat) (df : Nat → Int) (wt mo : Int) (a : Option Addr) (n c : Nat) (x y : Int) (hz : fineZ en wt mo dn cn = true) (hn : 200 < n) (hT : Tab w) :
    Calls Tryd.prog 7 #[.agg (imageV ca cn cc en da dn dc wt mo), .slice a n c, .int .u16 x, .int .u16 y] w fun e w' => e = .returned (.bool true) ∧ Below w.heap.size w w' := by
  have g1 : decide ((n : Int) > 200) = true := by simp; omega
  have g2 : decide (200 < n) = true := by simp; omega
  have HA : Hid (Below w.heap.size w (w.alloc (.cells (imageV ca cn cc en da dn dc wt mo) 25))) := (Below.refl _ w).alloc (Nat.le_refl _) _
  have X0 : Hid (∀ j v, (imageV ca cn cc en da dn dc wt mo)[j]? = some v → (w.alloc (.cells (imageV ca cn cc en da dn dc wt mo) 25)).cell? ⟨w.heap.size, j, none⟩ = some v) := fun j v h => new_cell' w _ _ j v h
  have T1 : Hid (Tab (w.alloc (.cells (imageV ca cn cc en da dn dc wt mo) 25))) := hT.later HA.out
  have FN : Hid (∀ W, Calls Tryd.prog 9 #[.agg (imageV ca cn cc en da dn dc wt mo)] W fun e w' => e = .returned (.bool true) ∧ Below W.heap.size W w') := fun W => by have h := fine_st W ca cn cc en da dn dc wt mo; rwa [hz] at h
  clear hT
  go_enter Tryd.func7, Tryd.ntmps7
  go_upto_region 1 with fail
  generalize (w.alloc (.cells (imageV ca cn cc en da dn dc wt mo) 25)) = w0 at HA X0 T1 ⊢
  go_wp2_with (first
    | (go_at_call 8; revert hb1; intro hb1; refine (awake7 _ (T1.out.later (bnext hb1 hb2))).mono ?_; rintro e w3 ⟨rfl, hb3⟩)
    | (go_at_call 8; refine (awake7 _ T1.out).mono ?_; rintro e w1 ⟨rfl, hb1⟩; have x0 : w1.cell? ⟨w.heap.size, 0, none⟩ = some (.slice ca cn cc) := cell_later' (X0.out 0 _ rfl) hb1; have x1 : w1.cell? ⟨w.heap.size, 1, none⟩ = some (.int .i64 en) := cell_later' (X0.out 1 _ rfl) hb1; have x2 : w1.cell? ⟨w.heap.size, 2, none⟩ = some (.slice da dn dc) := cell_later' (X0.out 2 _ rfl) hb1; have x3 : w1.cell? ⟨w.heap.size, 3, none⟩ = some (.int .i64 wt) := cell_later' (X0.out 3 _ rfl) hb1; have x4 : w1.cell? ⟨w.heap.size, 4, none⟩ = some (.int .i64 mo) := cell_later' (X0.out 4 _ rfl) hb1)
    | (go_at_call 9; refine (FN.out _).mono ?_; rintro e w2 ⟨rfl, hb2⟩))
  go_ret
  exact ⟨rfl, bnext (bnext (bnext HA.out hb1) hb2) hb3⟩
set_option maxRecDepth 100000 in
set_option maxHeartbeats 2000000 in
theorem ends_main (w : World) (ca : Option Addr) (cn cc : Nat) (cf : Nat → Int) (en : Int) (da : Option Addr) (dn dc : Nat) (df : Nat → Int) (wt : Int) (mo : Nat) (a : Option Addr) (n c : Nat) (f : Nat → Int) (x y : Int) (hz : fineZ en wt mo dn cn = true) (hn : n ≤ 200) (hx : 0 ≤ x ∧ x < 65536) (hy : 0 ≤ y ∧ y < 65536)
    (hc : Head ca cn cc) (hd : Head da dn dc) (hh : Head a n c) (hC : RowK .u32 w ca cn cf) (hD : Bytes w da dn df) (hN : Bytes w a n f) (hT : Tab w) :
    Calls Tryd.prog 7 #[.agg (imageV ca cn cc en da dn dc wt (mo : Int)), .slice a n c, .int .u16 x, .int .u16 y] w fun e w' => e = .returned (.bool true) ∧ Below w.heap.size w w' := by
  have hfz := hz
  unfold fineZ at hfz
  rw [decide_eq_true_eq] at hfz
  obtain ⟨e0, t0, -, e1, t1, m1, d1, c1⟩ := hfz
  have g1 : decide ((n : Int) > 200) = false := by simp; omega
  have g2 : decide (200 < n) = false := by simp; omega
  have hF : Fit 0 (newZ en dn df wt mo n f) := fit_new en dn df wt mo n f ⟨e0, e1⟩ ⟨t0, t1⟩ (by omega) (by omega) hD.1 hN.1
  have HA : Hid (Below w.heap.size w (w.alloc (.cells (imageV ca cn cc en da dn dc wt (mo : Int)) 25))) := (Below.refl _ w).alloc (Nat.le_refl _) _
  have X0 : Hid (∀ j v, (imageV ca cn cc en da dn dc wt (mo : Int))[j]? = some v → (w.alloc (.cells (imageV ca cn cc en da dn dc wt (mo : Int)) 25)).cell? ⟨w.heap.size, j, none⟩ = some v) := fun j v h => new_cell' w _ _ j v h
  have T1 : Hid (Tab (w.alloc (.cells (imageV ca cn cc en da dn dc wt (mo : Int)) 25))) := hT.later HA.out
  have FN : Hid (∀ W, Calls Tryd.prog 9 #[.agg (imageV ca cn cc en da dn dc wt (mo : Int))] W fun e w' => e = .returned (.bool true) ∧ Below W.heap.size W w') := fun W => by have h := fine_st W ca cn cc en da dn dc wt (mo : Int); rwa [hz] at h
  have FD : Hid (Bytes w da dn df) := hD
  have FNN : Hid (Bytes w a n f) := hN
  have FC : Hid (RowK .u32 w ca cn cf) := hC
  obtain ⟨P, hP⟩ : ∃ P : Nat, x.tmod 1000 = P := ⟨(x.tmod 1000).toNat, by rw [Int.toNat_of_nonneg]; rw [Int.tmod_eq_emod_of_nonneg hx.1]; omega⟩
  obtain ⟨Q, hQ⟩ : ∃ Q : Nat, y.tmod 1000 = Q := ⟨(y.tmod 1000).toNat, by rw [Int.toNat_of_nonneg]; rw [Int.tmod_eq_emod_of_nonneg hy.1]; omega⟩
  have p1 : P < 1000 := by rw [Int.tmod_eq_emod_of_nonneg hx.1] at hP; omega
  have p2 : Q < 1000 := by rw [Int.tmod_eq_emod_of_nonneg hy.1] at hQ; omega
  obtain ⟨T, eT⟩ : ∃ T, itY cn cf (newZ en dn df wt mo n f) P = T := ⟨_, rfl⟩
  obtain ⟨N, eN⟩ : ∃ N, cntY cn cf (newZ en dn df wt mo n f) P = N := ⟨_, rfl⟩
  obtain ⟨U, eU⟩ : ∃ U, itY cn cf (newZ en dn df wt mo n f) (P + Q) = U := ⟨_, rfl⟩
  obtain ⟨M, eM⟩ : ∃ M, cntY cn cf (newZ en dn df wt mo n f) (P + Q) = M := ⟨_, rfl⟩
  have FT : Fit (0 + P) T := by rw [← eT]; exact fit_it hF (by omega) P
  have ft1 := FT.mn
  have ft2 := FT.on_
  have hCal : Calmly T := by rw [← eT]; exact calmly_it (calmly_new _ _ _ _ _ _ _) P
  have hNP : N ≤ P := by rw [← eN]; exact cntY_le _ _ _ _
  have hGo : T.en = false → N = P := fun h => by rw [← eN]; exact (cntY_going (by rw [eT]; exact h)).1
  have hEnd : T.en = true → U = T ∧ M = N := fun h => by
    have hE := itY_ended (n := cn) (f := cf) (s := (newZ en dn df wt mo n f)) (k := P) (by rw [eT]; exact h) Q
    rw [eU, eM, eT, eN] at hE; exact hE
  clear FT
  have HCal : Hid (Calmly T) := hCal
  have HGo : Hid (T.en = false → N = P) := hGo
  have HEnd : Hid (T.en = true → U = T ∧ M = N) := hEnd
  clear hCal hGo hEnd
  clear hT
  go_enter Tryd.func7, Tryd.ntmps7
  go_upto_region 1 with fail
  generalize (w.alloc (.cells (imageV ca cn cc en da dn dc wt (mo : Int)) 25)) = w0 at HA X0 T1 ⊢
  have D1 : Hid (∀ W, Below w0.heap.size w0 W → Calls Tryd.prog 10 #[.agg (imageV ca cn cc en da dn dc wt (mo : Int)), .slice a n c, .int .i64 (P : Int)] W fun e w' => ∃ oa oc ma mc, e = .returned (.agg (traceV oa T.on_ oc T.en T.cd T.ft ma T.mn mc (N : Int))) ∧
      (Head oa T.on_ oc ∧ Bytes w' oa T.on_ T.of_) ∧ (Head ma T.mn mc ∧ Bytes w' ma T.mn T.mf) ∧ Below W.heap.size W w') := fun W hW => by
    have h := do_st W ca cn cc cf en da dn dc df wt mo a n c f (P : Int) (by omega) (by omega) (by omega) (by omega) (by omega) (by omega) (by omega) hc hd hh (FC.out.later (bnext HA.out hW)) (FD.out.later (bnext HA.out hW)) (FNN.out.later (bnext HA.out hW)) (T1.out.later hW)
    rw [show ((P : Int)).toNat = P from by omega, eT, eN] at h
    refine h.mono ?_
    rintro e w' ⟨oa, oc, ma, mc, h1, h2, ⟨h3, h4, h5⟩, h6⟩
    refine ⟨oa, oc, ma, mc, h1, h2, ⟨h3, h5, ?_⟩, h6⟩
    obtain h4 | ⟨g, rfl, -, h4⟩ := h4
    · exact .inl h4
    · exact .inr ⟨g, 0, rfl, fun i hi => by rw [Nat.zero_add]; exact h4.1 i hi⟩
  have D2 : Hid (∀ W, Below w0.heap.size w0 W → Calls Tryd.prog 10 #[.agg (imageV ca cn cc en da dn dc wt (mo : Int)), .slice a n c, .int .i64 ((P : Int) + Q)] W fun e w' => ∃ oa oc ma mc, e = .returned (.agg (traceV oa U.on_ oc U.en U.cd U.ft ma U.mn mc (M : Int))) ∧
      (Head oa U.on_ oc ∧ Bytes w' oa U.on_ U.of_) ∧ (Head ma U.mn mc ∧ Bytes w' ma U.mn U.mf) ∧ Below W.heap.size W w') := fun W hW => by
    have h := do_st W ca cn cc cf en da dn dc df wt mo a n c f ((P : Int) + Q) (by omega) (by omega) (by omega) (by omega) (by omega) (by omega) (by omega) hc hd hh (FC.out.later (bnext HA.out hW)) (FD.out.later (bnext HA.out hW)) (FNN.out.later (bnext HA.out hW)) (T1.out.later hW)
    rw [show (((P : Int) + Q)).toNat = (P + Q) from by omega, eU, eM] at h
    refine h.mono ?_
    rintro e w' ⟨oa, oc, ma, mc, h1, h2, ⟨h3, h4, h5⟩, h6⟩
    refine ⟨oa, oc, ma, mc, h1, h2, ⟨h3, h5, ?_⟩, h6⟩
    obtain h4 | ⟨g, rfl, -, h4⟩ := h4
    · exact .inl h4
    · exact .inr ⟨g, 0, rfl, fun i hi => by rw [Nat.zero_add]; exact h4.1 i hi⟩
  clear hC hD hN eT eN eU eM
  go_upto_region 5 with (first
    | (go_at_call 8; refine (awake7 _ T1.out).mono ?_; rintro e w1 ⟨rfl, hb1⟩; have x0 : w1.cell? ⟨w.heap.size, 0, none⟩ = some (.slice ca cn cc) := cell_later' (X0.out 0 _ rfl) hb1; have x1 : w1.cell? ⟨w.heap.size, 1, none⟩ = some (.int .i64 en) := cell_later' (X0.out 1 _ rfl) hb1; have x2 : w1.cell? ⟨w.heap.size, 2, none⟩ = some (.slice da dn dc) := cell_later' (X0.out 2 _ rfl) hb1; have x3 : w1.cell? ⟨w.heap.size, 3, none⟩ = some (.int .i64 wt) := cell_later' (X0.out 3 _ rfl) hb1; have x4 : w1.cell? ⟨w.heap.size, 4, none⟩ = some (.int .i64 (mo : Int)) := cell_later' (X0.out 4 _ rfl) hb1)
    | (go_at_call 9; refine (FN.out _).mono ?_; rintro e w2 ⟨rfl, hb2⟩; have z0 := cell_later' x0 hb2; have z1 := cell_later' x1 hb2; have z2 := cell_later' x2 hb2; have z3 := cell_later' x3 hb2; have z4 := cell_later' x4 hb2)
    | (go_at_call 10; refine (D1.out _ (bnext hb1 hb2)).mono ?_; rintro e w3 ⟨oaA, ocA, maA, mcA, rfl, hoA, hmA, hbA⟩))
  have Q3 : Hid (Below w0.heap.size w0 w3) := bnext (bnext hb1 hb2) hbA
  have bb : Below w3.heap.size w3 (w3.alloc (.cells (traceV oaA T.on_ ocA T.en T.cd T.ft maA T.mn mcA (N : Int)) 30)) := (Below.refl _ _).alloc (Nat.le_refl _) _
  have RA : Hid (∀ j v, (traceV oaA T.on_ ocA T.en T.cd T.ft maA T.mn mcA (N : Int))[j]? = some v → (w3.alloc (.cells (traceV oaA T.on_ ocA T.en T.cd T.ft maA T.mn mcA (N : Int)) 30)).cell? ⟨w3.heap.size, j, none⟩ = some v) := fun j v h => new_cell' w3 _ _ j v h
  have Q4 : Hid (Below w0.heap.size w0 (w3.alloc (.cells (traceV oaA T.on_ ocA T.en T.cd T.ft maA T.mn mcA (N : Int)) 30))) := bnext Q3.out bb
  have TIA : Hid (IsTr (w3.alloc (.cells (traceV oaA T.on_ ocA T.en T.cd T.ft maA T.mn mcA (N : Int)) 30)) (.agg (traceV oaA T.on_ ocA T.en T.cd T.ft maA T.mn mcA (N : Int))) { on_ := T.on_, of_ := T.of_, en := T.en, cd := T.cd, ft := T.ft, mn := T.mn, mf := T.mf, st := (N : Int) }) := ⟨oaA, ocA, maA, mcA, rfl, ⟨hoA.1, hoA.2.later bb⟩, hmA.1, hmA.2.later bb⟩
  clear bb hoA hmA x0 x1 x2 x3 x4 z0 z1 z2 z3 z4 hb1 hb2 hbA D1 FN Q3
  generalize w3.heap.size = g10 at RA ⊢
  generalize w3.alloc (.cells (traceV oaA T.on_ ocA T.en T.cd T.ft maA T.mn mcA (N : Int)) 30) = w4 at RA Q4 TIA ⊢
  have x0 : w4.cell? ⟨w.heap.size, 0, none⟩ = some (.slice ca cn cc) := cell_later' (X0.out 0 _ rfl) Q4.out
  have x1 : w4.cell? ⟨w.heap.size, 1, none⟩ = some (.int .i64 en) := cell_later' (X0.out 1 _ rfl) Q4.out
  have x2 : w4.cell? ⟨w.heap.size, 2, none⟩ = some (.slice da dn dc) := cell_later' (X0.out 2 _ rfl) Q4.out
  have x3 : w4.cell? ⟨w.heap.size, 3, none⟩ = some (.int .i64 wt) := cell_later' (X0.out 3 _ rfl) Q4.out
  have x4 : w4.cell? ⟨w.heap.size, 4, none⟩ = some (.int .i64 mo) := cell_later' (X0.out 4 _ rfl) Q4.out
  go_upto_region 6 with (go_at_call 10; refine (D2.out _ Q4.out).mono ?_; rintro e w5 ⟨oaB, ocB, maB, mcB, rfl, hoB, hmB, hbB⟩)
  have Q5 : Hid (Below w4.heap.size w4 w5) := hbB
  have Q5' : Hid (Below w0.heap.size w0 w5) := bnext Q4.out hbB
  have bb : Below w5.heap.size w5 (w5.alloc (.cells (traceV oaB U.on_ ocB U.en U.cd U.ft maB U.mn mcB (M : Int)) 30)) := (Below.refl _ _).alloc (Nat.le_refl _) _
  have RB : Hid (∀ j v, (traceV oaB U.on_ ocB U.en U.cd U.ft maB U.mn mcB (M : Int))[j]? = some v → (w5.alloc (.cells (traceV oaB U.on_ ocB U.en U.cd U.ft maB U.mn mcB (M : Int)) 30)).cell? ⟨w5.heap.size, j, none⟩ = some v) := fun j v h => new_cell' w5 _ _ j v h
  have Q6 : Hid (Below w0.heap.size w0 (w5.alloc (.cells (traceV oaB U.on_ ocB U.en U.cd U.ft maB U.mn mcB (M : Int)) 30))) := bnext Q5'.out bb
  have TIB : Hid (IsTr (w5.alloc (.cells (traceV oaB U.on_ ocB U.en U.cd U.ft maB U.mn mcB (M : Int)) 30)) (.agg (traceV oaB U.on_ ocB U.en U.cd U.ft maB U.mn mcB (M : Int))) { on_ := U.on_, of_ := U.of_, en := U.en, cd := U.cd, ft := U.ft, mn := U.mn, mf := U.mf, st := (M : Int) }) := ⟨oaB, ocB, maB, mcB, rfl, ⟨hoB.1, hoB.2.later bb⟩, hmB.1, hmB.2.later bb⟩
  have Q56 : Hid (Below w4.heap.size w4 (w5.alloc (.cells (traceV oaB U.on_ ocB U.en U.cd U.ft maB U.mn mcB (M : Int)) 30))) := bnext Q5.out bb
  clear bb hoB hmB x0 x1 x2 x3 x4 D2 Q5'
  generalize w5.heap.size = g11 at RB ⊢
  generalize w5.alloc (.cells (traceV oaB U.on_ ocB U.en U.cd U.ft maB U.mn mcB (M : Int)) 30) = w6 at RB Q6 TIB Q56 ⊢
  have p0 : w6.cell? ⟨g10, 0, none⟩ = some (.slice oaA T.on_ ocA) := cell_later' (RA.out 0 _ rfl) Q56.out
  have p1 : w6.cell? ⟨g10, 1, none⟩ = some (.bool T.en) := cell_later' (RA.out 1 _ rfl) Q56.out
  have p2 : w6.cell? ⟨g10, 2, none⟩ = some (.int .u32 T.cd) := cell_later' (RA.out 2 _ rfl) Q56.out
  have p3 : w6.cell? ⟨g10, 3, none⟩ = some (.int .i64 T.ft) := cell_later' (RA.out 3 _ rfl) Q56.out
  have p4 : w6.cell? ⟨g10, 4, none⟩ = some (.slice maA T.mn mcA) := cell_later' (RA.out 4 _ rfl) Q56.out
  have p5 : w6.cell? ⟨g10, 5, none⟩ = some (.int .i64 N) := cell_later' (RA.out 5 _ rfl) Q56.out
  have q0 : w6.cell? ⟨g11, 0, none⟩ = some (.slice oaB U.on_ ocB) := RB.out 0 _ rfl
  have q1 : w6.cell? ⟨g11, 1, none⟩ = some (.bool U.en) := RB.out 1 _ rfl
  have q2 : w6.cell? ⟨g11, 2, none⟩ = some (.int .u32 U.cd) := RB.out 2 _ rfl
  have q3 : w6.cell? ⟨g11, 3, none⟩ = some (.int .i64 U.ft) := RB.out 3 _ rfl
  have q4 : w6.cell? ⟨g11, 4, none⟩ = some (.slice maB U.mn mcB) := RB.out 4 _ rfl
  have q5 : w6.cell? ⟨g11, 5, none⟩ = some (.int .i64 M) := RB.out 5 _ rfl
  have TIA6 : Hid (IsTr w6 (.agg (traceV oaA T.on_ ocA T.en T.cd T.ft maA T.mn mcA (N : Int))) { on_ := T.on_, of_ := T.of_, en := T.en, cd := T.cd, ft := T.ft, mn := T.mn, mf := T.mf, st := (N : Int) }) := TIA.out.later Q56.out
  clear TIA RA RB Q4 Q5 Q56 hbB
  cases hen : T.en
  · have hNN := HGo.out hen
    obtain ⟨h1, h2⟩ := HCal.out.1 hen
    rw [hen] at p1
    rw [h1] at p2
    rw [h2] at p3
    rw [hNN] at p5
    clear HGo HCal HEnd TIA6 TIB hNN h1 h2 q0 q1 q2 q3 q4 q5
    go_wp2
    go_ret
    exact ⟨rfl, bnext HA.out Q6.out⟩
  · obtain ⟨rfl, rfl⟩ := HEnd.out hen
    have AK : Hid (∀ W, Below w6.heap.size w6 W → Calls Tryd.prog 17 #[.agg (traceV oaA U.on_ ocA U.en U.cd U.ft maA U.mn mcA (M : Int)), .agg (traceV oaB U.on_ ocB U.en U.cd U.ft maB U.mn mcB (M : Int))] W fun e w' => e = .returned (.bool true) ∧ Below W.heap.size W w') := fun W hW => by
      have h := alike_st (TIA6.out.later hW) (TIB.out.later hW) ⟨by simp only []; omega, by simp only []; omega⟩ ⟨by simp only []; omega, by simp only []; omega⟩
      rwa [alike_self] at h
    have hcd := HCal.out.2
    rw [hen] at p1 q1
    simp only [hen] at AK
    have hNP' : (M : Int) ≤ P := by omega
    clear HGo HCal HEnd TIA6 TIB
    obtain hft | hcd0 := hcd
    · rw [hft] at p3 q3
      simp only [hft] at AK
      go_wp2_with (go_at_call 17; refine (AK.out _ (Below.refl _ _)).mono ?_; rintro e w7 ⟨rfl, hb7⟩; have p0' := cell_later' p0 hb7; have q0' := cell_later' q0 hb7; have p1' := cell_later' p1 hb7; have q1' := cell_later' q1 hb7; have p2' := cell_later' p2 hb7; have q2' := cell_later' q2 hb7; have p3' := cell_later' p3 hb7; have q3' := cell_later' q3 hb7; have p4' := cell_later' p4 hb7; have q4' := cell_later' q4 hb7; have p5' := cell_later' p5 hb7; have q5' := cell_later' q5 hb7)
      go_ret
      exact ⟨rfl, bnext (bnext HA.out Q6.out) hb7⟩
    · rw [hcd0] at p2 q2
      simp only [hcd0] at AK
      by_cases hft : U.ft = 0
      · rw [hft] at p3 q3
        simp only [hft] at AK
        go_wp2_with (go_at_call 17; refine (AK.out _ (Below.refl _ _)).mono ?_; rintro e w7 ⟨rfl, hb7⟩; have p0' := cell_later' p0 hb7; have q0' := cell_later' q0 hb7; have p1' := cell_later' p1 hb7; have q1' := cell_later' q1 hb7; have p2' := cell_later' p2 hb7; have q2' := cell_later' q2 hb7; have p3' := cell_later' p3 hb7; have q3' := cell_later' q3 hb7; have p4' := cell_later' p4 hb7; have q4' := cell_later' q4 hb7; have p5' := cell_later' p5 hb7; have q5' := cell_later' q5 hb7)
        go_ret
        exact ⟨rfl, bnext (bnext HA.out Q6.out) hb7⟩
      · have hft' : (U.ft == 0) = false := by simp [hft]
        go_wp2_with (go_at_call 17; refine (AK.out _ (Below.refl _ _)).mono ?_; rintro e w7 ⟨rfl, hb7⟩; have p0' := cell_later' p0 hb7; have q0' := cell_later' q0 hb7; have p1' := cell_later' p1 hb7; have q1' := cell_later' q1 hb7; have p2' := cell_later' p2 hb7; have q2' := cell_later' q2 hb7; have p3' := cell_later' p3 hb7; have q3' := cell_later' q3 hb7; have p4' := cell_later' p4 hb7; have q4' := cell_later' q4 hb7; have p5' := cell_later' p5 hb7; have q5' := cell_later' q5 hb7)
        go_ret
        exact ⟨rfl, bnext (bnext HA.out Q6.out) hb7⟩
theorem walk (w : World) (ca : Option Addr) (cn cc : Nat) (cf : Nat → Int) (en : Int) (da : Option Addr) (dn dc : Nat) (df : Nat → Int) (wt mo : Int)
    (hm : (cn ≤ cc ∧ cc ≤ maxLen ∧ (ca = none → cc = 0) ∧ RowK .u32 w ca cn cf) ∧ (Lit.int .i64 en).wf = true ∧ (dn ≤ dc ∧ dc ≤ maxLen ∧ (da = none → dc = 0) ∧ Bytes w da dn df) ∧ (Lit.int .i64 wt).wf = true ∧ (Lit.int .i64 mo).wf = true)
    (a : Option Addr) (n c : Nat) (f : Nat → Int) (h0 : n ≤ c ∧ c ≤ maxLen ∧ (a = none → c = 0) ∧ RowK .u8 w a n f) (x : Int) (hxw : (Lit.int .u16 x).wf = true) (y : Int) (hyw : (Lit.int .u16 y).wf = true) (hT : Tab w) :
    Calls Tryd.prog 7 #[.agg #[.slice ca cn cc, .int .i64 en, .slice da dn dc, .int .i64 wt, .int .i64 mo], .slice a n c, .int .u16 x, .int .u16 y] w fun e w' => e = .returned (.bool true) ∧ Below w.heap.size w w' := by
  obtain ⟨⟨k1, k2, k3, hC⟩, -, ⟨d1, d2, d3, hD⟩, -, -⟩ := hm
  obtain ⟨hn0, hm0, hnil0, hw⟩ := h0
  have hN : Bytes w a n f := ⟨fun i => wf_u8_bd (hw.1 i), hw.2⟩
  have hx : 0 ≤ x ∧ x < 65536 := by simp [Lit.wf, IntKind.min, IntKind.max, IntKind.signed, IntKind.bits] at hxw; omega
  have hy : 0 ≤ y ∧ y < 65536 := by simp [Lit.wf, IntKind.min, IntKind.max, IntKind.signed, IntKind.bits] at hyw; omega
  cases hz : fineZ en wt mo dn cn
  · exact ends_early0 w ca cn cc cf en da dn dc df wt mo a n c x y hz hT
  by_cases hn : 200 < n
  · exact ends_early1 w ca cn cc cf en da dn dc df wt mo a n c x y hz hn hT
  obtain ⟨mn, rfl⟩ : ∃ mn : Nat, mo = mn := ⟨mo.toNat, by unfold fineZ at hz; rw [decide_eq_true_eq] at hz; omega⟩
  exact ends_main w ca cn cc cf en da dn dc df wt mn a n c f x y hz (by omega) hx hy ⟨k1, k3⟩ ⟨d1, d3⟩ ⟨hn0, hnil0⟩ hC hD hN hT

/-! ### The row's step -/
set_option maxRecDepth 100000 in
theorem lifted (os : Os) (started : os.Started) (H : Type) (enc : TypeId × Value → H) :
    ReturnsInHanded {} Tryd.checked os 7 .any (fun w args => (Rows.runEndsSpec.pre enc Tryd.prog Tryd.f7 [] false w args ∧ laidMetH Tryd.prog laidL w) ∧ sizedMet enc Tryd.prog Tryd.f7 (OpenSpec.ofChange Rows.runEndsSpec) false w args)
      (Rows.runEndsSpec.post enc Tryd.prog Tryd.f7 false true false false) := by
  refine returnsInHanded_of_change_and (C := Tryd.checked) (X := fun w _ => laidMetH Tryd.prog laidL w) (fun _ _ _ hh h => h.of_heap hh) own started (by kernel_rfl) Tryd.func7
    (ChangeSpec.witness_shaped (enc := enc) (C := Tryd.checked) (os := os) (X := fun w _ => laidMetH Tryd.prog laidL w) false (World.doorLaid Tryd.prog 40 os) #[.agg #[.slice none 0 0, .int .i64 0, .slice none 0 0, .int .i64 0, .int .i64 0], .slice none 0 0, .int .u16 0, .int .u16 0] 8 rfl (World.shaped_of_RefB (by kernel_rfl) (by kernel_rfl)) (by kernel_rfl) (by kernel_rfl) (by kernel_rfl) (door_met os _)) ?_
  intro W base args ds gs before hval0 hW _ _ hL _
  have hval : ∀ (j : Nat) t v, Tryd.f7.params[j]? = some t → args[j]? = some v → Value.okWide Tryd.prog W .any base t v := hval0
  have hW' := hW
  obtain ⟨p, q, hA0, hV, rfl, hfz, hnd⟩ := hW
  have hA : DataW.TrodAll enc Tryd.prog W 0 (fun _ => true) true Tryd.f7.params.toList args.toList ds p := hA0
  rw [Tryd.params7] at hA hval
  obtain ⟨v0, vs0, d0, ds0, p0, q0, hargs, rfl, rfl, h0, r0⟩ := trodAll_cons hA
  obtain ⟨v1, vs1, d1, ds1, p1, q1, rfl, rfl, rfl, h1, r1⟩ := trodAll_cons r0
  obtain ⟨v2, vs2, d2, ds2, p2, q2, rfl, rfl, rfl, h2, r2⟩ := trodAll_cons r1
  obtain ⟨v3, vs3, d3, ds3, p3, q3, rfl, rfl, rfl, h3, r3⟩ := trodAll_cons r2
  obtain ⟨rfl, rfl, rfl⟩ := trodAll_nil r3
  obtain rfl : args = #[v0, v1, v2, v3] := by cases args; simp_all
  obtain ⟨rfl, rfl⟩ := trodVars_none hV
  have hT := tab_of hL
  have k0 := h0
  have lt0 : ∀ x ∈ p0, x.block < W.heap.size := by obtain ⟨m, hm⟩ := k0; exact DataW.trod_lt m _ _ _ hm
  obtain ⟨vca0, vcn0, vcc0, vcf0, ven0, vda0, vdn0, vdc0, vdf0, vwt0, vmo0, rfl, w0⟩ := open_image (hval 0 25 v0 rfl rfl) h0
  have k1 := h1
  have lt1 : ∀ x ∈ p1, x.block < W.heap.size := by obtain ⟨m, hm⟩ := k1; exact DataW.trod_lt m _ _ _ hm
  obtain ⟨va1, vn1, vc1, vf1, rfl, w1⟩ := open_sl Tryd.underlying23 Tryd.underlying5 (by kernel_rfl) (hval 1 23 v1 rfl rfl) h1
  obtain ⟨a2, rfl, rfl, rfl, w2⟩ := open_int Tryd.underlying50 (hval 2 50 v2 rfl rfl) h2
  obtain ⟨a3, rfl, rfl, rfl, w3⟩ := open_int Tryd.underlying50 (hval 3 50 v3 rfl rfl) h3
  clear hA0 hval0
  refine (walk W vca0 vcn0 vcc0 vcf0 ven0 vda0 vdn0 vdc0 vdf0 vwt0 vmo0 w0 va1 vn1 vc1 vf1 w1 a2 w2 a3 w3 hT).mono fun e W' ⟨he, bel⟩ => ?_
  subst he
  exact ⟨_, rfl, _, _, _, [], _, [], hW', trodAll_mk1 (shut_bool Tryd.underlying4 _), (trodAll_cons_mk (Below.trod laidOut (by kernel_rfl) (of_decide_eq_true (by kernel_rfl)) k0 bel lt0) (trodAll_cons_mk (Below.trod laidOut (by kernel_rfl) (of_decide_eq_true (by kernel_rfl)) k1 bel lt1) (trodAll_cons_mk (shut_int Tryd.underlying50 w2) (trodAll_cons_mk (shut_int Tryd.underlying50 w3) trodAll_mk0)))), rfl, bel.frame _, fun h => by cases h⟩

theorem over : Rows.RunEndsSaid :=
  OpenClaim.holds_of_wide 7 Tryd.f7 rfl rfl rfl rfl rfl rfl rfl ⟨rfl, rfl, rfl, rfl, rfl⟩ rfl rfl rfl rfl rfl (by kernel_rfl) Tryd.func7 (by kernel_rfl)
    (of_decide_eq_true (by kernel_rfl)) (by unfold Func.isWrapper; first | (rw [if_pos (by decide +kernel)]; kernel_rfl) | (rw [if_neg (by decide +kernel)]; exact ⟨rfl, rfl⟩))
    (fun os started H enc _ => lifted os started H enc)

/-- The tied card. -/
theorem card : Rows.RunEndsCardSaid :=
  Claim7.holds_tied_plain_at .later [] [.data] true (true, "c72f633930f7a357c4a2a2024328d705ae8589c9b4b8ffd14eafe99737a9bc53") false
    over (fun _ h => by cases h) (by kernel_rfl) (fun _ h => by cases h) runEnds_row_tie rfl ⟨rfl, rfl⟩ (by kernel_rfl) rfl
    (fun f fn hf hfn => by
      obtain rfl : f = 7 := Option.some.inj ((show Tryd.prog.funcNamed "splice/splicelaw07.RunEnds" = some 7 by kernel_rfl).symm.trans hf) |>.symm
      obtain rfl : fn = Tryd.f7 := (Option.some.inj (Tryd.func7.symm.trans hfn)).symm
      exact ⟨by kernel_rfl, fun j t ht => by
        rw [Tryd.params7] at ht
        have hm : t ∈ [25, 23, 50, 50] := by simpa using Array.mem_of_getElem? ht
        have hall : ([25, 23, 50, 50].all fun u => !Tryd.prog.wantsStandIn u) = true := by kernel_rfl
        exact (show Tryd.prog.wantsStandIn t = false by simpa using List.all_eq_true.1 hall t hm)⟩)
    (by kernel_rfl)
end Go.Proofs.YtnpejnjigaalfaaDoor.runEnds

namespace Go.Proofs.YtnpejnjigaalfaaDoor
theorem RunEnds_holds : Rows.RunEndsCardSaid := runEnds.card
#print axioms RunEnds_holds
end Go.Proofs.YtnpejnjigaalfaaDoor
