/- What the code's Do returns. -/
import Derived.Test.YtnpejnjigaalfaaDoorRunFrom
import Derived.Test.YtnpejnjigaalfaaDoorCpuNew
import Derived.Test.YtnpejnjigaalfaaDoorRunKit
namespace Go.Proofs.YtnpejnjigaalfaaDoor
open Go.ChangeShapes Go.WideShapes Go.ChangeAt Go.RowKit
set_option linter.unusedVariables false
set_option linter.unusedSimpArgs false
def noTr : Array Value := #[.slice none 0 0, .bool false, .int .u32 0, .int .i64 0, .slice none 0 0, .int .i64 0]
theorem noTr_def : #[Value.slice none 0 0, .bool false, .int .u32 0, .int .i64 0, .slice none 0 0, .int .i64 0] = noTr := rfl
/-- Six cells of a block are written: rows in other blocks are as they were. -/
theorem bytes_six {w : World} {a : Option Addr} {n : Nat} {f : Nat → Int} (h : Bytes w a n f) {g : Nat} (hf : ∀ b off, a = some ⟨b, off, none⟩ → b ≠ g) (u0 u1 u2 u3 u4 u5 : Value) :
    Bytes ((((((w.setCell ⟨g, 0, none⟩ u0).setCell ⟨g, 1, none⟩ u1).setCell ⟨g, 2, none⟩ u2).setCell ⟨g, 3, none⟩ u3).setCell ⟨g, 4, none⟩ u4).setCell ⟨g, 5, none⟩ u5) a n f :=
  (((((h.set hf _ _).set hf _ _).set hf _ _).set hf _ _).set hf _ _).set hf _ _
theorem rowB_six {w : World} {k n : Nat} {f : Nat → Int} (h : RowB w k n f) {g : Nat} (hf : g ≠ k) (u0 u1 u2 u3 u4 u5 : Value) :
    RowB ((((((w.setCell ⟨g, 0, none⟩ u0).setCell ⟨g, 1, none⟩ u1).setCell ⟨g, 2, none⟩ u2).setCell ⟨g, 3, none⟩ u3).setCell ⟨g, 4, none⟩ u4).setCell ⟨g, 5, none⟩ u5) k n f :=
  (((((h.far hf _ _).far hf _ _).far hf _ _).far hf _ _).far hf _ _).far hf _ _
theorem below_six {B : Nat} {w0 w : World} {g : Nat} (h : Below B w0 w) (hg : B ≤ g) (u0 u1 u2 u3 u4 u5 : Value) :
    Below B w0 ((((((w.setCell ⟨g, 0, none⟩ u0).setCell ⟨g, 1, none⟩ u1).setCell ⟨g, 2, none⟩ u2).setCell ⟨g, 3, none⟩ u3).setCell ⟨g, 4, none⟩ u4).setCell ⟨g, 5, none⟩ u5) :=
  (((((h.setCell (p := ⟨g, 0, none⟩) hg _).setCell (p := ⟨g, 1, none⟩) hg _).setCell (p := ⟨g, 2, none⟩) hg _).setCell (p := ⟨g, 3, none⟩) hg _).setCell (p := ⟨g, 4, none⟩) hg _).setCell (p := ⟨g, 5, none⟩) hg _
set_option maxRecDepth 100000 in
set_option maxHeartbeats 4000000 in
theorem do_core (w : World) (ca : Option Addr) (cn cc : Nat) (cf : Nat → Int) (en : Int) (da : Option Addr) (dn dc : Nat) (df : Nat → Int) (wt : Int) (mo : Nat) (a : Option Addr) (n c : Nat) (f : Nat → Int) (k : Int) (T : St) (M : Nat)
    (hc : cn ≤ 1000) (he : 0 ≤ en ∧ en ≤ 1048576) (hwt : 0 ≤ wt ∧ wt ≤ 1048576) (hd : dn ≤ 1000) (hm : mo ≤ 1000) (hn : n ≤ 1000) (hk : k ≤ 4000) (h0 : Head ca cn cc) (h1 : Head da dn dc) (h2 : Head a n c) (hC : RowK .u32 w ca cn cf) (hD : Bytes w da dn df) (hI : Bytes w a n f) (hT : Tab w)
    (eT : (itY cn cf (newZ en dn df wt mo n f) k.toNat) = T) (eM : cntY cn cf (newZ en dn df wt mo n f) k.toNat = M) :
    Calls Tryd.prog 10 #[.agg (imageV ca cn cc en da dn dc wt (mo : Int)), .slice a n c, .int .i64 k] w fun e w' => ∃ oa oc ma mc, e = .returned (.agg (traceV oa T.on_ oc T.en T.cd T.ft ma T.mn mc (M : Int))) ∧ (Head oa T.on_ oc ∧ Bytes w' oa T.on_ T.of_) ∧
      (Head ma T.mn mc ∧ (T.mn = 0 ∨ ∃ g, ma = some ⟨g, 0, none⟩ ∧ w.heap.size ≤ g ∧ RowB w' g T.mn T.mf) ∧ ∀ j, 0 ≤ T.mf j ∧ T.mf j < 256) ∧ Below w.heap.size w w' := by
  have HA : Hid (Below w.heap.size w ((w.alloc (.cells (imageV ca cn cc en da dn dc wt (mo : Int)) 25)).alloc (.cells noTr 30))) := ((Below.refl _ w).alloc (Nat.le_refl _) _).alloc (by simp) _
  have X0 : Hid (∀ j v, (imageV ca cn cc en da dn dc wt (mo : Int))[j]? = some v → ((w.alloc (.cells (imageV ca cn cc en da dn dc wt (mo : Int)) 25)).alloc (.cells noTr 30)).cell? ⟨w.heap.size, j, none⟩ = some v) := fun j v h => cell_later' (new_cell' w _ _ j v h) ((Below.refl _ _).alloc (Nat.le_refl _) _)
  have Z0 : Hid (∀ j v, noTr[j]? = some v → ((w.alloc (.cells (imageV ca cn cc en da dn dc wt (mo : Int)) 25)).alloc (.cells noTr 30)).cell? ⟨w.heap.size + 1, j, none⟩ = some v) := fun j v h => by
    have h := new_cell' (w.alloc (.cells (imageV ca cn cc en da dn dc wt (mo : Int)) 25)) noTr 30 j v h
    rwa [show (w.alloc (.cells (imageV ca cn cc en da dn dc wt (mo : Int)) 25)).heap.size = w.heap.size + 1 from by simp] at h
  have F0 : Hid (∀ q, ((w.alloc (.cells (imageV ca cn cc en da dn dc wt (mo : Int)) 25)).alloc (.cells noTr 30)).frozen? ⟨w.heap.size + 1, q, none⟩ = false) := fun q => by simp [go_sem]
  have hF : Fit 0 (newZ en dn df wt mo n f) := fit_new en dn df wt mo n f he hwt (by omega) (by omega) hD.1 hI.1
  have FT : Fit (0 + k.toNat) T := by rw [← eT]; exact fit_it hF hc k.toNat
  have HFT : Hid (∀ j, 0 ≤ T.mf j ∧ T.mf j < 256) := FT.mf
  have NW : Hid (∀ W, Below ((w.alloc (.cells (imageV ca cn cc en da dn dc wt (mo : Int)) 25)).alloc (.cells noTr 30)).heap.size ((w.alloc (.cells (imageV ca cn cc en da dn dc wt (mo : Int)) 25)).alloc (.cells noTr 30)) W → Calls Tryd.prog 19 #[.agg (imageV ca cn cc en da dn dc wt (mo : Int)), .slice a n c] W fun e w' => ∃ C', e = .returned (.agg C') ∧ IsSt w' (.agg C') (newZ en dn df wt mo n f) ∧
      (∃ g, C'[19]? = some (.slice (some ⟨g, 0, none⟩) (dn + mo) (dn + mo)) ∧ W.heap.size ≤ g ∧ g < w'.heap.size ∧ ∀ q, w'.frozen? ⟨g, q, none⟩ = false) ∧ (∀ x, x < W.heap.size → Avoids C' x) ∧ Below W.heap.size W w') := fun W hW => new_post W ca cn cc en da dn dc df wt mo a n c f (by omega) (by omega) (by omega) h1 h2 (hD.later (bnext HA.out hW)) (hI.later (bnext HA.out hW))
  have FR : Hid (∀ W C', Below ((w.alloc (.cells (imageV ca cn cc en da dn dc wt (mo : Int)) 25)).alloc (.cells noTr 30)).heap.size ((w.alloc (.cells (imageV ca cn cc en da dn dc wt (mo : Int)) 25)).alloc (.cells noTr 30)) W → IsSt W (.agg C') (newZ en dn df wt mo n f) → Calls Tryd.prog 15 #[.slice ca cn cc, .agg C', .int .i64 k] W fun e w' => ∃ C9, e = .returned (.tuple #[.agg C9, .int .i64 (M : Int)]) ∧ IsSt w' (.agg C9) T ∧ Own W.heap.size w' C9 T.bn T.bf ∧ Below W.heap.size W w') := fun W C' hW hI' => by
    have h := from_any hI' hF ca cn cc cf hc h0 (hC.later (bnext HA.out hW)) (hT.later (bnext HA.out hW)) k (by omega)
    rw [eT, eM] at h
    exact h
  clear hC hD hI hT eT eM hF FT
  go_enter Tryd.func10, Tryd.ntmps10
  go_upto_region 1 with fail
  rw [noTr_def]
  generalize ((w.alloc (.cells (imageV ca cn cc en da dn dc wt (mo : Int)) 25)).alloc (.cells noTr 30)) = w0 at HA X0 Z0 F0 NW FR ⊢
  have x0 : w0.cell? ⟨w.heap.size, 0, none⟩ = some (.slice ca cn cc) := X0.out 0 _ rfl
  have x1 : w0.cell? ⟨w.heap.size, 1, none⟩ = some (.int .i64 en) := X0.out 1 _ rfl
  have x2 : w0.cell? ⟨w.heap.size, 2, none⟩ = some (.slice da dn dc) := X0.out 2 _ rfl
  have x3 : w0.cell? ⟨w.heap.size, 3, none⟩ = some (.int .i64 wt) := X0.out 3 _ rfl
  have x4 : w0.cell? ⟨w.heap.size, 4, none⟩ = some (.int .i64 mo) := X0.out 4 _ rfl
  have l0 : w.heap.size + 1 < w0.heap.size := World.block_lt_of_cell? w0 ⟨w.heap.size + 1, 0, none⟩ (Z0.out 0 _ rfl)
  refine wp_region_held_drew (S := fun w' => Below w0.heap.size w0 w') (by kernel_rfl) ?_ (fun hHeld => ?_)
  · exact (Below.refl _ _).drew
  refine wpAnyH_take (i := 0) (v := ?_) rfl (by kernel_rfl) (by kernel_rfl) (by kernel_rfl) (fun _ _ _ h => h) (Or.inl ⟨by rfl, ?_⟩) (by assumption) ?_
  rotate_left
  · intro w hSw; (try dsimp only at hSw); first | (go_simp; done) | (go_simp; with_reducible rfl)
  try simp only [Act.put, List.setIfInBounds_toArray, List.set_cons_zero, List.set_cons_succ]
  refine wpAnyH_take (i := 1) (v := .slice ca cn cc) rfl (by kernel_rfl) (by kernel_rfl) (by kernel_rfl) (fun _ _ _ h => h) (Or.inl ⟨by rfl, ?_⟩) (by assumption) ?_
  · intro w hSw; (try dsimp only at hSw); have f0 := cell_later' x0 hSw; have f1 := cell_later' x1 hSw; have f2 := cell_later' x2 hSw; have f3 := cell_later' x3 hSw; have f4 := cell_later' x4 hSw; first | (go_simp; done) | (go_simp; with_reducible rfl)
  try simp only [Act.put, List.setIfInBounds_toArray, List.set_cons_zero, List.set_cons_succ]
  refine wpAnyH_take (i := 2) (v := .agg (imageV ca cn cc en da dn dc wt (mo : Int))) rfl (by kernel_rfl) (by kernel_rfl) (by kernel_rfl) (fun _ _ _ h => h) (Or.inl ⟨by rfl, ?_⟩) (by assumption) ?_
  · intro w hSw; (try dsimp only at hSw); have f0 := cell_later' x0 hSw; have f1 := cell_later' x1 hSw; have f2 := cell_later' x2 hSw; have f3 := cell_later' x3 hSw; have f4 := cell_later' x4 hSw; first | (go_simp; done) | (go_simp; with_reducible rfl)
  try simp only [Act.put, List.setIfInBounds_toArray, List.set_cons_zero, List.set_cons_succ]
  refine wpAnyH_take (i := 3) (v := ?_) rfl (by kernel_rfl) (by kernel_rfl) (by kernel_rfl) (fun _ _ _ h => h) (Or.inl ⟨by rfl, ?_⟩) (by assumption) ?_
  rotate_left
  · intro w hSw; (try dsimp only at hSw); first | (go_simp; done) | (go_simp; with_reducible rfl)
  try simp only [Act.put, List.setIfInBounds_toArray, List.set_cons_zero, List.set_cons_succ]
  refine wpAnyH_take (i := 5) (v := ?_) rfl (by kernel_rfl) (by kernel_rfl) (by kernel_rfl) (fun _ _ _ h => h) (Or.inl ⟨by rfl, ?_⟩) (by assumption) ?_
  rotate_left
  · intro w hSw; (try dsimp only at hSw); first | (go_simp; done) | (go_simp; with_reducible rfl)
  try simp only [Act.put, List.setIfInBounds_toArray, List.set_cons_zero, List.set_cons_succ]
  refine wpAnyH_ready (rs := [4, 10]) (by kernel_rfl) (by simp) (AllReadyH.cons (o := { dst := some 14, op := Op.call { callee := .value (.func 19), args := #[.tmp 12, .tmp 13], argTypes := #[25, 23] }, type := _, pos := _, after := _, guard := none }) rfl (fun K hK => ?_) (AllReadyH.cons (o := { dst := some 7, op := Op.alloc 37, type := _, pos := _, after := _, guard := none }) rfl (fun K hK => ?_) AllReadyH.nil))
  · go_simp
    refine (NW.out _ hHeld).mono ?_
    rintro e w3 ⟨C3, rfl, I3, ⟨g3, m3, mg3, ml3, mf3⟩, V3, hb3⟩
    have l3 : w0.heap.size ≤ w3.heap.size := (bnext hHeld hb3).size
    have k3 : w0.heap.size ≤ g3 := Nat.le_trans hHeld.size mg3
    refine hK.out _ _ ?_ (fun hHeld => ?_)
    · exact bnext hHeld hb3
    clear hK K
    try simp only [Act.put, List.setIfInBounds_toArray, List.set_cons_zero, List.set_cons_succ]
    refine wpAnyH_ready (rs := [6, 10]) (by kernel_rfl) (by simp) (AllReadyH.cons (o := { dst := some 16, op := Op.call { callee := .value (.func 15), args := #[.tmp 11, .tmp 14, .tmp 15], argTypes := #[22, 37, 3] }, type := _, pos := _, after := _, guard := none }) rfl (fun K hK => ?_) (AllReadyH.cons (o := { dst := some 7, op := Op.alloc 37, type := _, pos := _, after := _, guard := none }) rfl (fun K hK => ?_) AllReadyH.nil))
    · go_simp
      refine (FR.out _ C3 hHeld (by first | exact I3 | exact I3.later (by repeat (first | exact Below.refl _ _ | refine keep_alloc ?_ _ | refine keep_drew ?_)))).mono ?_
      rintro e w4 ⟨C4, rfl, I4, O4, hb4⟩
      have l4 : w0.heap.size ≤ w4.heap.size := (bnext hHeld hb4).size
      refine hK.out _ _ ?_ (fun hHeld => ?_)
      · exact bnext hHeld hb4
      clear hK K
      try simp only [Act.put, List.setIfInBounds_toArray, List.set_cons_zero, List.set_cons_succ]
      have M4 : ∃ a n c, C4[19]? = some (.slice a n c) ∧ (n = 0 ∨ ∃ g, a = some ⟨g, 0, none⟩ ∧ w0.heap.size ≤ g ∧ g < w4.heap.size ∧ ∀ q, w4.frozen? ⟨g, q, none⟩ = false) := by
        obtain ⟨v, e, a, n', c', rfl, hm⟩ := O4.mem
        exact ⟨a, n', c', e, hm.imp id fun ⟨g, e, h1, h2, h3⟩ => ⟨g, e, (by have h5 := l3; (try simp at h1); omega), h2, h3⟩⟩
      have VR : Hid (Avoids C4 (w.heap.size + 1)) := O4.far _ (by first | omega | (simp; done) | (simp; omega))
      have VB : Avoids C4 (w4.heap.size) := avoids_new I4 (Nat.le_refl _)
      refine wpAnyH_take (i := 7) (v := ?_) rfl (by kernel_rfl) (by kernel_rfl) (by kernel_rfl) (fun _ _ _ h => h) (Or.inl ⟨by rfl, ?_⟩) (by assumption) ?_
      rotate_left
      · intro w hSw; (try dsimp only at hSw); first | (go_simp; done) | (go_simp; with_reducible rfl)
      try simp only [Act.put, List.setIfInBounds_toArray, List.set_cons_zero, List.set_cons_succ]
      refine wpAnyH_take (i := 8) (v := .agg C4) rfl (by kernel_rfl) (by kernel_rfl) (by kernel_rfl) (fun _ _ _ h => h) (Or.inl ⟨by rfl, ?_⟩) (by assumption) ?_
      · intro w hSw; (try dsimp only at hSw); first | (go_simp; done) | (go_simp; with_reducible rfl)
      try simp only [Act.put, List.setIfInBounds_toArray, List.set_cons_zero, List.set_cons_succ]
      refine wpAnyH_take (i := 9) (v := ?_) rfl (by kernel_rfl) (by kernel_rfl) (by kernel_rfl) (fun _ _ _ h => h) (Or.inl ⟨by rfl, ?_⟩) (by assumption) ?_
      rotate_left
      · intro w hSw; (try dsimp only at hSw); first | (go_simp; done) | (go_simp; with_reducible rfl)
      try simp only [Act.put, List.setIfInBounds_toArray, List.set_cons_zero, List.set_cons_succ]
      refine wpAnyH_ready (rs := [10]) (by kernel_rfl) (by simp) (AllReadyH.cons (o := { dst := some 7, op := Op.alloc 37, type := _, pos := _, after := _, guard := none }) rfl (fun K hK => ?_) AllReadyH.nil)
      go_simp
      refine hK.out _ _ ?_ (fun hHeld => ?_)
      · exact by repeat (first | exact hHeld | exact Below.refl _ _ | refine keep_alloc ?_ _ | refine keep_drew ?_ | exact (Below.refl _ _).drew)
      clear hK K
      try simp only [Act.put, List.setIfInBounds_toArray, List.set_cons_zero, List.set_cons_succ]
      have T4 : (w4.alloc (.cells noSt 37)).there (w4.heap.size) 0 25 := fresh_there w4 noSt noSt _ rfl
      refine wpAnyH_ready (rs := [11]) (by kernel_rfl) (by simp) (AllReadyH.cons (o := { dst := none, op := Op.store 37 (.tmp 7) (.tmp 17), type := _, pos := _, after := _, guard := none }) rfl (fun K hK => ?_) AllReadyH.nil)
      rw [if_pos (by rfl)]
      refine wp_store_mid 37 (.tmp 7) (.tmp 17) rfl (w4.heap.size) 0 C4 rfl rfl (by rw [(st_shape I4).1]; exact T4) (st_info I4).1 (st_shape I4).2 ?_
      refine hK.out _ _ ?_ (fun hHeld => ?_)
      · exact below_setCells _ _ _ _ hHeld (by omega)
      clear hK K
      try simp only [Act.put, List.setIfInBounds_toArray, List.set_cons_zero, List.set_cons_succ]
      refine wpAnyH_take (i := 12) (v := ?_) rfl (by kernel_rfl) (by kernel_rfl) (by kernel_rfl) (fun _ _ _ h => h) (Or.inl ⟨by rfl, ?_⟩) (by assumption) ?_
      rotate_left
      · intro w hSw; (try dsimp only at hSw); first | (go_simp; done) | (go_simp; with_reducible rfl)
      try simp only [Act.put, List.setIfInBounds_toArray, List.set_cons_zero, List.set_cons_succ]
      refine wpAnyH_done (by kernel_rfl) ?_ _
      try simp only [Act.put, List.setIfInBounds_toArray, List.set_cons_zero, List.set_cons_succ]
      rw [noSt_def]
      have AT : Hid (At ((w4.alloc (.cells noSt 37)).setCells (w4.heap.size) 0 C4.toList) (w4.heap.size) C4) := at_of_range (World.rangeAt_setCells_same _ _ 0 C4.toList (by rw [Array.length_toList, (st_shape I4).1]; exact T4))
      have IS : Hid (IsSt ((w4.alloc (.cells noSt 37)).setCells (w4.heap.size) 0 C4.toList) (.agg C4) T) := IsSt.setAll (VB) _ _ _ (I4.later ((Below.refl _ _).alloc (Nat.le_refl _) _))
      have MM : Hid (∃ a n c, C4[19]? = some (.slice a n c) ∧ (n = 0 ∨ ∃ g, a = some ⟨g, 0, none⟩ ∧ w0.heap.size ≤ g ∧ g < ((w4.alloc (.cells noSt 37)).setCells (w4.heap.size) 0 C4.toList).heap.size ∧ ∀ q, ((w4.alloc (.cells noSt 37)).setCells (w4.heap.size) 0 C4.toList).frozen? ⟨g, q, none⟩ = false)) := by
        obtain ⟨a, n', c', e, hm⟩ := M4
        exact ⟨a, n', c', e, hm.imp id fun ⟨g, e, h1, h2, h3⟩ => ⟨g, e, h1, by rw [size_setCells]; first | exact h2 | (simp; omega), fun q => by rw [frozen_setCells]; first | exact h3 q | (simp [go_sem]; exact h3 q) | exact ((Below.refl _ w4).alloc (Nat.le_refl _) _).frozen (p := ⟨g, q, none⟩) h2 |>.trans (h3 q)⟩⟩
      have QB : Hid (Below w0.heap.size w0 ((w4.alloc (.cells noSt 37)).setCells (w4.heap.size) 0 C4.toList)) := hHeld
      clear hHeld T4 M4 I4 hb4 hb3 O4 I3 m3 mg3 ml3 mf3 k3 l3 l4 V3 VB x0 x1 x2 x3 x4 NW FR
      generalize (w4.alloc (.cells noSt 37)).setCells (w4.heap.size) 0 C4.toList = w5 at AT IS MM QB ⊢
      generalize w4.heap.size = g7 at AT ⊢
      obtain ⟨ba, bc, ma, mc, ia, ic, oa, oc, eC, -, ⟨hm1, hm2⟩, -, ho1, ho2⟩ := st_cells IS.out
      have c19 : C4[19]? = some (.slice ma T.mn mc) := by rw [eC]; rfl
      have c21 : C4[21]? = some (.slice oa T.on_ oc) := by rw [eC]; rfl
      have p19 : w5.cell? ⟨g7, 19, none⟩ = some (.slice ma T.mn mc) := AT.out 19 _ c19
      have p21 : w5.cell? ⟨g7, 21, none⟩ = some (.slice oa T.on_ oc) := AT.out 21 _ (by rw [eC]; rfl)
      have p22 : w5.cell? ⟨g7, 22, none⟩ = some (.bool T.en) := AT.out 22 _ (by rw [eC]; rfl)
      have p23 : w5.cell? ⟨g7, 23, none⟩ = some (.int .u32 T.cd) := AT.out 23 _ (by rw [eC]; rfl)
      have p24 : w5.cell? ⟨g7, 24, none⟩ = some (.int .i64 T.ft) := AT.out 24 _ (by rw [eC]; rfl)
      obtain ⟨a9, n9, c9, e9, hm9⟩ := MM.out
      rw [c19] at e9
      simp only [Option.some.injEq, Value.slice.injEq] at e9
      obtain ⟨rfl, rfl, rfl⟩ := e9
      have RB : Hid (T.mn = 0 ∨ ∃ g9, ma = some ⟨g9, 0, none⟩ ∧ w0.heap.size ≤ g9 ∧ RowB w5 g9 T.mn T.mf) := by
        obtain h | ⟨g9, rfl, q1, q2, q3⟩ := hm9
        · exact .inl h
        obtain ⟨-, h | ⟨b', o', e, hcc⟩⟩ := hm2
        · exact .inl h
        · simp only [Option.some.injEq, Addr.mk.injEq] at e
          obtain ⟨rfl, rfl, -⟩ := e
          exact .inr ⟨g9, rfl, q1, fun i hi => by have := hcc i hi; rwa [Nat.zero_add] at this, q3, q2⟩
      have OO : Hid (Head oa T.on_ oc ∧ Bytes w5 oa T.on_ T.of_) := ⟨ho1, ho2⟩
      have OH : Hid (Head ma T.mn mc) := hm1
      have z0 : w5.cell? ⟨w.heap.size + 1, 0, none⟩ = some (.slice none 0 0) := cell_later' (Z0.out 0 _ rfl) QB.out
      have z1 : w5.cell? ⟨w.heap.size + 1, 1, none⟩ = some (.bool false) := cell_later' (Z0.out 1 _ rfl) QB.out
      have z2 : w5.cell? ⟨w.heap.size + 1, 2, none⟩ = some (.int .u32 0) := cell_later' (Z0.out 2 _ rfl) QB.out
      have z3 : w5.cell? ⟨w.heap.size + 1, 3, none⟩ = some (.int .i64 0) := cell_later' (Z0.out 3 _ rfl) QB.out
      have z4 : w5.cell? ⟨w.heap.size + 1, 4, none⟩ = some (.slice none 0 0) := cell_later' (Z0.out 4 _ rfl) QB.out
      have z5 : w5.cell? ⟨w.heap.size + 1, 5, none⟩ = some (.int .i64 0) := cell_later' (Z0.out 5 _ rfl) QB.out
      have f0 : ∀ q, w5.frozen? ⟨w.heap.size + 1, q, none⟩ = false := fun q => (QB.out.frozen (p := ⟨w.heap.size + 1, q, none⟩) l0).trans (F0.out q)
      have f0' := f0 0
      have f1' := f0 1
      have f2' := f0 2
      have f3' := f0 3
      have f4' := f0 4
      have f5' := f0 5
      have hOf : ∀ b off, oa = some ⟨b, off, none⟩ → T.on_ ≠ 0 → b ≠ w.heap.size + 1 := fun b off e hn => VR.out 21 ⟨b, off, none⟩ T.on_ oc (by rw [← e]; exact c21) hn
      clear eC c19 c21 hm1 hm2 ho1 ho2 hm9 f0 AT IS MM
      go_wp2
      refine bodyPost_ret (v := .agg (traceV oa T.on_ oc T.en T.cd T.ft ma T.mn mc (M : Int))) ?_ rfl ?_
      rotate_left
      refine ⟨oa, oc, ma, mc, rfl, ⟨OO.out.1, ?_⟩, ⟨OH.out, ?_, HFT.out⟩, below_six (bnext HA.out QB.out) (by omega) _ _ _ _ _ _⟩
      · obtain ⟨e1, h | ⟨b', o', e, hcc⟩⟩ := OO.out.2
        · exact ⟨e1, .inl h⟩
        · by_cases h0 : T.on_ = 0
          · exact ⟨e1, .inl h0⟩
          · exact bytes_six OO.out.2 (fun b off e => hOf b off e h0) _ _ _ _ _ _
      · exact RB.out.imp id fun ⟨g9, e9, h1, h⟩ => ⟨g9, e9, by have h2 := HA.out.size; omega, rowB_six h (by omega) _ _ _ _ _ _⟩
      · simp [results, Tryd.results10, go_sem, z0, z1, z2, z3, z4, z5]
    · go_simp
      refine hK.out _ _ ?_ (fun hHeld => ?_)
      · exact by repeat (first | exact hHeld | exact Below.refl _ _ | refine keep_alloc ?_ _ | refine keep_drew ?_ | exact (Below.refl _ _).drew)
      clear hK K
      try simp only [Act.put, List.setIfInBounds_toArray, List.set_cons_zero, List.set_cons_succ]
      refine wpAnyH_ready (rs := [6]) (by kernel_rfl) (by simp) (AllReadyH.cons (o := { dst := some 16, op := Op.call { callee := .value (.func 15), args := #[.tmp 11, .tmp 14, .tmp 15], argTypes := #[22, 37, 3] }, type := _, pos := _, after := _, guard := none }) rfl (fun K hK => ?_) AllReadyH.nil)
      go_simp
      refine (FR.out _ C3 hHeld (by first | exact I3 | exact I3.later (by repeat (first | exact Below.refl _ _ | refine keep_alloc ?_ _ | refine keep_drew ?_)))).mono ?_
      rintro e w4 ⟨C4, rfl, I4, O4, hb4⟩
      have l4 : w0.heap.size ≤ w4.heap.size := (bnext hHeld hb4).size
      refine hK.out _ _ ?_ (fun hHeld => ?_)
      · exact bnext hHeld hb4
      clear hK K
      try simp only [Act.put, List.setIfInBounds_toArray, List.set_cons_zero, List.set_cons_succ]
      have M4 : ∃ a n c, C4[19]? = some (.slice a n c) ∧ (n = 0 ∨ ∃ g, a = some ⟨g, 0, none⟩ ∧ w0.heap.size ≤ g ∧ g < w4.heap.size ∧ ∀ q, w4.frozen? ⟨g, q, none⟩ = false) := by
        obtain ⟨v, e, a, n', c', rfl, hm⟩ := O4.mem
        exact ⟨a, n', c', e, hm.imp id fun ⟨g, e, h1, h2, h3⟩ => ⟨g, e, (by have h5 := l3; (try simp at h1); omega), h2, h3⟩⟩
      have VR : Hid (Avoids C4 (w.heap.size + 1)) := O4.far _ (by first | omega | (simp; done) | (simp; omega))
      have VB : Avoids C4 (w3.heap.size) := O4.far _ (by first | omega | (simp; done) | (simp; omega))
      refine wpAnyH_take (i := 7) (v := ?_) rfl (by kernel_rfl) (by kernel_rfl) (by kernel_rfl) (fun _ _ _ h => h) (Or.inl ⟨by rfl, ?_⟩) (by assumption) ?_
      rotate_left
      · intro w hSw; (try dsimp only at hSw); first | (go_simp; done) | (go_simp; with_reducible rfl)
      try simp only [Act.put, List.setIfInBounds_toArray, List.set_cons_zero, List.set_cons_succ]
      refine wpAnyH_take (i := 8) (v := .agg C4) rfl (by kernel_rfl) (by kernel_rfl) (by kernel_rfl) (fun _ _ _ h => h) (Or.inl ⟨by rfl, ?_⟩) (by assumption) ?_
      · intro w hSw; (try dsimp only at hSw); first | (go_simp; done) | (go_simp; with_reducible rfl)
      try simp only [Act.put, List.setIfInBounds_toArray, List.set_cons_zero, List.set_cons_succ]
      refine wpAnyH_take (i := 9) (v := ?_) rfl (by kernel_rfl) (by kernel_rfl) (by kernel_rfl) (fun _ _ _ h => h) (Or.inl ⟨by rfl, ?_⟩) (by assumption) ?_
      rotate_left
      · intro w hSw; (try dsimp only at hSw); first | (go_simp; done) | (go_simp; with_reducible rfl)
      try simp only [Act.put, List.setIfInBounds_toArray, List.set_cons_zero, List.set_cons_succ]
      have T4 : w4.there (w3.heap.size) 0 25 := there_later (b := w3.heap.size) (fresh_there w3 noSt noSt _ rfl) hb4
      refine wpAnyH_ready (rs := [11]) (by kernel_rfl) (by simp) (AllReadyH.cons (o := { dst := none, op := Op.store 37 (.tmp 7) (.tmp 17), type := _, pos := _, after := _, guard := none }) rfl (fun K hK => ?_) AllReadyH.nil)
      rw [if_pos (by rfl)]
      refine wp_store_mid 37 (.tmp 7) (.tmp 17) rfl (w3.heap.size) 0 C4 rfl rfl (by rw [(st_shape I4).1]; exact T4) (st_info I4).1 (st_shape I4).2 ?_
      refine hK.out _ _ ?_ (fun hHeld => ?_)
      · exact below_setCells _ _ _ _ hHeld (by omega)
      clear hK K
      try simp only [Act.put, List.setIfInBounds_toArray, List.set_cons_zero, List.set_cons_succ]
      refine wpAnyH_take (i := 12) (v := ?_) rfl (by kernel_rfl) (by kernel_rfl) (by kernel_rfl) (fun _ _ _ h => h) (Or.inl ⟨by rfl, ?_⟩) (by assumption) ?_
      rotate_left
      · intro w hSw; (try dsimp only at hSw); first | (go_simp; done) | (go_simp; with_reducible rfl)
      try simp only [Act.put, List.setIfInBounds_toArray, List.set_cons_zero, List.set_cons_succ]
      refine wpAnyH_done (by kernel_rfl) ?_ _
      try simp only [Act.put, List.setIfInBounds_toArray, List.set_cons_zero, List.set_cons_succ]
      have AT : Hid (At (w4.setCells (w3.heap.size) 0 C4.toList) (w3.heap.size) C4) := at_of_range (World.rangeAt_setCells_same _ _ 0 C4.toList (by rw [Array.length_toList, (st_shape I4).1]; exact T4))
      have IS : Hid (IsSt (w4.setCells (w3.heap.size) 0 C4.toList) (.agg C4) T) := IsSt.setAll (VB) _ _ _ I4
      have MM : Hid (∃ a n c, C4[19]? = some (.slice a n c) ∧ (n = 0 ∨ ∃ g, a = some ⟨g, 0, none⟩ ∧ w0.heap.size ≤ g ∧ g < (w4.setCells (w3.heap.size) 0 C4.toList).heap.size ∧ ∀ q, (w4.setCells (w3.heap.size) 0 C4.toList).frozen? ⟨g, q, none⟩ = false)) := by
        obtain ⟨a, n', c', e, hm⟩ := M4
        exact ⟨a, n', c', e, hm.imp id fun ⟨g, e, h1, h2, h3⟩ => ⟨g, e, h1, by rw [size_setCells]; first | exact h2 | (simp; omega), fun q => by rw [frozen_setCells]; first | exact h3 q | (simp [go_sem]; exact h3 q) | exact ((Below.refl _ w4).alloc (Nat.le_refl _) _).frozen (p := ⟨g, q, none⟩) h2 |>.trans (h3 q)⟩⟩
      have QB : Hid (Below w0.heap.size w0 (w4.setCells (w3.heap.size) 0 C4.toList)) := hHeld
      clear hHeld T4 M4 I4 hb4 hb3 O4 I3 m3 mg3 ml3 mf3 k3 l3 l4 V3 VB x0 x1 x2 x3 x4 NW FR
      generalize w4.setCells (w3.heap.size) 0 C4.toList = w5 at AT IS MM QB ⊢
      generalize w3.heap.size = g7 at AT ⊢
      obtain ⟨ba, bc, ma, mc, ia, ic, oa, oc, eC, -, ⟨hm1, hm2⟩, -, ho1, ho2⟩ := st_cells IS.out
      have c19 : C4[19]? = some (.slice ma T.mn mc) := by rw [eC]; rfl
      have c21 : C4[21]? = some (.slice oa T.on_ oc) := by rw [eC]; rfl
      have p19 : w5.cell? ⟨g7, 19, none⟩ = some (.slice ma T.mn mc) := AT.out 19 _ c19
      have p21 : w5.cell? ⟨g7, 21, none⟩ = some (.slice oa T.on_ oc) := AT.out 21 _ (by rw [eC]; rfl)
      have p22 : w5.cell? ⟨g7, 22, none⟩ = some (.bool T.en) := AT.out 22 _ (by rw [eC]; rfl)
      have p23 : w5.cell? ⟨g7, 23, none⟩ = some (.int .u32 T.cd) := AT.out 23 _ (by rw [eC]; rfl)
      have p24 : w5.cell? ⟨g7, 24, none⟩ = some (.int .i64 T.ft) := AT.out 24 _ (by rw [eC]; rfl)
      obtain ⟨a9, n9, c9, e9, hm9⟩ := MM.out
      rw [c19] at e9
      simp only [Option.some.injEq, Value.slice.injEq] at e9
      obtain ⟨rfl, rfl, rfl⟩ := e9
      have RB : Hid (T.mn = 0 ∨ ∃ g9, ma = some ⟨g9, 0, none⟩ ∧ w0.heap.size ≤ g9 ∧ RowB w5 g9 T.mn T.mf) := by
        obtain h | ⟨g9, rfl, q1, q2, q3⟩ := hm9
        · exact .inl h
        obtain ⟨-, h | ⟨b', o', e, hcc⟩⟩ := hm2
        · exact .inl h
        · simp only [Option.some.injEq, Addr.mk.injEq] at e
          obtain ⟨rfl, rfl, -⟩ := e
          exact .inr ⟨g9, rfl, q1, fun i hi => by have := hcc i hi; rwa [Nat.zero_add] at this, q3, q2⟩
      have OO : Hid (Head oa T.on_ oc ∧ Bytes w5 oa T.on_ T.of_) := ⟨ho1, ho2⟩
      have OH : Hid (Head ma T.mn mc) := hm1
      have z0 : w5.cell? ⟨w.heap.size + 1, 0, none⟩ = some (.slice none 0 0) := cell_later' (Z0.out 0 _ rfl) QB.out
      have z1 : w5.cell? ⟨w.heap.size + 1, 1, none⟩ = some (.bool false) := cell_later' (Z0.out 1 _ rfl) QB.out
      have z2 : w5.cell? ⟨w.heap.size + 1, 2, none⟩ = some (.int .u32 0) := cell_later' (Z0.out 2 _ rfl) QB.out
      have z3 : w5.cell? ⟨w.heap.size + 1, 3, none⟩ = some (.int .i64 0) := cell_later' (Z0.out 3 _ rfl) QB.out
      have z4 : w5.cell? ⟨w.heap.size + 1, 4, none⟩ = some (.slice none 0 0) := cell_later' (Z0.out 4 _ rfl) QB.out
      have z5 : w5.cell? ⟨w.heap.size + 1, 5, none⟩ = some (.int .i64 0) := cell_later' (Z0.out 5 _ rfl) QB.out
      have f0 : ∀ q, w5.frozen? ⟨w.heap.size + 1, q, none⟩ = false := fun q => (QB.out.frozen (p := ⟨w.heap.size + 1, q, none⟩) l0).trans (F0.out q)
      have f0' := f0 0
      have f1' := f0 1
      have f2' := f0 2
      have f3' := f0 3
      have f4' := f0 4
      have f5' := f0 5
      have hOf : ∀ b off, oa = some ⟨b, off, none⟩ → T.on_ ≠ 0 → b ≠ w.heap.size + 1 := fun b off e hn => VR.out 21 ⟨b, off, none⟩ T.on_ oc (by rw [← e]; exact c21) hn
      clear eC c19 c21 hm1 hm2 ho1 ho2 hm9 f0 AT IS MM
      go_wp2
      refine bodyPost_ret (v := .agg (traceV oa T.on_ oc T.en T.cd T.ft ma T.mn mc (M : Int))) ?_ rfl ?_
      rotate_left
      refine ⟨oa, oc, ma, mc, rfl, ⟨OO.out.1, ?_⟩, ⟨OH.out, ?_, HFT.out⟩, below_six (bnext HA.out QB.out) (by omega) _ _ _ _ _ _⟩
      · obtain ⟨e1, h | ⟨b', o', e, hcc⟩⟩ := OO.out.2
        · exact ⟨e1, .inl h⟩
        · by_cases h0 : T.on_ = 0
          · exact ⟨e1, .inl h0⟩
          · exact bytes_six OO.out.2 (fun b off e => hOf b off e h0) _ _ _ _ _ _
      · exact RB.out.imp id fun ⟨g9, e9, h1, h⟩ => ⟨g9, e9, by have h2 := HA.out.size; omega, rowB_six h (by omega) _ _ _ _ _ _⟩
      · simp [results, Tryd.results10, go_sem, z0, z1, z2, z3, z4, z5]
  · go_simp
    refine hK.out _ _ ?_ (fun hHeld => ?_)
    · exact by repeat (first | exact hHeld | exact Below.refl _ _ | refine keep_alloc ?_ _ | refine keep_drew ?_ | exact (Below.refl _ _).drew)
    clear hK K
    try simp only [Act.put, List.setIfInBounds_toArray, List.set_cons_zero, List.set_cons_succ]
    refine wpAnyH_ready (rs := [4]) (by kernel_rfl) (by simp) (AllReadyH.cons (o := { dst := some 14, op := Op.call { callee := .value (.func 19), args := #[.tmp 12, .tmp 13], argTypes := #[25, 23] }, type := _, pos := _, after := _, guard := none }) rfl (fun K hK => ?_) AllReadyH.nil)
    go_simp
    refine (NW.out _ hHeld).mono ?_
    rintro e w3 ⟨C3, rfl, I3, ⟨g3, m3, mg3, ml3, mf3⟩, V3, hb3⟩
    have l3 : w0.heap.size ≤ w3.heap.size := (bnext hHeld hb3).size
    have k3 : w0.heap.size ≤ g3 := Nat.le_trans hHeld.size mg3
    refine hK.out _ _ ?_ (fun hHeld => ?_)
    · exact bnext hHeld hb3
    clear hK K
    try simp only [Act.put, List.setIfInBounds_toArray, List.set_cons_zero, List.set_cons_succ]
    refine wpAnyH_ready (rs := [6]) (by kernel_rfl) (by simp) (AllReadyH.cons (o := { dst := some 16, op := Op.call { callee := .value (.func 15), args := #[.tmp 11, .tmp 14, .tmp 15], argTypes := #[22, 37, 3] }, type := _, pos := _, after := _, guard := none }) rfl (fun K hK => ?_) AllReadyH.nil)
    go_simp
    refine (FR.out _ C3 hHeld (by first | exact I3 | exact I3.later (by repeat (first | exact Below.refl _ _ | refine keep_alloc ?_ _ | refine keep_drew ?_)))).mono ?_
    rintro e w4 ⟨C4, rfl, I4, O4, hb4⟩
    have l4 : w0.heap.size ≤ w4.heap.size := (bnext hHeld hb4).size
    refine hK.out _ _ ?_ (fun hHeld => ?_)
    · exact bnext hHeld hb4
    clear hK K
    try simp only [Act.put, List.setIfInBounds_toArray, List.set_cons_zero, List.set_cons_succ]
    have M4 : ∃ a n c, C4[19]? = some (.slice a n c) ∧ (n = 0 ∨ ∃ g, a = some ⟨g, 0, none⟩ ∧ w0.heap.size ≤ g ∧ g < w4.heap.size ∧ ∀ q, w4.frozen? ⟨g, q, none⟩ = false) := by
      obtain ⟨v, e, a, n', c', rfl, hm⟩ := O4.mem
      exact ⟨a, n', c', e, hm.imp id fun ⟨g, e, h1, h2, h3⟩ => ⟨g, e, (by have h5 := l3; (try simp at h1); omega), h2, h3⟩⟩
    have VR : Hid (Avoids C4 (w.heap.size + 1)) := O4.far _ (by first | omega | (simp; done) | (simp; omega))
    have VB : Avoids C4 (w0.heap.size) := O4.far _ (by omega)
    refine wpAnyH_take (i := 7) (v := ?_) rfl (by kernel_rfl) (by kernel_rfl) (by kernel_rfl) (fun _ _ _ h => h) (Or.inl ⟨by rfl, ?_⟩) (by assumption) ?_
    rotate_left
    · intro w hSw; (try dsimp only at hSw); first | (go_simp; done) | (go_simp; with_reducible rfl)
    try simp only [Act.put, List.setIfInBounds_toArray, List.set_cons_zero, List.set_cons_succ]
    refine wpAnyH_take (i := 8) (v := .agg C4) rfl (by kernel_rfl) (by kernel_rfl) (by kernel_rfl) (fun _ _ _ h => h) (Or.inl ⟨by rfl, ?_⟩) (by assumption) ?_
    · intro w hSw; (try dsimp only at hSw); first | (go_simp; done) | (go_simp; with_reducible rfl)
    try simp only [Act.put, List.setIfInBounds_toArray, List.set_cons_zero, List.set_cons_succ]
    refine wpAnyH_take (i := 9) (v := ?_) rfl (by kernel_rfl) (by kernel_rfl) (by kernel_rfl) (fun _ _ _ h => h) (Or.inl ⟨by rfl, ?_⟩) (by assumption) ?_
    rotate_left
    · intro w hSw; (try dsimp only at hSw); first | (go_simp; done) | (go_simp; with_reducible rfl)
    try simp only [Act.put, List.setIfInBounds_toArray, List.set_cons_zero, List.set_cons_succ]
    have T4 : w4.there (w0.heap.size) 0 25 := there_later (there_later (b := w0.heap.size) (fresh_there w0.drew noSt noSt _ rfl) hb3) hb4
    refine wpAnyH_ready (rs := [11]) (by kernel_rfl) (by simp) (AllReadyH.cons (o := { dst := none, op := Op.store 37 (.tmp 7) (.tmp 17), type := _, pos := _, after := _, guard := none }) rfl (fun K hK => ?_) AllReadyH.nil)
    rw [if_pos (by rfl)]
    refine wp_store_mid 37 (.tmp 7) (.tmp 17) rfl (w0.heap.size) 0 C4 rfl rfl (by rw [(st_shape I4).1]; exact T4) (st_info I4).1 (st_shape I4).2 ?_
    refine hK.out _ _ ?_ (fun hHeld => ?_)
    · exact below_setCells _ _ _ _ hHeld (by omega)
    clear hK K
    try simp only [Act.put, List.setIfInBounds_toArray, List.set_cons_zero, List.set_cons_succ]
    refine wpAnyH_take (i := 12) (v := ?_) rfl (by kernel_rfl) (by kernel_rfl) (by kernel_rfl) (fun _ _ _ h => h) (Or.inl ⟨by rfl, ?_⟩) (by assumption) ?_
    rotate_left
    · intro w hSw; (try dsimp only at hSw); first | (go_simp; done) | (go_simp; with_reducible rfl)
    try simp only [Act.put, List.setIfInBounds_toArray, List.set_cons_zero, List.set_cons_succ]
    refine wpAnyH_done (by kernel_rfl) ?_ _
    try simp only [Act.put, List.setIfInBounds_toArray, List.set_cons_zero, List.set_cons_succ]
    have AT : Hid (At (w4.setCells (w0.heap.size) 0 C4.toList) (w0.heap.size) C4) := at_of_range (World.rangeAt_setCells_same _ _ 0 C4.toList (by rw [Array.length_toList, (st_shape I4).1]; exact T4))
    have IS : Hid (IsSt (w4.setCells (w0.heap.size) 0 C4.toList) (.agg C4) T) := IsSt.setAll (VB) _ _ _ I4
    have MM : Hid (∃ a n c, C4[19]? = some (.slice a n c) ∧ (n = 0 ∨ ∃ g, a = some ⟨g, 0, none⟩ ∧ w0.heap.size ≤ g ∧ g < (w4.setCells (w0.heap.size) 0 C4.toList).heap.size ∧ ∀ q, (w4.setCells (w0.heap.size) 0 C4.toList).frozen? ⟨g, q, none⟩ = false)) := by
      obtain ⟨a, n', c', e, hm⟩ := M4
      exact ⟨a, n', c', e, hm.imp id fun ⟨g, e, h1, h2, h3⟩ => ⟨g, e, h1, by rw [size_setCells]; first | exact h2 | (simp; omega), fun q => by rw [frozen_setCells]; first | exact h3 q | (simp [go_sem]; exact h3 q) | exact ((Below.refl _ w4).alloc (Nat.le_refl _) _).frozen (p := ⟨g, q, none⟩) h2 |>.trans (h3 q)⟩⟩
    have QB : Hid (Below w0.heap.size w0 (w4.setCells (w0.heap.size) 0 C4.toList)) := hHeld
    clear hHeld T4 M4 I4 hb4 hb3 O4 I3 m3 mg3 ml3 mf3 k3 l3 l4 V3 VB x0 x1 x2 x3 x4 NW FR
    generalize w4.setCells (w0.heap.size) 0 C4.toList = w5 at AT IS MM QB ⊢
    generalize w0.heap.size = g7 at AT ⊢
    obtain ⟨ba, bc, ma, mc, ia, ic, oa, oc, eC, -, ⟨hm1, hm2⟩, -, ho1, ho2⟩ := st_cells IS.out
    have c19 : C4[19]? = some (.slice ma T.mn mc) := by rw [eC]; rfl
    have c21 : C4[21]? = some (.slice oa T.on_ oc) := by rw [eC]; rfl
    have p19 : w5.cell? ⟨g7, 19, none⟩ = some (.slice ma T.mn mc) := AT.out 19 _ c19
    have p21 : w5.cell? ⟨g7, 21, none⟩ = some (.slice oa T.on_ oc) := AT.out 21 _ (by rw [eC]; rfl)
    have p22 : w5.cell? ⟨g7, 22, none⟩ = some (.bool T.en) := AT.out 22 _ (by rw [eC]; rfl)
    have p23 : w5.cell? ⟨g7, 23, none⟩ = some (.int .u32 T.cd) := AT.out 23 _ (by rw [eC]; rfl)
    have p24 : w5.cell? ⟨g7, 24, none⟩ = some (.int .i64 T.ft) := AT.out 24 _ (by rw [eC]; rfl)
    obtain ⟨a9, n9, c9, e9, hm9⟩ := MM.out
    rw [c19] at e9
    simp only [Option.some.injEq, Value.slice.injEq] at e9
    obtain ⟨rfl, rfl, rfl⟩ := e9
    have RB : Hid (T.mn = 0 ∨ ∃ g9, ma = some ⟨g9, 0, none⟩ ∧ w0.heap.size ≤ g9 ∧ RowB w5 g9 T.mn T.mf) := by
      obtain h | ⟨g9, rfl, q1, q2, q3⟩ := hm9
      · exact .inl h
      obtain ⟨-, h | ⟨b', o', e, hcc⟩⟩ := hm2
      · exact .inl h
      · simp only [Option.some.injEq, Addr.mk.injEq] at e
        obtain ⟨rfl, rfl, -⟩ := e
        exact .inr ⟨g9, rfl, q1, fun i hi => by have := hcc i hi; rwa [Nat.zero_add] at this, q3, q2⟩
    have OO : Hid (Head oa T.on_ oc ∧ Bytes w5 oa T.on_ T.of_) := ⟨ho1, ho2⟩
    have OH : Hid (Head ma T.mn mc) := hm1
    have z0 : w5.cell? ⟨w.heap.size + 1, 0, none⟩ = some (.slice none 0 0) := cell_later' (Z0.out 0 _ rfl) QB.out
    have z1 : w5.cell? ⟨w.heap.size + 1, 1, none⟩ = some (.bool false) := cell_later' (Z0.out 1 _ rfl) QB.out
    have z2 : w5.cell? ⟨w.heap.size + 1, 2, none⟩ = some (.int .u32 0) := cell_later' (Z0.out 2 _ rfl) QB.out
    have z3 : w5.cell? ⟨w.heap.size + 1, 3, none⟩ = some (.int .i64 0) := cell_later' (Z0.out 3 _ rfl) QB.out
    have z4 : w5.cell? ⟨w.heap.size + 1, 4, none⟩ = some (.slice none 0 0) := cell_later' (Z0.out 4 _ rfl) QB.out
    have z5 : w5.cell? ⟨w.heap.size + 1, 5, none⟩ = some (.int .i64 0) := cell_later' (Z0.out 5 _ rfl) QB.out
    have f0 : ∀ q, w5.frozen? ⟨w.heap.size + 1, q, none⟩ = false := fun q => (QB.out.frozen (p := ⟨w.heap.size + 1, q, none⟩) l0).trans (F0.out q)
    have f0' := f0 0
    have f1' := f0 1
    have f2' := f0 2
    have f3' := f0 3
    have f4' := f0 4
    have f5' := f0 5
    have hOf : ∀ b off, oa = some ⟨b, off, none⟩ → T.on_ ≠ 0 → b ≠ w.heap.size + 1 := fun b off e hn => VR.out 21 ⟨b, off, none⟩ T.on_ oc (by rw [← e]; exact c21) hn
    clear eC c19 c21 hm1 hm2 ho1 ho2 hm9 f0 AT IS MM
    go_wp2
    refine bodyPost_ret (v := .agg (traceV oa T.on_ oc T.en T.cd T.ft ma T.mn mc (M : Int))) ?_ rfl ?_
    rotate_left
    refine ⟨oa, oc, ma, mc, rfl, ⟨OO.out.1, ?_⟩, ⟨OH.out, ?_, HFT.out⟩, below_six (bnext HA.out QB.out) (by omega) _ _ _ _ _ _⟩
    · obtain ⟨e1, h | ⟨b', o', e, hcc⟩⟩ := OO.out.2
      · exact ⟨e1, .inl h⟩
      · by_cases h0 : T.on_ = 0
        · exact ⟨e1, .inl h0⟩
        · exact bytes_six OO.out.2 (fun b off e => hOf b off e h0) _ _ _ _ _ _
    · exact RB.out.imp id fun ⟨g9, e9, h1, h⟩ => ⟨g9, e9, by have h2 := HA.out.size; omega, rowB_six h (by omega) _ _ _ _ _ _⟩
    · simp [results, Tryd.results10, go_sem, z0, z1, z2, z3, z4, z5]
theorem do_st (w : World) (ca : Option Addr) (cn cc : Nat) (cf : Nat → Int) (en : Int) (da : Option Addr) (dn dc : Nat) (df : Nat → Int) (wt : Int) (mo : Nat) (a : Option Addr) (n c : Nat) (f : Nat → Int) (k : Int)
    (hc : cn ≤ 1000) (he : 0 ≤ en ∧ en ≤ 1048576) (hwt : 0 ≤ wt ∧ wt ≤ 1048576) (hd : dn ≤ 1000) (hm : mo ≤ 1000) (hn : n ≤ 1000) (hk : k ≤ 4000) (h0 : Head ca cn cc) (h1 : Head da dn dc) (h2 : Head a n c) (hC : RowK .u32 w ca cn cf) (hD : Bytes w da dn df) (hI : Bytes w a n f) (hT : Tab w) :
    Calls Tryd.prog 10 #[.agg (imageV ca cn cc en da dn dc wt mo), .slice a n c, .int .i64 k] w fun e w' => ∃ oa oc ma mc, e = .returned (.agg (traceV oa (itY cn cf (newZ en dn df wt mo n f) k.toNat).on_ oc (itY cn cf (newZ en dn df wt mo n f) k.toNat).en (itY cn cf (newZ en dn df wt mo n f) k.toNat).cd (itY cn cf (newZ en dn df wt mo n f) k.toNat).ft ma (itY cn cf (newZ en dn df wt mo n f) k.toNat).mn mc (cntY cn cf (newZ en dn df wt mo n f) k.toNat : Nat))) ∧ (Head oa (itY cn cf (newZ en dn df wt mo n f) k.toNat).on_ oc ∧ Bytes w' oa (itY cn cf (newZ en dn df wt mo n f) k.toNat).on_ (itY cn cf (newZ en dn df wt mo n f) k.toNat).of_) ∧
      (Head ma (itY cn cf (newZ en dn df wt mo n f) k.toNat).mn mc ∧ ((itY cn cf (newZ en dn df wt mo n f) k.toNat).mn = 0 ∨ ∃ g, ma = some ⟨g, 0, none⟩ ∧ w.heap.size ≤ g ∧ RowB w' g (itY cn cf (newZ en dn df wt mo n f) k.toNat).mn (itY cn cf (newZ en dn df wt mo n f) k.toNat).mf) ∧ ∀ j, 0 ≤ (itY cn cf (newZ en dn df wt mo n f) k.toNat).mf j ∧ (itY cn cf (newZ en dn df wt mo n f) k.toNat).mf j < 256) ∧ Below w.heap.size w w' := do_core w ca cn cc cf en da dn dc df wt mo a n c f k _ _ hc he hwt hd hm hn hk h0 h1 h2 hC hD hI hT rfl rfl
end Go.Proofs.YtnpejnjigaalfaaDoor
