/- For all words and every state CpuKeeps returns true: of a right and small state and 500 words at most, a step leaves the words and the state as they were handed in, and so the room behind the output's length. No condition. -/
import Derived.Test.YtcibifgbnpcpmaaDoorDoorFrame
import Derived.Test.YtcibifgbnpcpmaaDoorCpuAwake
import Derived.Test.YtcibifgbnpcpmaaDoorCodeAwake
import Derived.Test.YtcibifgbnpcpmaaDoorCpuWords
import Derived.WalkKit
import Derived.ProofKit
namespace Go.Proofs.YtcibifgbnpcpmaaDoor.cpuKeeps
open Go.ChangeShapes Go.WideShapes Go.ChangeAt Go.RowKit Go.Deep
set_option linter.unusedVariables false

/-- What stands ahead of the walk. -/
theorem step_agg {w : World} {C : Array Value} {s : St} (hI : IsSt w (.agg C) s) (hs : Small s) (a : Option Addr) (n c : Nat) (f : Nat → Int) (hn : n ≤ 1000) (hh : Head a n c) (hw : RowK .u32 w a n f) (hT : Tab w) :
    Calls Tryd.prog 13 #[.slice a n c, .agg C] w fun e w' => ∃ C', e = .returned (.agg C') ∧ IsSt w' (.agg C') (stepZ n f s) ∧ Below w.heap.size w w' := by
  refine (step_st hI hs a n c f hn hh hw hT).mono ?_
  rintro e w' ⟨v, rfl, h, hb⟩
  obtain ⟨C', rfl⟩ := isSt_agg h
  exact ⟨C', rfl, h, hb⟩
set_option maxRecDepth 100000 in
theorem keeps_few {w : World} {C : Array Value} {s : St} (hI : IsSt w (.agg C) s) (hl : s.bn ≤ 9223372036854775807 ∧ s.mn ≤ 9223372036854775807 ∧ s.inn ≤ 9223372036854775807 ∧ s.on_ ≤ 9223372036854775807) (a : Option Addr) (n c : Nat) (f : Nat → Int) (hn : n ≤ 9223372036854775807) (hw : RowK .u32 w a n f) (hT : Tab w) (hf : fewZ s = false) :
    Calls Tryd.prog 6 #[.slice a n c, .agg C] w fun e w' => e = .returned (.bool true) ∧ Below w.heap.size w w' := by
  have HA : Hid (Below w.heap.size w (w.alloc (.cells C 32))) := (Below.refl _ w).alloc (Nat.le_refl _) _
  have A1 : Hid (At (w.alloc (.cells C 32)) w.heap.size C) := At.new _ _ _
  have I1 : Hid (IsSt (w.alloc (.cells C 32)) (.agg C) s) := hI.later HA.out
  have T1 : Hid (Tab (w.alloc (.cells C 32))) := hT.later HA.out
  have R1 : Hid (RowK .u32 (w.alloc (.cells C 32)) a n f) := hw.later HA.out
  have hz : Hid ((Tryd.prog.info? 32).map (·.size) = some C.toList.length) := (st_info hI).2
  obtain ⟨ba, bc, ma, mc, ia, ic, oa, oc, eC, -⟩ := st_cells hI
  have EC : Hid (C = _) := eC
  clear hI hT hw eC
  go_enter Tryd.func6, Tryd.ntmps6
  go_upto_region 1 with fail
  generalize w.alloc (.cells C 32) = w0 at HA A1 I1 T1 R1 ⊢
  have F : Hid (∀ W, Below w0.heap.size w0 W → Calls Tryd.prog 8 #[.agg C] W fun e w' => e = .returned (.bool false) ∧ Below W.heap.size W w') := fun W hW => by have h := few6_st (I1.out.later hW) hl; rwa [hf] at h
  go_wp2_with (first
    | (go_at_call 7; refine (awake_st _ T1.out).mono ?_; rintro e w1 ⟨rfl, hb1⟩)
    | (go_at_call 7; revert hb2; intro hb2; refine (awake_st _ (T1.out.later (bnext hb1 hb2))).mono ?_; rintro e w3 ⟨rfl, hb3⟩)
    | ((with_reducible show wpList _ _ _ (Oper.mk _ (Op.load _ _) _ _ _ _ :: _) _ _); refine wpList_load_if (by rfl) 32 (.tmp 3) rfl w.heap.size 0 rfl C.toList _ (at_range (A1.out.later hb1)) Tryd.underlying32 rfl hz.out ?_)
    | (go_at_call 8; refine (F.out _ hb1).mono ?_; rintro e w2 ⟨rfl, hb2⟩))
  go_ret
  exact ⟨rfl, bnext (bnext (HA.out.trans (hb1.mono HA.out.size)) hb2) hb3⟩
set_option maxRecDepth 100000 in
theorem keeps_long {w : World} {C : Array Value} {s : St} (hI : IsSt w (.agg C) s) (hl : s.bn ≤ 9223372036854775807 ∧ s.mn ≤ 9223372036854775807 ∧ s.inn ≤ 9223372036854775807 ∧ s.on_ ≤ 9223372036854775807) (a : Option Addr) (n c : Nat) (f : Nat → Int) (hn : n ≤ 9223372036854775807) (hw : RowK .u32 w a n f) (hT : Tab w) (hf : fewZ s = true) (h5 : (500 : Int) < n) :
    Calls Tryd.prog 6 #[.slice a n c, .agg C] w fun e w' => e = .returned (.bool true) ∧ Below w.heap.size w w' := by
  have HA : Hid (Below w.heap.size w (w.alloc (.cells C 32))) := (Below.refl _ w).alloc (Nat.le_refl _) _
  have A1 : Hid (At (w.alloc (.cells C 32)) w.heap.size C) := At.new _ _ _
  have I1 : Hid (IsSt (w.alloc (.cells C 32)) (.agg C) s) := hI.later HA.out
  have T1 : Hid (Tab (w.alloc (.cells C 32))) := hT.later HA.out
  have R1 : Hid (RowK .u32 (w.alloc (.cells C 32)) a n f) := hw.later HA.out
  have hz : Hid ((Tryd.prog.info? 32).map (·.size) = some C.toList.length) := (st_info hI).2
  obtain ⟨ba, bc, ma, mc, ia, ic, oa, oc, eC, -⟩ := st_cells hI
  have EC : Hid (C = _) := eC
  clear hI hT hw eC
  go_enter Tryd.func6, Tryd.ntmps6
  go_upto_region 1 with fail
  generalize w.alloc (.cells C 32) = w0 at HA A1 I1 T1 R1 ⊢
  have F : Hid (∀ W, Below w0.heap.size w0 W → Calls Tryd.prog 8 #[.agg C] W fun e w' => e = .returned (.bool true) ∧ Below W.heap.size W w') := fun W hW => by have h := few6_st (I1.out.later hW) hl; rwa [hf] at h
  go_wp2_with (first
    | (go_at_call 7; refine (awake_st _ T1.out).mono ?_; rintro e w1 ⟨rfl, hb1⟩)
    | (go_at_call 7; revert hb2; intro hb2; refine (awake_st _ (T1.out.later (bnext hb1 hb2))).mono ?_; rintro e w3 ⟨rfl, hb3⟩)
    | ((with_reducible show wpList _ _ _ (Oper.mk _ (Op.load _ _) _ _ _ _ :: _) _ _); refine wpList_load_if (by rfl) 32 (.tmp 3) rfl w.heap.size 0 rfl C.toList _ (at_range (A1.out.later hb1)) Tryd.underlying32 rfl hz.out ?_)
    | (go_at_call 8; refine (F.out _ hb1).mono ?_; rintro e w2 ⟨rfl, hb2⟩))
  go_ret
  exact ⟨rfl, bnext (bnext (HA.out.trans (hb1.mono HA.out.size)) hb2) hb3⟩
set_option maxRecDepth 100000 in
set_option maxHeartbeats 4000000 in
theorem keeps_main {w : World} {C : Array Value} {s : St} (hI : IsSt w (.agg C) s) (hl : s.bn ≤ 9223372036854775807 ∧ s.mn ≤ 9223372036854775807 ∧ s.inn ≤ 9223372036854775807 ∧ s.on_ ≤ 9223372036854775807) (a : Option Addr) (n c : Nat) (f : Nat → Int) (hn : n ≤ 9223372036854775807) (hw : RowK .u32 w a n f) (hT : Tab w) (hf : fewZ s = true) (h5 : (n : Int) ≤ 500) (hs : Small s) (hh : Head a n c) :
    Calls Tryd.prog 6 #[.slice a n c, .agg C] w fun e w' => e = .returned (.bool true) ∧ Below w.heap.size w w' := by
  have HA : Hid (Below w.heap.size w (w.alloc (.cells C 32))) := (Below.refl _ w).alloc (Nat.le_refl _) _
  have A1 : Hid (At (w.alloc (.cells C 32)) w.heap.size C) := At.new _ _ _
  have I1 : Hid (IsSt (w.alloc (.cells C 32)) (.agg C) s) := hI.later HA.out
  have T1 : Hid (Tab (w.alloc (.cells C 32))) := hT.later HA.out
  have R1 : Hid (RowK .u32 (w.alloc (.cells C 32)) a n f) := hw.later HA.out
  have hz : Hid ((Tryd.prog.info? 32).map (·.size) = some C.toList.length) := (st_info hI).2
  have hw1 : Hid (∀ i, (Lit.int .u32 (f i)).wf = true) := hw.1
  obtain ⟨sb1, sb2, sb3, sb4⟩ := hs.2.2.1
  clear hI hT hw
  go_enter Tryd.func6, Tryd.ntmps6
  go_upto_region 1 with fail
  generalize w.alloc (.cells C 32) = w0 at HA A1 I1 T1 R1 ⊢
  have F : Hid (∀ W, Below w0.heap.size w0 W → Calls Tryd.prog 8 #[.agg C] W fun e w' => e = .returned (.bool true) ∧ Below W.heap.size W w') := fun W hW => by have h := few6_st (I1.out.later hW) hl; rwa [hf] at h
  go_upto_region 3 with (first
    | (go_at_call 7; refine (awake_st _ T1.out).mono ?_; rintro e w1 ⟨rfl, hb1⟩)
    | ((with_reducible show wpList _ _ _ (Oper.mk _ (Op.load _ _) _ _ _ _ :: _) _ _); refine wpList_load_if (by rfl) 32 (.tmp 3) rfl w.heap.size 0 rfl C.toList _ (at_range (A1.out.later hb1)) Tryd.underlying32 rfl hz.out ?_)
    | (go_at_call 8; refine (F.out _ hb1).mono ?_; rintro e w2 ⟨rfl, hb2⟩))
  have B2 : Hid (Below w0.heap.size w0 w2) := bnext hb1 hb2
  clear hb1 hb2 F
  have hn5 : n ≤ 500 := by omega
  go_upto_region 4 with (at_builtin; refine wpList_append_fresh w2 rfl (.tmp 21) (.tmp 22) 22 rfl 26 (.int .u32 0) 4 Tryd.underlying22 infoW rfl rfl a n c (cellsK .u32 n f) rfl (cellsK_len _ _ _) (head_nil hh) (row_cells (R1.out.later B2.out)) (cellsK_one _ _ _) (by unfold maxLen; omega) (by omega) ?_; intro a3 c3 w3 own3 hb3)
  have K3 : Hid (Head a3 n c3 ∧ RowK .u32 w3 a3 n f) := own_ints own3 hw1.out
  have J3 : Hid (IsSt w3 (.agg C) s) := I1.out.later (bnext B2.out hb3)
  have S3 : Hid (At w3 w.heap.size C) := A1.out.later (bnext B2.out hb3)
  have T3 : Hid (Tab w3) := T1.out.later (bnext B2.out hb3)
  have R3 : Hid (RowK .u32 w3 a n f) := R1.out.later (bnext B2.out hb3)
  have Q3 : Hid (Below w.heap.size w w3) := HA.out.trans ((bnext B2.out hb3).mono HA.out.size)
  clear own3 hb3 B2 T1 I1 A1 R1 HA
  obtain ⟨ba, bc, ma, mc, ia, ic, oa, oc, eC, h17, h19, h20, h21⟩ := st_cells J3.out
  have EC : Hid (C = _) := eC
  have H17 : Hid _ := h17
  have H19 : Hid _ := h19
  have H20 : Hid _ := h20
  have H21 : Hid _ := h21
  clear eC h17 h19 h20 h21
  have sz : C.size = 25 := (st_shape J3.out).1
  go_upto_region 5 with (first
    | ((with_reducible show wpList _ _ _ (Oper.mk _ (Op.load _ _) _ _ _ _ :: _) _ _); refine wpList_load_mid rfl 32 (.tmp 3) rfl w.heap.size 0 rfl C.toList _ (at_range S3.out) Tryd.underlying32 rfl hz.out ?_)
    | ((with_reducible show wpList _ _ _ (Oper.mk _ (Op.store _ _ _) _ _ _ _ :: _) _ _); refine wpList_store_fresh rfl 32 (.tmp 6) (.tmp 24) rfl w3 _ _ C rfl rfl (by rw [sz]; rfl) (st_info J3.out).1 (st_shape J3.out).2 ?_; intro w4 hb4 A4 Z4))
  have g3 : w.heap.size < w3.heap.size := World.block_lt_of_cell? w3 ⟨w.heap.size, 0, none⟩ (S3.out 0 _ (by rw [EC.out]; rfl))
  have hg6 : Hid (w3.heap.size < w4.heap.size) := World.block_lt_of_cell? w4 ⟨w3.heap.size, 0, none⟩ (A4.out 0 _ (by rw [EC.out]; rfl))
  obtain ⟨g6, e6⟩ : ∃ g6, g6 = w3.heap.size := ⟨_, rfl⟩
  rw [← e6] at A4 Z4 hg6 g3 ⊢
  have B4 : Hid (Below g6 w3 w4) := by rw [e6]; exact hb4
  have L3 : Hid (∀ W, Below g6 w3 W → Below w3.heap.size w3 W) := fun W hW => by rw [e6] at hW; exact hW
  have E6 : Hid (g6 = w3.heap.size) := e6
  clear e6
  have P4 : Hid (C.size = 25) := sz
  clear hb4

  -- was: cell 17
  obtain ⟨u5, hu5⟩ : ∃ u, (C)[17]? = some u := ⟨_, Array.getElem?_eq_getElem (by rw [P4.out]; decide)⟩
  have x5 : w4.cell? ⟨w.heap.size, 17, none⟩ = some (.slice ba s.bn bc) := (S3.out.later (L3.out _ B4.out)) 17 _ (by rw [EC.out]; rfl)
  have lt5 : w.heap.size < w4.heap.size := by have := hg6.out; omega
  go_upto_region 6 with (at_builtin; refine wpList_append_fresh w4 rfl (.tmp 25) (.tmp 27) 28 rfl 3 (.int .i64 0) 8 Tryd.underlying28 infoI rfl rfl ba s.bn bc (cellsK .i64 s.bn s.bf) rfl (cellsK_len _ _ _) (head_nil H17.out.1) (row_cells (H17.out.2.later (L3.out _ B4.out))) (cellsK_one _ _ _) (by unfold maxLen; omega) (by omega) ?_; intro a5 c5 w5 own5 hb5; have d5 : w5.cell? ⟨g6, 17, none⟩ = some u5 := (A4.out.later hb5) 17 _ hu5; have z5 : w5.frozen? ⟨g6, 17, none⟩ = false := ((hb5.frozen (p := ⟨g6, 17, none⟩) hg6.out).trans (Z4.out 17)))
  have F5 : Hid (∀ b off, a5 = some ⟨b, off, none⟩ → b ≠ g6) := fun b off e => by have h := own_far own5 b off e; have := hg6.out; omega
  have K5 : Hid (Head a5 s.bn c5 ∧ RowK .i64 (w5.setCell ⟨g6, 17, none⟩ (.slice a5 s.bn c5)) a5 s.bn s.bf) := ⟨(own_ints own5 H17.out.2.1).1, (own_ints own5 H17.out.2.1).2.set F5.out _ _⟩
  have B5 : Hid (Below g6 w3 (w5.setCell ⟨g6, 17, none⟩ (.slice a5 s.bn c5))) := (B4.out.trans (hb5.mono (by have := hg6.out; omega))).setCell (p := ⟨g6, 17, none⟩) (Nat.le_refl _) _
  have P5 : Hid ((C.setIfInBounds 17 (.slice a5 s.bn c5)).size = 25) := by unfold Hid; rw [Array.size_setIfInBounds]; exact P4.out
  have A5 : Hid (At (w5.setCell ⟨g6, 17, none⟩ (.slice a5 s.bn c5)) g6 (C.setIfInBounds 17 (.slice a5 s.bn c5))) := (A4.out.later hb5).set 17 (by rw [P4.out]; decide) _
  have Z5 : Hid (∀ q, (w5.setCell ⟨g6, 17, none⟩ (.slice a5 s.bn c5)).frozen? ⟨g6, q, none⟩ = false) := fun q => by simpa using (hb5.frozen (p := ⟨g6, q, none⟩) hg6.out).trans (Z4.out q)
  have G5 : Hid (g6 < (w5.setCell ⟨g6, 17, none⟩ (.slice a5 s.bn c5)).heap.size) := by have h := Nat.lt_of_lt_of_le hg6.out hb5.size; unfold Hid; simpa using h
  clear x5 d5 z5 hu5 own5 hb5 A4 Z4 B4 hg6
  generalize w5.setCell ⟨g6, 17, none⟩ (.slice a5 s.bn c5) = v5 at K5  B5 A5 Z5 G5 ⊢
  have hg6 : Hid (g6 < v5.heap.size) := G5.out
  clear G5 lt5

  -- was: cell 19
  obtain ⟨u6, hu6⟩ : ∃ u, (C.setIfInBounds 17 (.slice a5 s.bn c5))[19]? = some u := ⟨_, Array.getElem?_eq_getElem (by rw [P5.out]; decide)⟩
  have x6 : v5.cell? ⟨w.heap.size, 19, none⟩ = some (.slice ma s.mn mc) := (S3.out.later (L3.out _ B5.out)) 19 _ (by rw [EC.out]; rfl)
  have lt6 : w.heap.size < v5.heap.size := by have := hg6.out; omega
  go_upto_region 7 with (at_builtin; refine wpList_append_fresh v5 rfl (.tmp 30) (.tmp 33) 23 rfl 5 (.int .u8 0) 1 Tryd.underlying23 infoB rfl rfl ma s.mn mc (cellsK .u8 s.mn s.mf) rfl (cellsK_len _ _ _) (head_nil H19.out.1) (bytes_cells (H19.out.2.later (L3.out _ B5.out))) (cellsK_one _ _ _) (by unfold maxLen; omega) (by omega) ?_; intro a6 c6 w6 own6 hb6; have d6 : w6.cell? ⟨g6, 19, none⟩ = some u6 := (A5.out.later hb6) 19 _ hu6; have z6 : w6.frozen? ⟨g6, 19, none⟩ = false := ((hb6.frozen (p := ⟨g6, 19, none⟩) hg6.out).trans (Z5.out 19)))
  have F6 : Hid (∀ b off, a6 = some ⟨b, off, none⟩ → b ≠ g6) := fun b off e => by have h := own_far own6 b off e; have := hg6.out; omega
  have K6 : Hid (Head a6 s.mn c6 ∧ Bytes (w6.setCell ⟨g6, 19, none⟩ (.slice a6 s.mn c6)) a6 s.mn s.mf) := ⟨(own_bytes own6 H19.out.2.1).1, (own_bytes own6 H19.out.2.1).2.set F6.out _ _⟩
  have K5 : Hid (Head a5 s.bn c5 ∧ RowK .i64 (w6.setCell ⟨g6, 19, none⟩ (.slice a6 s.mn c6)) a5 s.bn s.bf) := ⟨K5.out.1, (K5.out.2.later hb6).set F5.out _ _⟩
  have B6 : Hid (Below g6 w3 (w6.setCell ⟨g6, 19, none⟩ (.slice a6 s.mn c6))) := (B5.out.trans (hb6.mono (by have := hg6.out; omega))).setCell (p := ⟨g6, 19, none⟩) (Nat.le_refl _) _
  have P6 : Hid (((C.setIfInBounds 17 (.slice a5 s.bn c5)).setIfInBounds 19 (.slice a6 s.mn c6)).size = 25) := by unfold Hid; rw [Array.size_setIfInBounds]; exact P5.out
  have A6 : Hid (At (w6.setCell ⟨g6, 19, none⟩ (.slice a6 s.mn c6)) g6 ((C.setIfInBounds 17 (.slice a5 s.bn c5)).setIfInBounds 19 (.slice a6 s.mn c6))) := (A5.out.later hb6).set 19 (by rw [P5.out]; decide) _
  have Z6 : Hid (∀ q, (w6.setCell ⟨g6, 19, none⟩ (.slice a6 s.mn c6)).frozen? ⟨g6, q, none⟩ = false) := fun q => by simpa using (hb6.frozen (p := ⟨g6, q, none⟩) hg6.out).trans (Z5.out q)
  have G6 : Hid (g6 < (w6.setCell ⟨g6, 19, none⟩ (.slice a6 s.mn c6)).heap.size) := by have h := Nat.lt_of_lt_of_le hg6.out hb6.size; unfold Hid; simpa using h
  clear x6 d6 z6 hu6 own6 hb6 A5 Z5 B5 hg6
  generalize w6.setCell ⟨g6, 19, none⟩ (.slice a6 s.mn c6) = v6 at K6 K5 B6 A6 Z6 G6 ⊢
  have hg6 : Hid (g6 < v6.heap.size) := G6.out
  clear G6 lt6

  -- was: cell 20
  obtain ⟨u7, hu7⟩ : ∃ u, ((C.setIfInBounds 17 (.slice a5 s.bn c5)).setIfInBounds 19 (.slice a6 s.mn c6))[20]? = some u := ⟨_, Array.getElem?_eq_getElem (by rw [P6.out]; decide)⟩
  have x7 : v6.cell? ⟨w.heap.size, 20, none⟩ = some (.slice ia s.inn ic) := (S3.out.later (L3.out _ B6.out)) 20 _ (by rw [EC.out]; rfl)
  have lt7 : w.heap.size < v6.heap.size := by have := hg6.out; omega
  go_upto_region 8 with (at_builtin; refine wpList_append_fresh v6 rfl (.tmp 37) (.tmp 39) 23 rfl 5 (.int .u8 0) 1 Tryd.underlying23 infoB rfl rfl ia s.inn ic (cellsK .u8 s.inn s.inf) rfl (cellsK_len _ _ _) (head_nil H20.out.1) (bytes_cells (H20.out.2.later (L3.out _ B6.out))) (cellsK_one _ _ _) (by unfold maxLen; omega) (by omega) ?_; intro a7 c7 w7 own7 hb7; have d7 : w7.cell? ⟨g6, 20, none⟩ = some u7 := (A6.out.later hb7) 20 _ hu7; have z7 : w7.frozen? ⟨g6, 20, none⟩ = false := ((hb7.frozen (p := ⟨g6, 20, none⟩) hg6.out).trans (Z6.out 20)))
  have F7 : Hid (∀ b off, a7 = some ⟨b, off, none⟩ → b ≠ g6) := fun b off e => by have h := own_far own7 b off e; have := hg6.out; omega
  have K7 : Hid (Head a7 s.inn c7 ∧ Bytes (w7.setCell ⟨g6, 20, none⟩ (.slice a7 s.inn c7)) a7 s.inn s.inf) := ⟨(own_bytes own7 H20.out.2.1).1, (own_bytes own7 H20.out.2.1).2.set F7.out _ _⟩
  have K5 : Hid (Head a5 s.bn c5 ∧ RowK .i64 (w7.setCell ⟨g6, 20, none⟩ (.slice a7 s.inn c7)) a5 s.bn s.bf) := ⟨K5.out.1, (K5.out.2.later hb7).set F5.out _ _⟩
  have K6 : Hid (Head a6 s.mn c6 ∧ Bytes (w7.setCell ⟨g6, 20, none⟩ (.slice a7 s.inn c7)) a6 s.mn s.mf) := ⟨K6.out.1, (K6.out.2.later hb7).set F6.out _ _⟩
  have B7 : Hid (Below g6 w3 (w7.setCell ⟨g6, 20, none⟩ (.slice a7 s.inn c7))) := (B6.out.trans (hb7.mono (by have := hg6.out; omega))).setCell (p := ⟨g6, 20, none⟩) (Nat.le_refl _) _
  have P7 : Hid ((((C.setIfInBounds 17 (.slice a5 s.bn c5)).setIfInBounds 19 (.slice a6 s.mn c6)).setIfInBounds 20 (.slice a7 s.inn c7)).size = 25) := by unfold Hid; rw [Array.size_setIfInBounds]; exact P6.out
  have A7 : Hid (At (w7.setCell ⟨g6, 20, none⟩ (.slice a7 s.inn c7)) g6 (((C.setIfInBounds 17 (.slice a5 s.bn c5)).setIfInBounds 19 (.slice a6 s.mn c6)).setIfInBounds 20 (.slice a7 s.inn c7))) := (A6.out.later hb7).set 20 (by rw [P6.out]; decide) _
  have Z7 : Hid (∀ q, (w7.setCell ⟨g6, 20, none⟩ (.slice a7 s.inn c7)).frozen? ⟨g6, q, none⟩ = false) := fun q => by simpa using (hb7.frozen (p := ⟨g6, q, none⟩) hg6.out).trans (Z6.out q)
  have G7 : Hid (g6 < (w7.setCell ⟨g6, 20, none⟩ (.slice a7 s.inn c7)).heap.size) := by have h := Nat.lt_of_lt_of_le hg6.out hb7.size; unfold Hid; simpa using h
  clear x7 d7 z7 hu7 own7 hb7 A6 Z6 B6 hg6
  generalize w7.setCell ⟨g6, 20, none⟩ (.slice a7 s.inn c7) = v7 at K7 K5 K6 B7 A7 Z7 G7 ⊢
  have hg6 : Hid (g6 < v7.heap.size) := G7.out
  clear G7 lt7

  -- was: cell 21
  obtain ⟨u8, hu8⟩ : ∃ u, (((C.setIfInBounds 17 (.slice a5 s.bn c5)).setIfInBounds 19 (.slice a6 s.mn c6)).setIfInBounds 20 (.slice a7 s.inn c7))[21]? = some u := ⟨_, Array.getElem?_eq_getElem (by rw [P7.out]; decide)⟩
  have x8 : v7.cell? ⟨w.heap.size, 21, none⟩ = some (.slice oa s.on_ oc) := (S3.out.later (L3.out _ B7.out)) 21 _ (by rw [EC.out]; rfl)
  have lt8 : w.heap.size < v7.heap.size := by have := hg6.out; omega
  go_upto_region 9 with (at_builtin; refine wpList_append_fresh v7 rfl (.tmp 42) (.tmp 44) 23 rfl 5 (.int .u8 0) 1 Tryd.underlying23 infoB rfl rfl oa s.on_ oc (cellsK .u8 s.on_ s.of_) rfl (cellsK_len _ _ _) (head_nil H21.out.1) (bytes_cells (H21.out.2.later (L3.out _ B7.out))) (cellsK_one _ _ _) (by unfold maxLen; omega) (by omega) ?_; intro a8 c8 w8 own8 hb8; have d8 : w8.cell? ⟨g6, 21, none⟩ = some u8 := (A7.out.later hb8) 21 _ hu8; have z8 : w8.frozen? ⟨g6, 21, none⟩ = false := ((hb8.frozen (p := ⟨g6, 21, none⟩) hg6.out).trans (Z7.out 21)))
  have F8 : Hid (∀ b off, a8 = some ⟨b, off, none⟩ → b ≠ g6) := fun b off e => by have h := own_far own8 b off e; have := hg6.out; omega
  have K8 : Hid (Head a8 s.on_ c8 ∧ Bytes (w8.setCell ⟨g6, 21, none⟩ (.slice a8 s.on_ c8)) a8 s.on_ s.of_) := ⟨(own_bytes own8 H21.out.2.1).1, (own_bytes own8 H21.out.2.1).2.set F8.out _ _⟩
  have K5 : Hid (Head a5 s.bn c5 ∧ RowK .i64 (w8.setCell ⟨g6, 21, none⟩ (.slice a8 s.on_ c8)) a5 s.bn s.bf) := ⟨K5.out.1, (K5.out.2.later hb8).set F5.out _ _⟩
  have K6 : Hid (Head a6 s.mn c6 ∧ Bytes (w8.setCell ⟨g6, 21, none⟩ (.slice a8 s.on_ c8)) a6 s.mn s.mf) := ⟨K6.out.1, (K6.out.2.later hb8).set F6.out _ _⟩
  have K7 : Hid (Head a7 s.inn c7 ∧ Bytes (w8.setCell ⟨g6, 21, none⟩ (.slice a8 s.on_ c8)) a7 s.inn s.inf) := ⟨K7.out.1, (K7.out.2.later hb8).set F7.out _ _⟩
  have B8 : Hid (Below g6 w3 (w8.setCell ⟨g6, 21, none⟩ (.slice a8 s.on_ c8))) := (B7.out.trans (hb8.mono (by have := hg6.out; omega))).setCell (p := ⟨g6, 21, none⟩) (Nat.le_refl _) _
  have P8 : Hid (((((C.setIfInBounds 17 (.slice a5 s.bn c5)).setIfInBounds 19 (.slice a6 s.mn c6)).setIfInBounds 20 (.slice a7 s.inn c7)).setIfInBounds 21 (.slice a8 s.on_ c8)).size = 25) := by unfold Hid; rw [Array.size_setIfInBounds]; exact P7.out
  have A8 : Hid (At (w8.setCell ⟨g6, 21, none⟩ (.slice a8 s.on_ c8)) g6 ((((C.setIfInBounds 17 (.slice a5 s.bn c5)).setIfInBounds 19 (.slice a6 s.mn c6)).setIfInBounds 20 (.slice a7 s.inn c7)).setIfInBounds 21 (.slice a8 s.on_ c8))) := (A7.out.later hb8).set 21 (by rw [P7.out]; decide) _
  have Z8 : Hid (∀ q, (w8.setCell ⟨g6, 21, none⟩ (.slice a8 s.on_ c8)).frozen? ⟨g6, q, none⟩ = false) := fun q => by simpa using (hb8.frozen (p := ⟨g6, q, none⟩) hg6.out).trans (Z7.out q)
  have G8 : Hid (g6 < (w8.setCell ⟨g6, 21, none⟩ (.slice a8 s.on_ c8)).heap.size) := by have h := Nat.lt_of_lt_of_le hg6.out hb8.size; unfold Hid; simpa using h
  clear x8 d8 z8 hu8 own8 hb8 A7 Z7 B7 hg6
  generalize w8.setCell ⟨g6, 21, none⟩ (.slice a8 s.on_ c8) = v8 at K8 K5 K6 K7 B8 A8 Z8 G8 ⊢
  have hg6 : Hid (g6 < v8.heap.size) := G8.out
  clear G8 lt8
  obtain ⟨Cw, eCw⟩ : ∃ Cw, Cw = (((C.setIfInBounds 17 (.slice a5 s.bn c5)).setIfInBounds 19 (.slice a6 s.mn c6)).setIfInBounds 20 (.slice a7 s.inn c7)).setIfInBounds 21 (.slice a8 s.on_ c8) := ⟨_, rfl⟩
  rw [← eCw] at A8 P8
  have W8 : Hid (IsSt v8 (.agg Cw) s) := ⟨a5, c5, a6, c6, a7, c7, a8, c8, by rw [eCw, EC.out]; rfl, K5.out, K6.out, K7.out, K8.out⟩
  have S8 : At v8 w.heap.size C := S3.out.later (L3.out _ B8.out)
  have Q8 : Hid (Below w.heap.size w v8) := Q3.out.trans ((L3.out _ B8.out).mono Q3.out.size)
  clear eCw K5 K6 K7 K8 Z8 P8
  go_upto_region 10 with (first
    | ((with_reducible show wpList _ _ _ (Oper.mk _ (Op.load _ _) _ _ _ _ :: _) _ _); refine wpList_load_mid rfl 32 (.tmp 3) rfl w.heap.size 0 rfl C.toList _ (at_range S8) Tryd.underlying32 rfl hz.out ?_)
    | ((with_reducible show wpList _ _ _ (Oper.mk _ (Op.store _ _ _) _ _ _ _ :: _) _ _); refine wpList_store_fresh rfl 32 (.tmp 7) (.tmp 47) rfl v8 _ _ C rfl rfl (by rw [sz]; rfl) (st_info J3.out).1 (st_shape J3.out).2 ?_; intro w9 hb9 A9 Z9))
  have lt7 : w.heap.size < v8.heap.size := by have := hg6.out; omega
  have hg7 : Hid (v8.heap.size < w9.heap.size) := World.block_lt_of_cell? w9 ⟨v8.heap.size, 0, none⟩ (A9.out 0 _ (by rw [EC.out]; rfl))
  obtain ⟨g7, e7⟩ : ∃ g7, g7 = v8.heap.size := ⟨_, rfl⟩
  rw [← e7] at A9 Z9 hg7 ⊢
  have E7 : Hid (g7 = v8.heap.size) := e7
  have L7 : Hid (w.heap.size < g7) := by rw [e7]; exact lt7
  have L67 : Hid (g6 < g7) := by rw [e7]; exact hg6.out
  clear e7
  have S9 : Hid (At w9 w.heap.size C) := S8.later hb9
  have HB9 : Hid (Bytes w9 oa s.on_ s.of_) := (H21.out.2.later (L3.out _ B8.out)).later hb9
  have x21 : w9.cell? ⟨w.heap.size, 21, none⟩ = some (.slice oa s.on_ oc) := S9.out 21 _ (by rw [EC.out]; rfl)
  obtain ⟨i0, hi0, hz0, hz1, hz2⟩ := info_parts infoB
  clear S8 lt7
  simp only [Act.put]
  go_cut [7] from 48 to 58 (fun p wx => p = .pointer (some ⟨g7, 0, none⟩) ∧ ∃ g cap, g7 < g ∧ s.on_ + 1 ≤ cap ∧ At wx g7 (C.setIfInBounds 21 (.slice (some ⟨g, 0, none⟩) s.on_ cap)) ∧ RowB wx g (s.on_ + 1) (fun k => if k < s.on_ then s.of_ k else 91) ∧ Below g7 v8 wx)
  case first =>
    have HK : Hid (∀ W, Below w9.heap.size w9 W → W.cell? ⟨w.heap.size, 21, none⟩ = some (.slice oa s.on_ oc)) := fun W hW => cell_later' x21 hW
    have HK2 : Hid (∀ W (v : Value), Below w9.heap.size w9 W → (W.setCell ⟨g7, 21, none⟩ v).cell? ⟨w.heap.size, 21, none⟩ = some (.slice oa s.on_ oc)) := fun W v hW => (World.cell?_setCell_other _ _ _ _ (fun e => by have h : w.heap.size = g7 := (congrArg Addr.block e).symm; have := L7.out; omega)).trans (cell_later' x21 hW)
    go_region_held3 (fun w' => w'.cell? ⟨w.heap.size, 21, none⟩ = some (.slice oa s.on_ oc))
      (first
      | exact HK2.out _ _ hb11w
      | exact HK.out _ hb11w
      | exact HK.out _ (by repeat' (first | exact hb10w | exact Below.refl _ _ | refine keep_drew ?_ | refine keep_alloc ?_ _))
      | exact HK.out _ (by repeat' (first | exact Below.refl _ _ | refine keep_drew ?_ | refine keep_alloc ?_ _)))
      (first
      | (refine step_append_empty _ (by rfl) (.tmp 48) (.tmp 50) 23 (by rfl) w9.heap.size 5 i0 _ 1 1 Tryd.underlying23 hi0 hz0 hz1 hz2 rfl (by decide) (w9.heap.size) (by rfl) (World.ownsRow_made (size := 1) w9 #[] 0 (Nat.le_refl _) (Nat.zero_le _) rfl) oa s.on_ oc (cellsK .u8 s.on_ s.of_) (by rfl) (by rw [cellsK_len, Nat.mul_one]) (head_nil H21.out.1) (bytes_cells (HB9.out.later (by repeat' (first | exact Below.refl _ _ | refine keep_drew ?_ | refine keep_alloc ?_ _)))) (cellsK_one _ _ _) (by unfold maxLen; omega) (by omega) (by first | exact Nat.le_refl _ | (simp; done) | (simp; omega)) ?_; intro a10 c10 w10 own10 hgrow10; have hb10w : Below w9.heap.size w9 w10 := Below.grown (by repeat' (first | exact Below.refl _ _ | refine keep_drew ?_ | refine keep_alloc ?_ _)) hgrow10 (by first | exact Nat.le_refl _ | (simp; done) | (simp; omega)) (fun q hq => by have h := Option.some.inj hq; omega))
      | (refine step_append_empty _ (by rfl) (.tmp 48) (.tmp 50) 23 (by rfl) w9.heap.size 5 i0 _ 1 1 Tryd.underlying23 hi0 hz0 hz1 hz2 rfl (by decide) (w9.heap.size) (by rfl) ((World.ownsRow_made (size := 1) w9 #[] 0 (Nat.le_refl _) (Nat.zero_le _) rfl).alloc _) oa s.on_ oc (cellsK .u8 s.on_ s.of_) (by rfl) (by rw [cellsK_len, Nat.mul_one]) (head_nil H21.out.1) (bytes_cells (HB9.out.later (by repeat' (first | exact Below.refl _ _ | refine keep_drew ?_ | refine keep_alloc ?_ _)))) (cellsK_one _ _ _) (by unfold maxLen; omega) (by omega) (by first | exact Nat.le_refl _ | (simp; done) | (simp; omega)) ?_; intro a10 c10 w10 own10 hgrow10; have hb10w : Below w9.heap.size w9 w10 := Below.grown (by repeat' (first | exact Below.refl _ _ | refine keep_drew ?_ | refine keep_alloc ?_ _)) hgrow10 (by first | exact Nat.le_refl _ | (simp; done) | (simp; omega)) (fun q hq => by have h := Option.some.inj hq; omega); have k91 : w10.cell? ⟨w9.heap.size + 1, 0, none⟩ = some (.int .u8 91) := hgrow10.cell (by simp [go_sem]) (by simp))
      | (refine step_append_empty _ (by rfl) (.tmp 48) (.tmp 50) 23 (by rfl) w9.heap.size 5 i0 _ 1 1 Tryd.underlying23 hi0 hz0 hz1 hz2 rfl (by decide) (w9.heap.size + 1) (by rfl) (owns_behind w9 _) oa s.on_ oc (cellsK .u8 s.on_ s.of_) (by rfl) (by rw [cellsK_len, Nat.mul_one]) (head_nil H21.out.1) (bytes_cells (HB9.out.later (by repeat' (first | exact Below.refl _ _ | refine keep_drew ?_ | refine keep_alloc ?_ _)))) (cellsK_one _ _ _) (by unfold maxLen; omega) (by omega) (by first | exact Nat.le_refl _ | (simp; done) | (simp; omega)) ?_; intro a10 c10 w10 own10 hgrow10; have hb10w : Below w9.heap.size w9 w10 := Below.grown (by repeat' (first | exact Below.refl _ _ | refine keep_drew ?_ | refine keep_alloc ?_ _)) hgrow10 (by first | exact Nat.le_refl _ | (simp; done) | (simp; omega)) (fun q hq => by have h := Option.some.inj hq; omega); have k91 : w10.cell? ⟨w9.heap.size, 0, none⟩ = some (.int .u8 91) := hgrow10.cell (by simp [go_sem]) (by simp))
      | (refine step_append_lies _ (by rfl) (.tmp 51) (.tmp 52) 23 (by rfl) w9.heap.size 5 i0 _ 1 1 Tryd.underlying23 hi0 hz0 hz1 hz2 rfl (by decide) (.slice a10 s.on_ c10) s.on_ (cellsK .u8 s.on_ s.of_) (by rfl) (own10.alloc _) ⟨w10.heap.size, 0, none⟩ 1 1 [.int .u8 91] (by rfl) rfl (fun j u hu => by rcases j with _ | j <;> simp at hu; subst hu; simp [Addr.add, go_sem]) (by simp [Value.oneCell']) (by omega) (by unfold maxLen; omega) (by omega) (by have := hb10w.size; simp <;> omega) _ rfl ?_; intro g11 c11 w11 own11 hgrow11 hat11 hlt11; have hb11w : Below w9.heap.size w9 w11 := Below.grown (by repeat' (first | exact hb10w | exact Below.refl _ _ | refine keep_drew ?_ | refine keep_alloc ?_ _)) hgrow11 (by have := hb10w.size; simp <;> omega) (fun q hq => (own10.lt q hq).1); have hc11 : (s.on_ : Int) + 1 ≤ c11 := (by have := own_cap own11; omega); have hc12 : (s.on_ : Int) ≤ c11 := (by omega); have d11 : w11.cell? ⟨g7, 21, none⟩ = some (.slice oa s.on_ oc) := (A9.out.later hb11w) 21 _ (by rw [EC.out]; rfl); have z11 : w11.frozen? ⟨g7, 21, none⟩ = false := ((hb11w.frozen (p := ⟨g7, 21, none⟩) hg7.out).trans (Z9.out 21)); have l11 := own_lt own11 g11 rfl)
      | (refine step_append_lies _ (by rfl) (.tmp 51) (.tmp 52) 23 (by rfl) w9.heap.size 5 i0 _ 1 1 Tryd.underlying23 hi0 hz0 hz1 hz2 rfl (by decide) (.slice a10 s.on_ c10) s.on_ (cellsK .u8 s.on_ s.of_) (by rfl) own10 ⟨w9.heap.size + 1, 0, none⟩ 1 1 [.int .u8 91] (by rfl) rfl (fun j u hu => by rcases j with _ | j <;> simp at hu; subst hu; simpa [Addr.add] using k91) (by simp [Value.oneCell']) (by omega) (by unfold maxLen; omega) (by omega) (by have := hb10w.size; simp <;> omega) _ rfl ?_; intro g11 c11 w11 own11 hgrow11 hat11 hlt11; have hb11w : Below w9.heap.size w9 w11 := Below.grown (by repeat' (first | exact hb10w | exact Below.refl _ _ | refine keep_drew ?_ | refine keep_alloc ?_ _)) hgrow11 (by have := hb10w.size; simp <;> omega) (fun q hq => (own10.lt q hq).1); have hc11 : (s.on_ : Int) + 1 ≤ c11 := (by have := own_cap own11; omega); have hc12 : (s.on_ : Int) ≤ c11 := (by omega); have d11 : w11.cell? ⟨g7, 21, none⟩ = some (.slice oa s.on_ oc) := (A9.out.later hb11w) 21 _ (by rw [EC.out]; rfl); have z11 : w11.frozen? ⟨g7, 21, none⟩ = false := ((hb11w.frozen (p := ⟨g7, 21, none⟩) hg7.out).trans (Z9.out 21)); have l11 := own_lt own11 g11 rfl)
      | (refine step_append_lies _ (by rfl) (.tmp 51) (.tmp 52) 23 (by rfl) w9.heap.size 5 i0 _ 1 1 Tryd.underlying23 hi0 hz0 hz1 hz2 rfl (by decide) (.slice a10 s.on_ c10) s.on_ (cellsK .u8 s.on_ s.of_) (by rfl) own10 ⟨w9.heap.size, 0, none⟩ 1 1 [.int .u8 91] (by rfl) rfl (fun j u hu => by rcases j with _ | j <;> simp at hu; subst hu; simpa [Addr.add] using k91) (by simp [Value.oneCell']) (by omega) (by unfold maxLen; omega) (by omega) (by have := hb10w.size; simp <;> omega) _ rfl ?_; intro g11 c11 w11 own11 hgrow11 hat11 hlt11; have hb11w : Below w9.heap.size w9 w11 := Below.grown (by repeat' (first | exact hb10w | exact Below.refl _ _ | refine keep_drew ?_ | refine keep_alloc ?_ _)) hgrow11 (by have := hb10w.size; simp <;> omega) (fun q hq => (own10.lt q hq).1); have hc11 : (s.on_ : Int) + 1 ≤ c11 := (by have := own_cap own11; omega); have hc12 : (s.on_ : Int) ≤ c11 := (by omega); have d11 : w11.cell? ⟨g7, 21, none⟩ = some (.slice oa s.on_ oc) := (A9.out.later hb11w) 21 _ (by rw [EC.out]; rfl); have z11 : w11.frozen? ⟨g7, 21, none⟩ = false := ((hb11w.frozen (p := ⟨g7, 21, none⟩) hg7.out).trans (Z9.out 21)); have l11 := own_lt own11 g11 rfl)
      | fail)
    all_goals go_wp2_with fail
    all_goals go_meet
    all_goals
      refine ⟨rfl, g11, c11, by have := hg7.out; omega, by omega, (A9.out.later hb11w).set 21 (by rw [sz]; decide) _, (rowB_of_list own11 cells_one).far (by have := hg7.out; omega) _ _, ?_⟩
      have e := E7.out
      rw [e]
      exact (hb9.trans (hb11w.mono hb9.size)).setCell (p := ⟨v8.heap.size, 21, none⟩) (Nat.le_refl _) _
  case rest =>
    obtain ⟨rfl, g, cap, hgg, hcap, hA, hR, hBl⟩ := hcut
    have hb8 : Hid (Below v8.heap.size v8 wc) := by have h := hBl; rw [E7.out] at h; exact h
    have h38 : Hid (Below w3.heap.size w3 wc) := (L3.out _ B8.out).trans (hb8.out.mono (L3.out _ B8.out).size)
    obtain ⟨Cf, eCf⟩ : ∃ Cf, Cf = C.setIfInBounds 21 (.slice (some ⟨g, 0, none⟩) s.on_ cap) := ⟨_, rfl⟩
    rw [← eCf] at hA
    have JF : Hid (IsSt wc (.agg Cf) s) := ⟨ba, bc, ma, mc, ia, ic, some ⟨g, 0, none⟩, cap, by rw [eCf, EC.out]; rfl, ⟨H17.out.1, H17.out.2.later h38.out⟩, ⟨H19.out.1, H19.out.2.later h38.out⟩, ⟨H20.out.1, H20.out.2.later h38.out⟩, ⟨by omega, fun e => by cases e⟩, HB9.out.1, .inr ⟨g, 0, rfl, fun i hi => by rw [Nat.zero_add, hR.1 i (by omega)]; simp only [if_pos hi]⟩⟩
    have JC : Hid (IsSt wc (.agg C) s) := J3.out.later h38.out
    have JW : Hid (IsSt wc (.agg Cw) s) := W8.out.later hb8.out
    have SA : Hid (At wc w.heap.size C) := S3.out.later h38.out
    have WA : Hid (At wc g6 Cw) := A8.out.later hb8.out
    have FA : Hid (At wc g7 Cf) := hA
    have TC : Hid (Tab wc) := T3.out.later h38.out
    have RC : Hid (RowK .u32 wc a n f) := R3.out.later h38.out
    have KC : Hid (RowK .u32 wc a3 n f) := K3.out.2.later h38.out
    have yg : wc.cell? ⟨g, s.on_, none⟩ = some (.int .u8 91) := by have h := hR.1 s.on_ (by omega); simp only [Nat.lt_irrefl, if_false] at h; exact h
    have y21 : wc.cell? ⟨g7, 21, none⟩ = some (.slice (some ⟨g, 0, none⟩) s.on_ cap) := hA 21 _ (by rw [eCf, EC.out]; rfl)
    have x21 : wc.cell? ⟨w.heap.size, 21, none⟩ = some (.slice oa s.on_ oc) := SA.out 21 _ (by rw [EC.out]; rfl)
    have hzf : Hid ((Tryd.prog.info? 32).map (·.size) = some Cf.toList.length) := (st_info JF.out).2
    have hzw : Hid ((Tryd.prog.info? 32).map (·.size) = some Cw.toList.length) := (st_info JW.out).2
    have QC : Hid (Below w.heap.size w wc) := Q3.out.trans (h38.out.mono Q3.out.size)
    clear hb9 hb8 h38 hBl hR hA A8 A9 Z9 S9 HB9 W8 R3 T3 J3 S3 Q8 Q3 B8 eCf
    go_upto_region 13 with (first
      | (go_at_call 13; revert hb10; intro hb10; refine (step_st (JF.out.later hb10) hs a n c f (by omega) hh (RC.out.later hb10) (TC.out.later hb10)).mono ?_; rintro e w11 ⟨v11, rfl, -, hb11⟩)
      | ((with_reducible show wpList _ _ _ (Oper.mk _ (Op.load _ _) _ _ _ _ :: _) _ _); refine wpList_load_mid rfl 32 (.tmp 7) rfl g7 0 rfl Cf.toList _ (at_range (FA.out.later hb10)) Tryd.underlying32 rfl hzf.out ?_)
      | (go_at_call 13; refine (step_st JC.out hs a n c f (by omega) hh RC.out TC.out).mono ?_; rintro e w10 ⟨v10, rfl, -, hb10⟩)
      | ((with_reducible show wpList _ _ _ (Oper.mk _ (Op.load _ _) _ _ _ _ :: _) _ _); refine wpList_load_mid rfl 32 (.tmp 3) rfl w.heap.size 0 rfl C.toList _ (at_range SA.out) Tryd.underlying32 rfl hz.out ?_))
    have hb : Hid (Below wc.heap.size wc w11) := bnext hb10 hb11
    replace yg := cell_later' yg hb.out
    replace y21 := cell_later' y21 hb.out
    replace x21 := cell_later' x21 hb.out
    replace SA := SA.out.later hb.out
    replace WA := WA.out.later hb.out
    replace JC := JC.out.later hb.out
    replace JW := JW.out.later hb.out
    replace QC := QC.out.trans (hb.out.mono QC.out.size)
    have SA : Hid (At w11 w.heap.size C) := SA
    have WA : Hid (At w11 g6 Cw) := WA
    have QC : Hid (Below w.heap.size w w11) := QC
    have CW : Hid (∀ W, Below w11.heap.size w11 W → Calls Tryd.prog 18 #[.slice a n c, .slice a3 n c3] W fun e w' => e = .returned (.bool true) ∧ Below W.heap.size W w') := fun W hW => words_same W a a3 n c c3 f (by omega) ((RC.out.later hb.out).later hW) ((KC.out.later hb.out).later hW)
    have CS : Hid (∀ W, Below w11.heap.size w11 W → Calls Tryd.prog 10 #[.agg C, .agg Cw] W fun e w' => e = .returned (.bool true) ∧ Below W.heap.size W w') := fun W hW => by
      have h := rsame6_st (JC.later hW) (JW.later hW) (by omega) (by omega)
      rwa [same_self] at h
    have on0 : (s.on_ : Int) ≤ 6000 := by omega
    have on1 : (0 : Int) ≤ (s.on_ : Int) + 1 := by omega
    have on2 : (s.on_ : Int) < (s.on_ : Int) + 1 := by omega
    have oncap : (s.on_ : Int) + 1 ≤ cap := by omega
    have onw : IntKind.i64.wrap ((s.on_ : Int) + 1) = (s.on_ : Int) + 1 := by simp [IntKind.wrap, IntKind.bits, IntKind.signed]; omega
    have ont : ((s.on_ : Int) + 1).toNat = s.on_ + 1 := by omega
    clear JC JW FA TC RC KC JF hb hb10 hb11 hs hl hh H17 H19 H20 H21 K3
    refine calm_region (C := fun W => Below w11.heap.size w11 W) (by kernel_rfl) (by kernel_rfl) (Below.refl _ _).drew ?_
    refine calm_move (by rfl) _ rfl ?_
    simp only [Act.put, List.setIfInBounds_toArray, List.set_cons_zero, List.set_cons_succ]
    refine calm_move (by rfl) _ rfl ?_
    simp only [Act.put, List.setIfInBounds_toArray, List.set_cons_zero, List.set_cons_succ]
    refine calm_want (by rfl) (.bool true) (fun W hW => by unfold Oper.quietAt Oper.quietUpon; go_simp; exact (CW.out W hW).mono fun e w' h => ⟨h.1, bnext hW h.2⟩) ?_
    simp only [Act.put, List.setIfInBounds_toArray, List.set_cons_zero, List.set_cons_succ]
    refine calm_move (by rfl) _ rfl ?_
    simp only [Act.put, List.setIfInBounds_toArray, List.set_cons_zero, List.set_cons_succ]
    refine calm_load (by rfl) 32 (.tmp 3) rfl w.heap.size 0 rfl C.toList _ (fun W hW => at_range (SA.out.later hW)) Tryd.underlying32 rfl hz.out ?_
    simp only [Act.put, List.setIfInBounds_toArray, List.set_cons_zero, List.set_cons_succ]
    refine calm_load (by rfl) 32 (.tmp 6) rfl g6 0 rfl Cw.toList _ (fun W hW => at_range (WA.out.later hW)) Tryd.underlying32 rfl hzw.out ?_
    simp only [Act.put, List.setIfInBounds_toArray, List.set_cons_zero, List.set_cons_succ]
    refine calm_want (by rfl) (.bool true) (fun W hW => by unfold Oper.quietAt Oper.quietUpon; go_simp; exact (CS.out W hW).mono fun e w' h => ⟨h.1, bnext hW h.2⟩) ?_
    simp only [Act.put, List.setIfInBounds_toArray, List.set_cons_zero, List.set_cons_succ]
    refine calm_want (by rfl) (.bool true) (fun W hW => by unfold Oper.quietAt; go_simp) ?_
    simp only [Act.put, List.setIfInBounds_toArray, List.set_cons_zero, List.set_cons_succ]
    refine calm_move (by rfl) _ rfl ?_
    simp only [Act.put, List.setIfInBounds_toArray, List.set_cons_zero, List.set_cons_succ]
    refine calm_want (by rfl) (.pointer (some ⟨g7, 21, none⟩)) (fun W hW => by unfold Oper.quietAt; go_simp) ?_
    simp only [Act.put, List.setIfInBounds_toArray, List.set_cons_zero, List.set_cons_succ]
    refine calm_want (by rfl) (.slice (some ⟨g, 0, none⟩) s.on_ cap) (fun W hW => by have f7 := cell_later' y21 hW; unfold Oper.quietAt; go_simp) ?_
    simp only [Act.put, List.setIfInBounds_toArray, List.set_cons_zero, List.set_cons_succ]
    refine calm_want (by rfl) (.pointer (some ⟨w.heap.size, 21, none⟩)) (fun W hW => by unfold Oper.quietAt; go_simp) ?_
    simp only [Act.put, List.setIfInBounds_toArray, List.set_cons_zero, List.set_cons_succ]
    refine calm_want (by rfl) (.slice oa s.on_ oc) (fun W hW => by have f3 := cell_later' x21 hW; unfold Oper.quietAt; go_simp) ?_
    simp only [Act.put, List.setIfInBounds_toArray, List.set_cons_zero, List.set_cons_succ]
    refine calm_want (by rfl) (.int .i64 s.on_) (fun W hW => by unfold Oper.quietAt; go_simp) ?_
    simp only [Act.put, List.setIfInBounds_toArray, List.set_cons_zero, List.set_cons_succ]
    refine calm_want (by rfl) (.int .i64 (s.on_ + 1)) (fun W hW => by unfold Oper.quietAt; go_simp) ?_
    simp only [Act.put, List.setIfInBounds_toArray, List.set_cons_zero, List.set_cons_succ]
    refine calm_want (by rfl) (.slice (some ⟨g, 0, none⟩) (s.on_ + 1) cap) (fun W hW => by unfold Oper.quietAt; go_simp) ?_
    simp only [Act.put, List.setIfInBounds_toArray, List.set_cons_zero, List.set_cons_succ]
    refine calm_want (by rfl) (.pointer (some ⟨w.heap.size, 21, none⟩)) (fun W hW => by unfold Oper.quietAt; go_simp) ?_
    simp only [Act.put, List.setIfInBounds_toArray, List.set_cons_zero, List.set_cons_succ]
    refine calm_want (by rfl) (.slice oa s.on_ oc) (fun W hW => by have f3 := cell_later' x21 hW; unfold Oper.quietAt; go_simp) ?_
    simp only [Act.put, List.setIfInBounds_toArray, List.set_cons_zero, List.set_cons_succ]
    refine calm_want (by rfl) (.int .i64 s.on_) (fun W hW => by unfold Oper.quietAt; go_simp) ?_
    simp only [Act.put, List.setIfInBounds_toArray, List.set_cons_zero, List.set_cons_succ]
    refine calm_want (by rfl) (.pointer (some ⟨g, s.on_, none⟩)) (fun W hW => by unfold Oper.quietAt; go_simp) ?_
    simp only [Act.put, List.setIfInBounds_toArray, List.set_cons_zero, List.set_cons_succ]
    refine calm_want (by rfl) (.int .u8 91) (fun W hW => by have fg := cell_later' yg hW; unfold Oper.quietAt; go_simp) ?_
    simp only [Act.put, List.setIfInBounds_toArray, List.set_cons_zero, List.set_cons_succ]
    refine calm_want (by rfl) (.bool true) (fun W hW => by unfold Oper.quietAt; go_simp) ?_
    simp only [Act.put, List.setIfInBounds_toArray, List.set_cons_zero, List.set_cons_succ]
    refine calm_want (by rfl) (.bool true) (fun W hW => by unfold Oper.quietAt; go_simp) ?_
    simp only [Act.put, List.setIfInBounds_toArray, List.set_cons_zero, List.set_cons_succ]
    refine calm_assign (by rfl) _ rfl ?_
    simp only [Act.put, List.setIfInBounds_toArray, List.set_cons_zero, List.set_cons_succ]
    refine wpQuiet_nil ?_
    intro wz hz1
    go_wp2
    go_ret
    exact ⟨rfl, QC.out.trans (hz1.mono QC.out.size)⟩
theorem walk (w : World) (a : Option Addr) (n c : Nat) (f : Nat → Int) (h0 : n ≤ c ∧ c ≤ maxLen ∧ (a = none → c = 0) ∧ RowK .u32 w a n f)
    (at1 : Int) (r1 : Nat → Int) (ba1 : Option Addr) (bn1 bc1 : Nat) (bf1 : Nat → Int) (wt1 : Int) (ma1 : Option Addr) (mn1 mc1 : Nat) (mf1 : Nat → Int) (ia1 : Option Addr) (in1 ic1 : Nat) (if1 : Nat → Int) (oa1 : Option Addr) (on1 oc1 : Nat) (of1 : Nat → Int) (en1 : Bool) (cd1 ft1 : Int)
    (h1 : (Lit.int .i64 at1).wf = true ∧ (∀ j, (Lit.int .u32 (r1 j)).wf = true) ∧ (bn1 ≤ bc1 ∧ bc1 ≤ maxLen ∧ (ba1 = none → bc1 = 0) ∧ RowK .i64 w ba1 bn1 bf1) ∧ (Lit.int .i64 wt1).wf = true ∧ (mn1 ≤ mc1 ∧ mc1 ≤ maxLen ∧ (ma1 = none → mc1 = 0) ∧ Bytes w ma1 mn1 mf1) ∧
      (in1 ≤ ic1 ∧ ic1 ≤ maxLen ∧ (ia1 = none → ic1 = 0) ∧ Bytes w ia1 in1 if1) ∧ (on1 ≤ oc1 ∧ oc1 ≤ maxLen ∧ (oa1 = none → oc1 = 0) ∧ Bytes w oa1 on1 of1) ∧ (Lit.int .u32 cd1).wf = true ∧ (Lit.int .i64 ft1).wf = true) (hT : Tab w) :
    Calls Tryd.prog 6 #[.slice a n c, stateV at1 r1 ba1 bn1 bc1 wt1 ma1 mn1 mc1 ia1 in1 ic1 oa1 on1 oc1 en1 cd1 ft1] w fun e w' => e = .returned (.bool true) ∧ Below w.heap.size w w' := by
  obtain ⟨hn0, hm0, hnil0, hw⟩ := h0
  obtain ⟨hat, hr, ⟨b1, b2, b3, hB⟩, hwt, ⟨m1, m2, m3, hM⟩, ⟨i1, i2, i3, hI⟩, ⟨o1, o2, o3, hO⟩, hcd, hft⟩ := h1
  unfold maxLen at hm0 b2 m2 i2 o2
  obtain ⟨s, es⟩ : ∃ s : St, s = ⟨at1, r1, bn1, bf1, wt1, mn1, mf1, in1, if1, on1, of1, en1, cd1, ft1⟩ := ⟨_, rfl⟩
  obtain ⟨C, eC⟩ : ∃ C : Array Value, Value.agg C = stateV at1 r1 ba1 bn1 bc1 wt1 ma1 mn1 mc1 ia1 in1 ic1 oa1 on1 oc1 en1 cd1 ft1 := ⟨_, rfl⟩
  rw [← eC]
  have hS : IsSt w (.agg C) s := by rw [es]; exact ⟨ba1, bc1, ma1, mc1, ia1, ic1, oa1, oc1, eC, ⟨⟨b1, b3⟩, hB⟩, ⟨⟨m1, m3⟩, hM⟩, ⟨⟨i1, i3⟩, hI⟩, ⟨o1, o3⟩, hO⟩
  have hl : s.bn ≤ 9223372036854775807 ∧ s.mn ≤ 9223372036854775807 ∧ s.inn ≤ 9223372036854775807 ∧ s.on_ ≤ 9223372036854775807 := by rw [es]; exact ⟨by simp only []; omega, by simp only []; omega, by simp only []; omega, by simp only []; omega⟩
  have hr' : ∀ j, (Lit.int .u32 (s.r j)).wf = true := by rw [es]; exact hr
  have hwt' : (Lit.int .i64 s.wt).wf = true := by rw [es]; exact hwt
  have hcd' : (Lit.int .u32 s.cd).wf = true := by rw [es]; exact hcd
  have hft' : (Lit.int .i64 s.ft).wf = true := by rw [es]; exact hft
  clear es eC
  cases hf : fewZ s
  · exact keeps_few hS hl a n c f (by omega) hw hT hf
  · have hs := small_few hf hr' hwt' hcd' hft'
    by_cases h5 : (500 : Int) < n
    · exact keeps_long hS hl a n c f (by omega) hw hT hf h5
    · exact keeps_main hS hl a n c f (by omega) hw hT hf (by omega) hs ⟨hn0, hnil0⟩

/-! ### The row's step -/
set_option maxRecDepth 100000 in
theorem lifted (os : Os) (started : os.Started) (H : Type) (enc : TypeId × Value → H) :
    ReturnsInHanded {} Tryd.checked os 6 .any (fun w args => (Rows.cpuKeepsSpec.pre enc Tryd.prog Tryd.f6 [] false w args ∧ laidMetH Tryd.prog laidL w) ∧ sizedMet enc Tryd.prog Tryd.f6 (OpenSpec.ofChange Rows.cpuKeepsSpec) false w args)
      (Rows.cpuKeepsSpec.post enc Tryd.prog Tryd.f6 false true false false) := by
  refine returnsInHanded_of_change_and (C := Tryd.checked) (X := fun w _ => laidMetH Tryd.prog laidL w) (fun _ _ _ hh h => h.of_heap hh) own started (by kernel_rfl) Tryd.func6
    (ChangeSpec.witness_shaped (enc := enc) (C := Tryd.checked) (os := os) (X := fun w _ => laidMetH Tryd.prog laidL w) false (World.doorLaid Tryd.prog 40 os) #[.slice none 0 0, .agg #[.int .i64 0, .int .u32 0, .int .u32 0, .int .u32 0, .int .u32 0, .int .u32 0, .int .u32 0, .int .u32 0, .int .u32 0, .int .u32 0, .int .u32 0, .int .u32 0, .int .u32 0, .int .u32 0, .int .u32 0, .int .u32 0, .int .u32 0, .slice none 0 0, .int .i64 0, .slice none 0 0, .slice none 0 0, .slice none 0 0, .bool false, .int .u32 0, .int .i64 0]] 8 rfl (World.shaped_of_RefB (by kernel_rfl) (by kernel_rfl)) (by kernel_rfl) (by kernel_rfl) (by kernel_rfl) (door_met os _)) ?_
  intro W base args ds gs before hval0 hW _ _ hL _
  have hval : ∀ (j : Nat) t v, Tryd.f6.params[j]? = some t → args[j]? = some v → Value.okWide Tryd.prog W .any base t v := hval0
  have hW' := hW
  obtain ⟨p, q, hA0, hV, rfl, hfz, hnd⟩ := hW
  have hA : DataW.TrodAll enc Tryd.prog W 0 (fun _ => true) true Tryd.f6.params.toList args.toList ds p := hA0
  rw [Tryd.params6] at hA hval
  obtain ⟨v0, vs0, d0, ds0, p0, q0, hargs, rfl, rfl, h0, r0⟩ := trodAll_cons hA
  obtain ⟨v1, vs1, d1, ds1, p1, q1, rfl, rfl, rfl, h1, r1⟩ := trodAll_cons r0
  obtain ⟨rfl, rfl, rfl⟩ := trodAll_nil r1
  obtain rfl : args = #[v0, v1] := by cases args; simp_all
  obtain ⟨rfl, rfl⟩ := trodVars_none hV
  have hT := tab_of hL
  have k0 := h0
  have lt0 : ∀ x ∈ p0, x.block < W.heap.size := by obtain ⟨m, hm⟩ := k0; exact DataW.trod_lt m _ _ _ hm
  obtain ⟨va0, vn0, vc0, vf0, rfl, w0⟩ := open_sl Tryd.underlying22 Tryd.underlying26 (by kernel_rfl) (hval 0 22 v0 rfl rfl) h0
  have k1 := h1
  have lt1 : ∀ x ∈ p1, x.block < W.heap.size := by obtain ⟨m, hm⟩ := k1; exact DataW.trod_lt m _ _ _ hm
  obtain ⟨vat1, vr1, vba1, vbn1, vbc1, vbf1, vwt1, vma1, vmn1, vmc1, vmf1, via1, vin1, vic1, vif1, voa1, von1, voc1, vof1, ven1, vcd1, vft1, rfl, w1⟩ := open_state (hval 1 32 v1 rfl rfl) h1
  clear hA0 hval0
  refine (walk W va0 vn0 vc0 vf0 w0 vat1 vr1 vba1 vbn1 vbc1 vbf1 vwt1 vma1 vmn1 vmc1 vmf1 via1 vin1 vic1 vif1 voa1 von1 voc1 vof1 ven1 vcd1 vft1 w1 hT).mono fun e W' ⟨he, bel⟩ => ?_
  subst he
  exact ⟨_, rfl, _, _, _, [], _, [], hW', trodAll_mk1 (shut_bool Tryd.underlying4 _), (trodAll_cons_mk (Below.trod laidOut (by kernel_rfl) (of_decide_eq_true (by kernel_rfl)) k0 bel lt0) (trodAll_cons_mk (Below.trod laidOut (by kernel_rfl) (of_decide_eq_true (by kernel_rfl)) k1 bel lt1) trodAll_mk0)), rfl, bel.frame _, fun h => by cases h⟩

theorem over : Rows.CpuKeepsSaid :=
  OpenClaim.holds_of_wide 6 Tryd.f6 rfl rfl rfl rfl rfl rfl rfl ⟨rfl, rfl, rfl, rfl, rfl⟩ rfl rfl rfl rfl rfl (by kernel_rfl) Tryd.func6 (by kernel_rfl)
    (of_decide_eq_true (by kernel_rfl)) (by unfold Func.isWrapper; first | (rw [if_pos (by decide +kernel)]; kernel_rfl) | (rw [if_neg (by decide +kernel)]; exact ⟨rfl, rfl⟩))
    (fun os started H enc _ => lifted os started H enc)

/-- The tied card. -/
theorem card : Rows.CpuKeepsCardSaid :=
  Claim7.holds_tied_plain_at .later [] [.data] true (true, "2ae3b24d0b1c2a4f435f061728b50183ea705ec5160814cbbfb91f673c3328a8") false
    over (fun _ h => by cases h) (by kernel_rfl) (fun _ h => by cases h) cpuKeeps_row_tie rfl ⟨rfl, rfl⟩ (by kernel_rfl) rfl
    (fun f fn hf hfn => by
      obtain rfl : f = 6 := Option.some.inj ((show Tryd.prog.funcNamed "splice/splicelaw06.CpuKeeps" = some 6 by kernel_rfl).symm.trans hf) |>.symm
      obtain rfl : fn = Tryd.f6 := (Option.some.inj (Tryd.func6.symm.trans hfn)).symm
      exact ⟨by kernel_rfl, fun j t ht => by
        rw [Tryd.params6] at ht
        have hm : t ∈ [22, 32] := by simpa using Array.mem_of_getElem? ht
        have hall : ([22, 32].all fun u => !Tryd.prog.wantsStandIn u) = true := by kernel_rfl
        exact (show Tryd.prog.wantsStandIn t = false by simpa using List.all_eq_true.1 hall t hm)⟩)
    (by kernel_rfl)
end Go.Proofs.YtcibifgbnpcpmaaDoor.cpuKeeps

namespace Go.Proofs.YtcibifgbnpcpmaaDoor
theorem CpuKeeps_holds : Rows.CpuKeepsCardSaid := cpuKeeps.card
#print axioms CpuKeeps_holds
end Go.Proofs.YtcibifgbnpcpmaaDoor
