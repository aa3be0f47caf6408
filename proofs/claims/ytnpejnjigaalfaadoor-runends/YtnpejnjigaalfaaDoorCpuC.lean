/- What the code's functions on states return: addresses, loads, input, what is read. -/
import Derived.Test.YtnpejnjigaalfaaDoorCpuB
import Derived.Test.YtnpejnjigaalfaaDoorStore
namespace Go.Proofs.YtnpejnjigaalfaaDoor
open Go.ChangeShapes Go.WideShapes Go.ChangeAt Go.RowKit
set_option linter.unusedVariables false
set_option linter.unusedSimpArgs false
set_option maxRecDepth 100000 in
theorem address_any {w : World} {C : Array Value} {s : St} (h : IsSt w (.agg C) s) (hr : ∀ j, 0 ≤ s.r j ∧ s.r j < 4294967296) (op a : Int) (k : Nat) (c imm : Int) (hk : k < 16) (hi : -1073741824 ≤ imm ∧ imm ≤ 1073741824) :
    Calls Tryd.prog 65 #[.agg C, .agg (#[.int .i64 op, .int .i64 a, .int .i64 k, .int .i64 c, .int .i64 imm])] w fun e w' => e = .returned (.int .u32 (whereZ s k imm)) ∧ Below w.heap.size w w' := by
  have b1 : Hid (Below w.heap.size w ((w.alloc (.cells C 37)).alloc (.cells #[.int .i64 op, .int .i64 a, .int .i64 k, .int .i64 c, .int .i64 imm] 54))) := ((Below.refl _ w).alloc (Nat.le_refl _) _).alloc (by simp) _
  have I0 : Hid (InsAt ((w.alloc (.cells C 37)).alloc (.cells #[.int .i64 op, .int .i64 a, .int .i64 k, .int .i64 c, .int .i64 imm] 54)) (w.heap.size + 1) op a k c imm) := by
    have h := InsAt.new (w.alloc (.cells C 37)) op a k c imm 54
    rwa [show (w.alloc (.cells C 37)).heap.size = w.heap.size + 1 from by simp] at h
  have xk : ((w.alloc (.cells C 37)).alloc (.cells #[.int .i64 op, .int .i64 a, .int .i64 k, .int .i64 c, .int .i64 imm] 54)).cell? ⟨w.heap.size, 1 + k, none⟩ = some (.int .u32 (s.r k)) := by
    have h1 := (cell_st (Boxed.new h 37 37)).2.1 k hk
    refine cell_later' (new_cell' w C 37 (1 + k) (.int .u32 (s.r k)) ?_) ((Below.refl _ _).alloc (Nat.le_refl _) _)
    obtain ⟨ba, bc, ma, mc, ia, ic, oa, oc, eC, -⟩ := st_cells h
    rw [eC]
    rcases (by omega : k = 0 ∨ k = 1 ∨ k = 2 ∨ k = 3 ∨ k = 4 ∨ k = 5 ∨ k = 6 ∨ k = 7 ∨ k = 8 ∨ k = 9 ∨ k = 10 ∨ k = 11 ∨ k = 12 ∨ k = 13 ∨ k = 14 ∨ k = 15) with rfl | rfl | rfl | rfl | rfl | rfl | rfl | rfl | rfl | rfl | rfl | rfl | rfl | rfl | rfl | rfl <;> rfl
  obtain ⟨r0, r1⟩ := hr k
  have hk' : (k : Int) < 16 := by omega
  obtain ⟨i0, i1⟩ := hi
  have HW : Hid (whereZ s k imm = (s.r k + imm % 4294967296) % 4294967296) := by show _ = _; unfold whereZ; rw [Int.toNat_natCast]; omega
  rw [HW.out]
  generalize s.r k = x at xk r0 r1 HW ⊢
  clear h hr
  go_enter Tryd.func65, Tryd.ntmps65
  go_upto_region 1 with fail
  generalize (w.alloc (.cells C 37)).alloc (.cells #[.int .i64 op, .int .i64 a, .int .i64 k, .int .i64 c, .int .i64 imm] 54) = w0 at b1 I0 xk ⊢
  obtain ⟨y0, y1, y2, y3, y4⟩ := id I0.out
  go_quiet (fail)
  go_wp2
  go_ret
  exact ⟨rfl, bnext b1.out (below_drewN (Below.refl _ _) _)⟩
set_option maxRecDepth 100000 in
theorem loadw_st_yes {w : World} {C : Array Value} {s : St} (h : IsSt w (.agg C) s) (hs : Small s) (a b : Nat) (c imm : Int) (ha : a < 16) (hb : b < 16) (hi : -1073741824 ≤ imm ∧ imm ≤ 1073741824) (ho : okB s.mn (whereZ s b imm) true = true) :
    Calls Tryd.prog 52 #[.agg C, .agg (#[.int .i64 11, .int .i64 a, .int .i64 b, .int .i64 c, .int .i64 imm])] w (StPost w C ({ s with r := setR s.r a (loadZ s.mf (whereZ s b imm) true), at_ := s.at_ + 1 })) := by
  obtain ⟨⟨hr0, hr⟩, hat, hl, -⟩ := hs
  obtain ⟨x, ex⟩ : ∃ x, x = loadZ s.mf (whereZ s b imm) true := ⟨_, rfl⟩
  rw [← ex]
  have B0 : Hid (Boxed w (((w.alloc (.cells C 37)).alloc (.cells #[.int .i64 11, .int .i64 a, .int .i64 b, .int .i64 c, .int .i64 imm] 54)).alloc (.cells noSt 37)) w.heap.size (w.heap.size + 2) C C s) := Boxed.new3 h _ _ _ _
  have I0 : Hid (InsAt (((w.alloc (.cells C 37)).alloc (.cells #[.int .i64 11, .int .i64 a, .int .i64 b, .int .i64 c, .int .i64 imm] 54)).alloc (.cells noSt 37)) (w.heap.size + 1) 11 a b c imm) := ins_new3 _ _ _ _ _ _ _ _ _ _ _
  clear h
  go_enter Tryd.func52, Tryd.ntmps52
  go_upto_region 1 with fail
  rw [noSt_def]
  generalize ((w.alloc (.cells C 37)).alloc (.cells #[.int .i64 11, .int .i64 a, .int .i64 b, .int .i64 c, .int .i64 imm] 54)).alloc (.cells noSt 37) = w0 at B0 I0 ⊢
  obtain ⟨y0, y1, y2, y3, y4⟩ := id I0.out
  obtain ⟨-, -, x18, -⟩ := cell_st B0.out
  obtain ⟨ba, bc, ma, mc, ia, ic, oa, oc, ⟨-, x19, -⟩, -, hd, -⟩ := list_st B0.out
  have AD : Hid (∀ W, Below w0.heap.size w0 W → Calls Tryd.prog 65 #[.agg C, .agg (#[.int .i64 11, .int .i64 a, .int .i64 b, .int .i64 c, .int .i64 imm])] W fun e w' => e = .returned (.int .u32 (whereZ s b imm)) ∧ Below W.heap.size W w') := fun W hW => address_any (B0.out.later hW).st hr 11 a b c imm hb hi
  have hw0 : 0 ≤ whereZ s b imm ∧ whereZ s b imm < 4294967296 := by unfold whereZ; omega
  have LD : Hid (∀ W, Below w0.heap.size w0 W → Calls Tryd.prog 64 #[.agg #[.int .i64 s.wt, .slice ma s.mn mc], .int .u32 (whereZ s b imm), .bool true] W fun e w' => e = .returned (.tuple #[.int .u32 (loadZ s.mf (whereZ s b imm) true), .bool true]) ∧ Below W.heap.size W w') := fun W hW => by
    have h := load_any s.wt (whereZ s b imm) true ma s.mn mc s.mf W (by omega) hd.1.1 hw0.1 hw0.2 (hd.2.later hW)
    rwa [ho, if_pos rfl] at h
  rw [← ex] at LD
  clear ex ho
  go_wp2_with fail
  refine calm_region (C := fun W => Below w0.heap.size w0 W) (by kernel_rfl) (by kernel_rfl) (Below.refl _ _).drew ?_
  refine calm_want (by rfl) (.pointer (some ⟨w.heap.size, 18, none⟩)) (fun W hW => by unfold Oper.quietAt; go_simp) ?_
  simp only [Act.put, List.setIfInBounds_toArray, List.set_cons_zero, List.set_cons_succ]
  refine calm_want (by rfl) (.agg #[.int .i64 s.wt, .slice ma s.mn mc]) (fun W hW => by have f1 := cell_later' x18 hW; have f2 := cell_later' x19 hW; unfold Oper.quietAt; go_simp) ?_
  simp only [Act.put, List.setIfInBounds_toArray, List.set_cons_zero, List.set_cons_succ]
  refine calm_load (by rfl) 37 (.tmp 2) rfl w.heap.size 0 rfl C.toList _ (fun W hW => at_range (B0.out.at_.later hW)) Tryd.underlying37 rfl (st_info B0.out.st).2 ?_
  simp only [Act.put, List.setIfInBounds_toArray, List.set_cons_zero, List.set_cons_succ]
  refine calm_want (by rfl) (.agg #[.int .i64 11, .int .i64 a, .int .i64 b, .int .i64 c, .int .i64 imm]) (fun W hW => by have f0 := cell_later' y0 hW; have f1 := cell_later' y1 hW; have f2 := cell_later' y2 hW; have f3 := cell_later' y3 hW; have f4 := cell_later' y4 hW; unfold Oper.quietAt; go_simp) ?_
  simp only [Act.put, List.setIfInBounds_toArray, List.set_cons_zero, List.set_cons_succ]
  refine calm_want (by rfl) (.int .u32 (whereZ s b imm)) (fun W hW => by unfold Oper.quietAt Oper.quietUpon; go_simp; exact (AD.out W hW).mono fun e w' h => ⟨h.1, bnext hW h.2⟩) ?_
  simp only [Act.put, List.setIfInBounds_toArray, List.set_cons_zero, List.set_cons_succ]
  refine calm_want (by rfl) (.pointer (some ⟨w.heap.size + 1, 0, none⟩)) (fun W hW => by unfold Oper.quietAt; go_simp) ?_
  simp only [Act.put, List.setIfInBounds_toArray, List.set_cons_zero, List.set_cons_succ]
  refine calm_want (by rfl) (.int .i64 11) (fun W hW => by have f0 := cell_later' y0 hW; unfold Oper.quietAt; go_simp) ?_
  simp only [Act.put, List.setIfInBounds_toArray, List.set_cons_zero, List.set_cons_succ]
  refine calm_want (by rfl) (.bool true) (fun W hW => by unfold Oper.quietAt; go_simp) ?_
  simp only [Act.put, List.setIfInBounds_toArray, List.set_cons_zero, List.set_cons_succ]
  refine calm_want (by rfl) (.tuple #[.int .u32 x, .bool true]) (fun W hW => by unfold Oper.quietAt Oper.quietUpon; go_simp; exact (LD.out W hW).mono fun e w' h => ⟨h.1, bnext hW h.2⟩) ?_
  simp only [Act.put, List.setIfInBounds_toArray, List.set_cons_zero, List.set_cons_succ]
  refine calm_want (by rfl) (.tuple #[.int .u32 x, .bool true]) (fun W hW => by unfold Oper.quietAt; go_simp) ?_
  simp only [Act.put, List.setIfInBounds_toArray, List.set_cons_zero, List.set_cons_succ]
  refine calm_want (by rfl) (.int .u32 x) (fun W hW => by unfold Oper.quietAt; go_simp) ?_
  simp only [Act.put, List.setIfInBounds_toArray, List.set_cons_zero, List.set_cons_succ]
  refine calm_want (by rfl) (.bool true) (fun W hW => by unfold Oper.quietAt; go_simp) ?_
  simp only [Act.put, List.setIfInBounds_toArray, List.set_cons_zero, List.set_cons_succ]
  refine calm_want (by rfl) (.int .u32 x) (fun W hW => by unfold Oper.quietAt; go_simp) ?_
  simp only [Act.put, List.setIfInBounds_toArray, List.set_cons_zero, List.set_cons_succ]
  refine calm_want (by rfl) (.bool true) (fun W hW => by unfold Oper.quietAt; go_simp) ?_
  simp only [Act.put, List.setIfInBounds_toArray, List.set_cons_zero, List.set_cons_succ]
  refine wpQuiet_nil ?_
  intro w1 hb1
  have B1 : Hid (Boxed w w1 w.heap.size (w.heap.size + 2) C C s) := B0.out.later hb1
  have I1 : Hid (InsAt w1 (w.heap.size + 1) 11 a b c imm) := I0.out.later hb1
  clear x18 x19 y0 y1 y2 y3 y4 B0 I0 AD LD hd
  obtain ⟨y0, y1, y2, y3, y4⟩ := id I1.out
  go_wp2_with (first
    | (go_at_call 61; refine (write_set B1.out.st hat hr0 11 a b c imm x (by omega) (by omega) ha (by omega)).mono ?_; rintro e w9 ⟨C9, rfl, h9, v9, b9⟩)
    | ((with_reducible show wpList _ _ _ (Oper.mk _ (Op.load _ _) _ _ _ _ :: _) _ _); refine wpList_load_if (by rfl) 37 (.tmp 2) rfl w.heap.size 0 rfl C.toList _ (at_range B1.out.at_) Tryd.underlying37 rfl (st_info B1.out.st).2 ?_)
    | ((with_reducible show wpList _ _ _ (Oper.mk _ (Op.store _ _ _) _ _ _ _ :: _) _ _); refine wpList_store_room (w := w) rfl (.tmp 4) (.tmp 26) rfl (w.heap.size + 2) C9 rfl rfl h9 (there_later B1.out.room b9) ?_))
  have TT := Told.call B1.out b9 h9 v9
  exact bodyPost_ret (v := .agg C9) (results_st rfl _ (w.heap.size + 2) (by first | rfl | simp) TT.st _ TT.at_) rfl TT.post
set_option maxRecDepth 100000 in
theorem loadw_st_no {w : World} {C : Array Value} {s : St} (h : IsSt w (.agg C) s) (hs : Small s) (a b : Nat) (c imm : Int) (ha : a < 16) (hb : b < 16) (hi : -1073741824 ≤ imm ∧ imm ≤ 1073741824) (ho : okB s.mn (whereZ s b imm) true = false) :
    Calls Tryd.prog 52 #[.agg C, .agg (#[.int .i64 11, .int .i64 a, .int .i64 b, .int .i64 c, .int .i64 imm])] w (StPost w C (s.stop 3)) := by
  obtain ⟨⟨hr0, hr⟩, hat, hl, -⟩ := hs
  have B0 : Hid (Boxed w (((w.alloc (.cells C 37)).alloc (.cells #[.int .i64 11, .int .i64 a, .int .i64 b, .int .i64 c, .int .i64 imm] 54)).alloc (.cells noSt 37)) w.heap.size (w.heap.size + 2) C C s) := Boxed.new3 h _ _ _ _
  have I0 : Hid (InsAt (((w.alloc (.cells C 37)).alloc (.cells #[.int .i64 11, .int .i64 a, .int .i64 b, .int .i64 c, .int .i64 imm] 54)).alloc (.cells noSt 37)) (w.heap.size + 1) 11 a b c imm) := ins_new3 _ _ _ _ _ _ _ _ _ _ _
  clear h
  go_enter Tryd.func52, Tryd.ntmps52
  go_upto_region 1 with fail
  rw [noSt_def]
  generalize ((w.alloc (.cells C 37)).alloc (.cells #[.int .i64 11, .int .i64 a, .int .i64 b, .int .i64 c, .int .i64 imm] 54)).alloc (.cells noSt 37) = w0 at B0 I0 ⊢
  obtain ⟨y0, y1, y2, y3, y4⟩ := id I0.out
  obtain ⟨-, -, x18, -⟩ := cell_st B0.out
  obtain ⟨ba, bc, ma, mc, ia, ic, oa, oc, ⟨-, x19, -⟩, -, hd, -⟩ := list_st B0.out
  have AD : Hid (∀ W, Below w0.heap.size w0 W → Calls Tryd.prog 65 #[.agg C, .agg (#[.int .i64 11, .int .i64 a, .int .i64 b, .int .i64 c, .int .i64 imm])] W fun e w' => e = .returned (.int .u32 (whereZ s b imm)) ∧ Below W.heap.size W w') := fun W hW => address_any (B0.out.later hW).st hr 11 a b c imm hb hi
  have hw0 : 0 ≤ whereZ s b imm ∧ whereZ s b imm < 4294967296 := by unfold whereZ; omega
  have LD : Hid (∀ W, Below w0.heap.size w0 W → Calls Tryd.prog 64 #[.agg #[.int .i64 s.wt, .slice ma s.mn mc], .int .u32 (whereZ s b imm), .bool true] W fun e w' => e = .returned (.tuple #[.int .u32 (0), .bool false]) ∧ Below W.heap.size W w') := fun W hW => by
    have h := load_any s.wt (whereZ s b imm) true ma s.mn mc s.mf W (by omega) hd.1.1 hw0.1 hw0.2 (hd.2.later hW)
    rwa [ho, if_neg (by decide)] at h
  clear ho
  go_wp2_with fail
  refine calm_region (C := fun W => Below w0.heap.size w0 W) (by kernel_rfl) (by kernel_rfl) (Below.refl _ _).drew ?_
  refine calm_want (by rfl) (.pointer (some ⟨w.heap.size, 18, none⟩)) (fun W hW => by unfold Oper.quietAt; go_simp) ?_
  simp only [Act.put, List.setIfInBounds_toArray, List.set_cons_zero, List.set_cons_succ]
  refine calm_want (by rfl) (.agg #[.int .i64 s.wt, .slice ma s.mn mc]) (fun W hW => by have f1 := cell_later' x18 hW; have f2 := cell_later' x19 hW; unfold Oper.quietAt; go_simp) ?_
  simp only [Act.put, List.setIfInBounds_toArray, List.set_cons_zero, List.set_cons_succ]
  refine calm_load (by rfl) 37 (.tmp 2) rfl w.heap.size 0 rfl C.toList _ (fun W hW => at_range (B0.out.at_.later hW)) Tryd.underlying37 rfl (st_info B0.out.st).2 ?_
  simp only [Act.put, List.setIfInBounds_toArray, List.set_cons_zero, List.set_cons_succ]
  refine calm_want (by rfl) (.agg #[.int .i64 11, .int .i64 a, .int .i64 b, .int .i64 c, .int .i64 imm]) (fun W hW => by have f0 := cell_later' y0 hW; have f1 := cell_later' y1 hW; have f2 := cell_later' y2 hW; have f3 := cell_later' y3 hW; have f4 := cell_later' y4 hW; unfold Oper.quietAt; go_simp) ?_
  simp only [Act.put, List.setIfInBounds_toArray, List.set_cons_zero, List.set_cons_succ]
  refine calm_want (by rfl) (.int .u32 (whereZ s b imm)) (fun W hW => by unfold Oper.quietAt Oper.quietUpon; go_simp; exact (AD.out W hW).mono fun e w' h => ⟨h.1, bnext hW h.2⟩) ?_
  simp only [Act.put, List.setIfInBounds_toArray, List.set_cons_zero, List.set_cons_succ]
  refine calm_want (by rfl) (.pointer (some ⟨w.heap.size + 1, 0, none⟩)) (fun W hW => by unfold Oper.quietAt; go_simp) ?_
  simp only [Act.put, List.setIfInBounds_toArray, List.set_cons_zero, List.set_cons_succ]
  refine calm_want (by rfl) (.int .i64 11) (fun W hW => by have f0 := cell_later' y0 hW; unfold Oper.quietAt; go_simp) ?_
  simp only [Act.put, List.setIfInBounds_toArray, List.set_cons_zero, List.set_cons_succ]
  refine calm_want (by rfl) (.bool true) (fun W hW => by unfold Oper.quietAt; go_simp) ?_
  simp only [Act.put, List.setIfInBounds_toArray, List.set_cons_zero, List.set_cons_succ]
  refine calm_want (by rfl) (.tuple #[.int .u32 0, .bool false]) (fun W hW => by unfold Oper.quietAt Oper.quietUpon; go_simp; exact (LD.out W hW).mono fun e w' h => ⟨h.1, bnext hW h.2⟩) ?_
  simp only [Act.put, List.setIfInBounds_toArray, List.set_cons_zero, List.set_cons_succ]
  refine calm_want (by rfl) (.tuple #[.int .u32 0, .bool false]) (fun W hW => by unfold Oper.quietAt; go_simp) ?_
  simp only [Act.put, List.setIfInBounds_toArray, List.set_cons_zero, List.set_cons_succ]
  refine calm_want (by rfl) (.int .u32 0) (fun W hW => by unfold Oper.quietAt; go_simp) ?_
  simp only [Act.put, List.setIfInBounds_toArray, List.set_cons_zero, List.set_cons_succ]
  refine calm_want (by rfl) (.bool false) (fun W hW => by unfold Oper.quietAt; go_simp) ?_
  simp only [Act.put, List.setIfInBounds_toArray, List.set_cons_zero, List.set_cons_succ]
  refine calm_want (by rfl) (.int .u32 0) (fun W hW => by unfold Oper.quietAt; go_simp) ?_
  simp only [Act.put, List.setIfInBounds_toArray, List.set_cons_zero, List.set_cons_succ]
  refine calm_want (by rfl) (.bool false) (fun W hW => by unfold Oper.quietAt; go_simp) ?_
  simp only [Act.put, List.setIfInBounds_toArray, List.set_cons_zero, List.set_cons_succ]
  refine wpQuiet_nil ?_
  intro w1 hb1
  have B1 : Hid (Boxed w w1 w.heap.size (w.heap.size + 2) C C s) := B0.out.later hb1
  have I1 : Hid (InsAt w1 (w.heap.size + 1) 11 a b c imm) := I0.out.later hb1
  clear x18 x19 y0 y1 y2 y3 y4 B0 I0 AD LD hd
  obtain ⟨y0, y1, y2, y3, y4⟩ := id I1.out
  go_wp2_with (first
    | (go_at_call 51; refine (fault_st B1.out.st 3).mono ?_; rintro e w9 ⟨C9, rfl, h9, v9, b9⟩)
    | ((with_reducible show wpList _ _ _ (Oper.mk _ (Op.load _ _) _ _ _ _ :: _) _ _); refine wpList_load_if (by rfl) 37 (.tmp 2) rfl w.heap.size 0 rfl C.toList _ (at_range B1.out.at_) Tryd.underlying37 rfl (st_info B1.out.st).2 ?_)
    | ((with_reducible show wpList _ _ _ (Oper.mk _ (Op.store _ _ _) _ _ _ _ :: _) _ _); refine wpList_store_room (w := w) rfl (.tmp 4) (.tmp 22) rfl (w.heap.size + 2) C9 rfl rfl h9 (there_later B1.out.room b9) ?_))
  have TT := Told.call B1.out b9 h9 v9
  exact bodyPost_ret (v := .agg C9) (results_st rfl _ (w.heap.size + 2) (by first | rfl | simp) TT.st _ TT.at_) rfl TT.post
set_option maxRecDepth 100000 in
theorem loadb_st_yes {w : World} {C : Array Value} {s : St} (h : IsSt w (.agg C) s) (hs : Small s) (a b : Nat) (c imm : Int) (ha : a < 16) (hb : b < 16) (hi : -1073741824 ≤ imm ∧ imm ≤ 1073741824) (ho : okB s.mn (whereZ s b imm) false = true) :
    Calls Tryd.prog 52 #[.agg C, .agg (#[.int .i64 13, .int .i64 a, .int .i64 b, .int .i64 c, .int .i64 imm])] w (StPost w C ({ s with r := setR s.r a (loadZ s.mf (whereZ s b imm) false), at_ := s.at_ + 1 })) := by
  obtain ⟨⟨hr0, hr⟩, hat, hl, -⟩ := hs
  obtain ⟨x, ex⟩ : ∃ x, x = loadZ s.mf (whereZ s b imm) false := ⟨_, rfl⟩
  rw [← ex]
  have B0 : Hid (Boxed w (((w.alloc (.cells C 37)).alloc (.cells #[.int .i64 13, .int .i64 a, .int .i64 b, .int .i64 c, .int .i64 imm] 54)).alloc (.cells noSt 37)) w.heap.size (w.heap.size + 2) C C s) := Boxed.new3 h _ _ _ _
  have I0 : Hid (InsAt (((w.alloc (.cells C 37)).alloc (.cells #[.int .i64 13, .int .i64 a, .int .i64 b, .int .i64 c, .int .i64 imm] 54)).alloc (.cells noSt 37)) (w.heap.size + 1) 13 a b c imm) := ins_new3 _ _ _ _ _ _ _ _ _ _ _
  clear h
  go_enter Tryd.func52, Tryd.ntmps52
  go_upto_region 1 with fail
  rw [noSt_def]
  generalize ((w.alloc (.cells C 37)).alloc (.cells #[.int .i64 13, .int .i64 a, .int .i64 b, .int .i64 c, .int .i64 imm] 54)).alloc (.cells noSt 37) = w0 at B0 I0 ⊢
  obtain ⟨y0, y1, y2, y3, y4⟩ := id I0.out
  obtain ⟨-, -, x18, -⟩ := cell_st B0.out
  obtain ⟨ba, bc, ma, mc, ia, ic, oa, oc, ⟨-, x19, -⟩, -, hd, -⟩ := list_st B0.out
  have AD : Hid (∀ W, Below w0.heap.size w0 W → Calls Tryd.prog 65 #[.agg C, .agg (#[.int .i64 13, .int .i64 a, .int .i64 b, .int .i64 c, .int .i64 imm])] W fun e w' => e = .returned (.int .u32 (whereZ s b imm)) ∧ Below W.heap.size W w') := fun W hW => address_any (B0.out.later hW).st hr 13 a b c imm hb hi
  have hw0 : 0 ≤ whereZ s b imm ∧ whereZ s b imm < 4294967296 := by unfold whereZ; omega
  have LD : Hid (∀ W, Below w0.heap.size w0 W → Calls Tryd.prog 64 #[.agg #[.int .i64 s.wt, .slice ma s.mn mc], .int .u32 (whereZ s b imm), .bool false] W fun e w' => e = .returned (.tuple #[.int .u32 (loadZ s.mf (whereZ s b imm) false), .bool true]) ∧ Below W.heap.size W w') := fun W hW => by
    have h := load_any s.wt (whereZ s b imm) false ma s.mn mc s.mf W (by omega) hd.1.1 hw0.1 hw0.2 (hd.2.later hW)
    rwa [ho, if_pos rfl] at h
  rw [← ex] at LD
  clear ex ho
  go_wp2_with fail
  refine calm_region (C := fun W => Below w0.heap.size w0 W) (by kernel_rfl) (by kernel_rfl) (Below.refl _ _).drew ?_
  refine calm_want (by rfl) (.pointer (some ⟨w.heap.size, 18, none⟩)) (fun W hW => by unfold Oper.quietAt; go_simp) ?_
  simp only [Act.put, List.setIfInBounds_toArray, List.set_cons_zero, List.set_cons_succ]
  refine calm_want (by rfl) (.agg #[.int .i64 s.wt, .slice ma s.mn mc]) (fun W hW => by have f1 := cell_later' x18 hW; have f2 := cell_later' x19 hW; unfold Oper.quietAt; go_simp) ?_
  simp only [Act.put, List.setIfInBounds_toArray, List.set_cons_zero, List.set_cons_succ]
  refine calm_load (by rfl) 37 (.tmp 2) rfl w.heap.size 0 rfl C.toList _ (fun W hW => at_range (B0.out.at_.later hW)) Tryd.underlying37 rfl (st_info B0.out.st).2 ?_
  simp only [Act.put, List.setIfInBounds_toArray, List.set_cons_zero, List.set_cons_succ]
  refine calm_want (by rfl) (.agg #[.int .i64 13, .int .i64 a, .int .i64 b, .int .i64 c, .int .i64 imm]) (fun W hW => by have f0 := cell_later' y0 hW; have f1 := cell_later' y1 hW; have f2 := cell_later' y2 hW; have f3 := cell_later' y3 hW; have f4 := cell_later' y4 hW; unfold Oper.quietAt; go_simp) ?_
  simp only [Act.put, List.setIfInBounds_toArray, List.set_cons_zero, List.set_cons_succ]
  refine calm_want (by rfl) (.int .u32 (whereZ s b imm)) (fun W hW => by unfold Oper.quietAt Oper.quietUpon; go_simp; exact (AD.out W hW).mono fun e w' h => ⟨h.1, bnext hW h.2⟩) ?_
  simp only [Act.put, List.setIfInBounds_toArray, List.set_cons_zero, List.set_cons_succ]
  refine calm_want (by rfl) (.pointer (some ⟨w.heap.size + 1, 0, none⟩)) (fun W hW => by unfold Oper.quietAt; go_simp) ?_
  simp only [Act.put, List.setIfInBounds_toArray, List.set_cons_zero, List.set_cons_succ]
  refine calm_want (by rfl) (.int .i64 13) (fun W hW => by have f0 := cell_later' y0 hW; unfold Oper.quietAt; go_simp) ?_
  simp only [Act.put, List.setIfInBounds_toArray, List.set_cons_zero, List.set_cons_succ]
  refine calm_want (by rfl) (.bool false) (fun W hW => by unfold Oper.quietAt; go_simp) ?_
  simp only [Act.put, List.setIfInBounds_toArray, List.set_cons_zero, List.set_cons_succ]
  refine calm_want (by rfl) (.tuple #[.int .u32 x, .bool true]) (fun W hW => by unfold Oper.quietAt Oper.quietUpon; go_simp; exact (LD.out W hW).mono fun e w' h => ⟨h.1, bnext hW h.2⟩) ?_
  simp only [Act.put, List.setIfInBounds_toArray, List.set_cons_zero, List.set_cons_succ]
  refine calm_want (by rfl) (.tuple #[.int .u32 x, .bool true]) (fun W hW => by unfold Oper.quietAt; go_simp) ?_
  simp only [Act.put, List.setIfInBounds_toArray, List.set_cons_zero, List.set_cons_succ]
  refine calm_want (by rfl) (.int .u32 x) (fun W hW => by unfold Oper.quietAt; go_simp) ?_
  simp only [Act.put, List.setIfInBounds_toArray, List.set_cons_zero, List.set_cons_succ]
  refine calm_want (by rfl) (.bool true) (fun W hW => by unfold Oper.quietAt; go_simp) ?_
  simp only [Act.put, List.setIfInBounds_toArray, List.set_cons_zero, List.set_cons_succ]
  refine calm_want (by rfl) (.int .u32 x) (fun W hW => by unfold Oper.quietAt; go_simp) ?_
  simp only [Act.put, List.setIfInBounds_toArray, List.set_cons_zero, List.set_cons_succ]
  refine calm_want (by rfl) (.bool true) (fun W hW => by unfold Oper.quietAt; go_simp) ?_
  simp only [Act.put, List.setIfInBounds_toArray, List.set_cons_zero, List.set_cons_succ]
  refine wpQuiet_nil ?_
  intro w1 hb1
  have B1 : Hid (Boxed w w1 w.heap.size (w.heap.size + 2) C C s) := B0.out.later hb1
  have I1 : Hid (InsAt w1 (w.heap.size + 1) 13 a b c imm) := I0.out.later hb1
  clear x18 x19 y0 y1 y2 y3 y4 B0 I0 AD LD hd
  obtain ⟨y0, y1, y2, y3, y4⟩ := id I1.out
  go_wp2_with (first
    | (go_at_call 61; refine (write_set B1.out.st hat hr0 13 a b c imm x (by omega) (by omega) ha (by omega)).mono ?_; rintro e w9 ⟨C9, rfl, h9, v9, b9⟩)
    | ((with_reducible show wpList _ _ _ (Oper.mk _ (Op.load _ _) _ _ _ _ :: _) _ _); refine wpList_load_if (by rfl) 37 (.tmp 2) rfl w.heap.size 0 rfl C.toList _ (at_range B1.out.at_) Tryd.underlying37 rfl (st_info B1.out.st).2 ?_)
    | ((with_reducible show wpList _ _ _ (Oper.mk _ (Op.store _ _ _) _ _ _ _ :: _) _ _); refine wpList_store_room (w := w) rfl (.tmp 4) (.tmp 26) rfl (w.heap.size + 2) C9 rfl rfl h9 (there_later B1.out.room b9) ?_))
  have TT := Told.call B1.out b9 h9 v9
  exact bodyPost_ret (v := .agg C9) (results_st rfl _ (w.heap.size + 2) (by first | rfl | simp) TT.st _ TT.at_) rfl TT.post
set_option maxRecDepth 100000 in
theorem loadb_st_no {w : World} {C : Array Value} {s : St} (h : IsSt w (.agg C) s) (hs : Small s) (a b : Nat) (c imm : Int) (ha : a < 16) (hb : b < 16) (hi : -1073741824 ≤ imm ∧ imm ≤ 1073741824) (ho : okB s.mn (whereZ s b imm) false = false) :
    Calls Tryd.prog 52 #[.agg C, .agg (#[.int .i64 13, .int .i64 a, .int .i64 b, .int .i64 c, .int .i64 imm])] w (StPost w C (s.stop 3)) := by
  obtain ⟨⟨hr0, hr⟩, hat, hl, -⟩ := hs
  have B0 : Hid (Boxed w (((w.alloc (.cells C 37)).alloc (.cells #[.int .i64 13, .int .i64 a, .int .i64 b, .int .i64 c, .int .i64 imm] 54)).alloc (.cells noSt 37)) w.heap.size (w.heap.size + 2) C C s) := Boxed.new3 h _ _ _ _
  have I0 : Hid (InsAt (((w.alloc (.cells C 37)).alloc (.cells #[.int .i64 13, .int .i64 a, .int .i64 b, .int .i64 c, .int .i64 imm] 54)).alloc (.cells noSt 37)) (w.heap.size + 1) 13 a b c imm) := ins_new3 _ _ _ _ _ _ _ _ _ _ _
  clear h
  go_enter Tryd.func52, Tryd.ntmps52
  go_upto_region 1 with fail
  rw [noSt_def]
  generalize ((w.alloc (.cells C 37)).alloc (.cells #[.int .i64 13, .int .i64 a, .int .i64 b, .int .i64 c, .int .i64 imm] 54)).alloc (.cells noSt 37) = w0 at B0 I0 ⊢
  obtain ⟨y0, y1, y2, y3, y4⟩ := id I0.out
  obtain ⟨-, -, x18, -⟩ := cell_st B0.out
  obtain ⟨ba, bc, ma, mc, ia, ic, oa, oc, ⟨-, x19, -⟩, -, hd, -⟩ := list_st B0.out
  have AD : Hid (∀ W, Below w0.heap.size w0 W → Calls Tryd.prog 65 #[.agg C, .agg (#[.int .i64 13, .int .i64 a, .int .i64 b, .int .i64 c, .int .i64 imm])] W fun e w' => e = .returned (.int .u32 (whereZ s b imm)) ∧ Below W.heap.size W w') := fun W hW => address_any (B0.out.later hW).st hr 13 a b c imm hb hi
  have hw0 : 0 ≤ whereZ s b imm ∧ whereZ s b imm < 4294967296 := by unfold whereZ; omega
  have LD : Hid (∀ W, Below w0.heap.size w0 W → Calls Tryd.prog 64 #[.agg #[.int .i64 s.wt, .slice ma s.mn mc], .int .u32 (whereZ s b imm), .bool false] W fun e w' => e = .returned (.tuple #[.int .u32 (0), .bool false]) ∧ Below W.heap.size W w') := fun W hW => by
    have h := load_any s.wt (whereZ s b imm) false ma s.mn mc s.mf W (by omega) hd.1.1 hw0.1 hw0.2 (hd.2.later hW)
    rwa [ho, if_neg (by decide)] at h
  clear ho
  go_wp2_with fail
  refine calm_region (C := fun W => Below w0.heap.size w0 W) (by kernel_rfl) (by kernel_rfl) (Below.refl _ _).drew ?_
  refine calm_want (by rfl) (.pointer (some ⟨w.heap.size, 18, none⟩)) (fun W hW => by unfold Oper.quietAt; go_simp) ?_
  simp only [Act.put, List.setIfInBounds_toArray, List.set_cons_zero, List.set_cons_succ]
  refine calm_want (by rfl) (.agg #[.int .i64 s.wt, .slice ma s.mn mc]) (fun W hW => by have f1 := cell_later' x18 hW; have f2 := cell_later' x19 hW; unfold Oper.quietAt; go_simp) ?_
  simp only [Act.put, List.setIfInBounds_toArray, List.set_cons_zero, List.set_cons_succ]
  refine calm_load (by rfl) 37 (.tmp 2) rfl w.heap.size 0 rfl C.toList _ (fun W hW => at_range (B0.out.at_.later hW)) Tryd.underlying37 rfl (st_info B0.out.st).2 ?_
  simp only [Act.put, List.setIfInBounds_toArray, List.set_cons_zero, List.set_cons_succ]
  refine calm_want (by rfl) (.agg #[.int .i64 13, .int .i64 a, .int .i64 b, .int .i64 c, .int .i64 imm]) (fun W hW => by have f0 := cell_later' y0 hW; have f1 := cell_later' y1 hW; have f2 := cell_later' y2 hW; have f3 := cell_later' y3 hW; have f4 := cell_later' y4 hW; unfold Oper.quietAt; go_simp) ?_
  simp only [Act.put, List.setIfInBounds_toArray, List.set_cons_zero, List.set_cons_succ]
  refine calm_want (by rfl) (.int .u32 (whereZ s b imm)) (fun W hW => by unfold Oper.quietAt Oper.quietUpon; go_simp; exact (AD.out W hW).mono fun e w' h => ⟨h.1, bnext hW h.2⟩) ?_
  simp only [Act.put, List.setIfInBounds_toArray, List.set_cons_zero, List.set_cons_succ]
  refine calm_want (by rfl) (.pointer (some ⟨w.heap.size + 1, 0, none⟩)) (fun W hW => by unfold Oper.quietAt; go_simp) ?_
  simp only [Act.put, List.setIfInBounds_toArray, List.set_cons_zero, List.set_cons_succ]
  refine calm_want (by rfl) (.int .i64 13) (fun W hW => by have f0 := cell_later' y0 hW; unfold Oper.quietAt; go_simp) ?_
  simp only [Act.put, List.setIfInBounds_toArray, List.set_cons_zero, List.set_cons_succ]
  refine calm_want (by rfl) (.bool false) (fun W hW => by unfold Oper.quietAt; go_simp) ?_
  simp only [Act.put, List.setIfInBounds_toArray, List.set_cons_zero, List.set_cons_succ]
  refine calm_want (by rfl) (.tuple #[.int .u32 0, .bool false]) (fun W hW => by unfold Oper.quietAt Oper.quietUpon; go_simp; exact (LD.out W hW).mono fun e w' h => ⟨h.1, bnext hW h.2⟩) ?_
  simp only [Act.put, List.setIfInBounds_toArray, List.set_cons_zero, List.set_cons_succ]
  refine calm_want (by rfl) (.tuple #[.int .u32 0, .bool false]) (fun W hW => by unfold Oper.quietAt; go_simp) ?_
  simp only [Act.put, List.setIfInBounds_toArray, List.set_cons_zero, List.set_cons_succ]
  refine calm_want (by rfl) (.int .u32 0) (fun W hW => by unfold Oper.quietAt; go_simp) ?_
  simp only [Act.put, List.setIfInBounds_toArray, List.set_cons_zero, List.set_cons_succ]
  refine calm_want (by rfl) (.bool false) (fun W hW => by unfold Oper.quietAt; go_simp) ?_
  simp only [Act.put, List.setIfInBounds_toArray, List.set_cons_zero, List.set_cons_succ]
  refine calm_want (by rfl) (.int .u32 0) (fun W hW => by unfold Oper.quietAt; go_simp) ?_
  simp only [Act.put, List.setIfInBounds_toArray, List.set_cons_zero, List.set_cons_succ]
  refine calm_want (by rfl) (.bool false) (fun W hW => by unfold Oper.quietAt; go_simp) ?_
  simp only [Act.put, List.setIfInBounds_toArray, List.set_cons_zero, List.set_cons_succ]
  refine wpQuiet_nil ?_
  intro w1 hb1
  have B1 : Hid (Boxed w w1 w.heap.size (w.heap.size + 2) C C s) := B0.out.later hb1
  have I1 : Hid (InsAt w1 (w.heap.size + 1) 13 a b c imm) := I0.out.later hb1
  clear x18 x19 y0 y1 y2 y3 y4 B0 I0 AD LD hd
  obtain ⟨y0, y1, y2, y3, y4⟩ := id I1.out
  go_wp2_with (first
    | (go_at_call 51; refine (fault_st B1.out.st 3).mono ?_; rintro e w9 ⟨C9, rfl, h9, v9, b9⟩)
    | ((with_reducible show wpList _ _ _ (Oper.mk _ (Op.load _ _) _ _ _ _ :: _) _ _); refine wpList_load_if (by rfl) 37 (.tmp 2) rfl w.heap.size 0 rfl C.toList _ (at_range B1.out.at_) Tryd.underlying37 rfl (st_info B1.out.st).2 ?_)
    | ((with_reducible show wpList _ _ _ (Oper.mk _ (Op.store _ _ _) _ _ _ _ :: _) _ _); refine wpList_store_room (w := w) rfl (.tmp 4) (.tmp 22) rfl (w.heap.size + 2) C9 rfl rfl h9 (there_later B1.out.room b9) ?_))
  have TT := Told.call B1.out b9 h9 v9
  exact bodyPost_ret (v := .agg C9) (results_st rfl _ (w.heap.size + 2) (by first | rfl | simp) TT.st _ TT.at_) rfl TT.post
set_option maxRecDepth 100000 in
theorem in_none {w : World} {C : Array Value} {s : St} (h : IsSt w (.agg C) s) (hs : Small s) (a : Nat) (b c imm : Int) (ha : a < 16) (hn : s.inn = 0) :
    Calls Tryd.prog 54 #[.agg C, .agg (#[.int .i64 22, .int .i64 a, .int .i64 b, .int .i64 c, .int .i64 imm])] w (StPost w C { s with r := setR s.r a 4294967295, at_ := s.at_ + 1 }) := by
  obtain ⟨⟨hr0, hr⟩, hat, hl, -⟩ := hs
  have B0 : Hid (Boxed w (((w.alloc (.cells C 37)).alloc (.cells #[.int .i64 22, .int .i64 a, .int .i64 b, .int .i64 c, .int .i64 imm] 54)).alloc (.cells noSt 37)) w.heap.size (w.heap.size + 2) C C s) := Boxed.new3 h _ _ _ _
  have I0 : Hid (InsAt (((w.alloc (.cells C 37)).alloc (.cells #[.int .i64 22, .int .i64 a, .int .i64 b, .int .i64 c, .int .i64 imm] 54)).alloc (.cells noSt 37)) (w.heap.size + 1) 22 a b c imm) := ins_new3 _ _ _ _ _ _ _ _ _ _ _
  clear h
  go_enter Tryd.func54, Tryd.ntmps54
  go_upto_region 1 with fail
  rw [noSt_def]
  generalize ((w.alloc (.cells C 37)).alloc (.cells #[.int .i64 22, .int .i64 a, .int .i64 b, .int .i64 c, .int .i64 imm] 54)).alloc (.cells noSt 37) = w0 at B0 I0 ⊢
  obtain ⟨y0, y1, y2, y3, y4⟩ := id I0.out
  obtain ⟨ba, bc, ma, mc, ia, ic, oa, oc, ⟨-, -, x20, -⟩, -⟩ := list_st B0.out
  rw [hn] at x20
  go_wp2_with (first
    | (go_at_call 61; refine (write_set B0.out.st hat hr0 22 a b c imm 4294967295 (by omega) (by omega) ha (by omega)).mono ?_; rintro e w9 ⟨C9, rfl, h9, v9, b9⟩)
    | ((with_reducible show wpList _ _ _ (Oper.mk _ (Op.load _ _) _ _ _ _ :: _) _ _); refine wpList_load_if (by rfl) 37 (.tmp 2) rfl w.heap.size 0 rfl C.toList _ (at_range B0.out.at_) Tryd.underlying37 rfl (st_info B0.out.st).2 ?_)
    | ((with_reducible show wpList _ _ _ (Oper.mk _ (Op.store _ _ _) _ _ _ _ :: _) _ _); refine wpList_store_room (w := w) rfl (.tmp 4) (.tmp 12) rfl (w.heap.size + 2) C9 rfl rfl h9 (there_later B0.out.room b9) ?_))
  have TT := Told.call B0.out b9 h9 v9
  exact bodyPost_ret (v := .agg C9) (results_st rfl _ (w.heap.size + 2) (by first | rfl | simp) TT.st _ TT.at_) rfl TT.post
set_option maxRecDepth 100000 in
theorem in_some {w : World} {C : Array Value} {s : St} (h : IsSt w (.agg C) s) (hs : Small s) (a : Nat) (b c imm : Int) (ha : a < 16) (n : Nat) (hn : s.inn = n + 1) :
    Calls Tryd.prog 54 #[.agg C, .agg (#[.int .i64 22, .int .i64 a, .int .i64 b, .int .i64 c, .int .i64 imm])] w (StPost w C { s with r := setR s.r a (s.inf 0), inn := n, inf := fun k => s.inf (k + 1), at_ := s.at_ + 1 }) := by
  obtain ⟨⟨hr0, hr⟩, hat, hl, -⟩ := hs
  have hn9 : n ≤ 1000 := by omega
  have hn8 : (n : Int) ≤ 1000 := by omega
  obtain ⟨x, ex⟩ : ∃ x, x = s.inf 0 := ⟨_, rfl⟩
  rw [← ex]
  have B0 : Hid (Boxed w (((w.alloc (.cells C 37)).alloc (.cells #[.int .i64 22, .int .i64 a, .int .i64 b, .int .i64 c, .int .i64 imm] 54)).alloc (.cells noSt 37)) w.heap.size (w.heap.size + 2) C C s) := Boxed.new3 h _ _ _ _
  have I0 : Hid (InsAt (((w.alloc (.cells C 37)).alloc (.cells #[.int .i64 22, .int .i64 a, .int .i64 b, .int .i64 c, .int .i64 imm] 54)).alloc (.cells noSt 37)) (w.heap.size + 1) 22 a b c imm) := ins_new3 _ _ _ _ _ _ _ _ _ _ _
  clear h
  go_enter Tryd.func54, Tryd.ntmps54
  go_upto_region 1 with fail
  rw [noSt_def]
  generalize ((w.alloc (.cells C 37)).alloc (.cells #[.int .i64 22, .int .i64 a, .int .i64 b, .int .i64 c, .int .i64 imm] 54)).alloc (.cells noSt 37) = w0 at B0 I0 ⊢
  obtain ⟨y0, y1, y2, y3, y4⟩ := id I0.out
  obtain ⟨ba, bc, ma, mc, ia, ic, oa, oc, ⟨-, -, x20, -⟩, -, -, ⟨hd, hf, hc⟩, -⟩ := list_st B0.out
  rw [hn] at x20 hd hc
  obtain h0 | ⟨g, off, rfl, hcell⟩ := hc
  · omega
  have xc := hcell 0 (by omega)
  rw [Nat.add_zero] at xc
  have f20 : w0.frozen? ⟨w.heap.size, 20, none⟩ = false := B0.out.fz 20
  have hl2 := hd.1
  have r0 := hf 0
  have CL : Hid (∀ ia' ic', Head ia' n ic' → (n = 0 ∨ ia' = some ⟨g, off + 1, none⟩) → Calls Tryd.prog 33 #[.slice ia' n ic'] w0 fun e w' => ∃ a' c', e = .returned (.slice a' n c') ∧ (Head a' n c' ∧ Bytes w' a' n (fun k => s.inf (k + 1))) ∧ (∀ x, a' = some x → w0.heap.size ≤ x.block) ∧ Below w0.heap.size w0 w') := fun ia' ic' h1 h2 =>
    (clone_b w0 ia' n ic' (fun k => s.inf (k + 1)) (by omega) h1 (bytes_rowK ⟨fun k => hf (k + 1), h2.imp id fun e => ⟨g, off + 1, e, fun i hi => by rw [show off + 1 + i = off + (i + 1) by omega]; exact hcell (i + 1) (by omega)⟩⟩)).mono fun e w' ⟨a', c', e1, e2, e3, e4⟩ => ⟨a', c', e1, ⟨e2.1, bytes_of_rowK e2.2⟩, e3, e4⟩
  clear hcell hd hf
  rw [← ex] at xc r0
  clear ex
  obtain ⟨q0, q1⟩ := r0
  go_upto_region 4 with fail
  have hic : ic = 1 ∧ n = 0 ∨ 1 < ic := by omega
  obtain ⟨rfl, rfl⟩ | hic := hic
  · go_upto_region 5 with (go_at_call 33; refine (CL.out _ _ ⟨by omega, fun e => by cases e⟩ (.inl rfl)).mono ?_; rintro e w2 ⟨a2, c2, rfl, h2, v2, b2⟩; have x20' := cell_later' x20 b2; have f20' : w2.frozen? ⟨w.heap.size, 20, none⟩ = false := (B0.out.later b2).fz 20)
    have B2 : Hid (Boxed w (w2.setCell ⟨w.heap.size, 20, none⟩ (.slice a2 0 c2)) w.heap.size (w.heap.size + 2) C (C.setIfInBounds 20 (.slice a2 0 c2)) { s with inn := 0, inf := fun k => s.inf (k + 1) }) :=
      (B0.out.later b2).put 20 (by omega) _ (fun g hg => off_new v2 (by have := B0.out.hb; have := B0.out.bel.size; omega)) (put_in (B0.out.later b2).st a2 0 c2 _ h2)
    have I2 : Hid (InsAt (w2.setCell ⟨w.heap.size, 20, none⟩ (.slice a2 0 c2)) (w.heap.size + 1) 22 a b c imm) := by
      obtain ⟨i0, i1, i2, i3, i4⟩ := I0.out.later b2
      refine ⟨?_, ?_, ?_, ?_, ?_⟩ <;> (rw [World.cell?_setCell_other _ _ _ _ (fun e => by have := congrArg Addr.block e; simp at this)]; assumption)
    clear x20 f20 x20' f20' CL h2 v2 b2 B0 I0 y0 y1 y2 y3 y4 xc
    generalize w2.setCell ⟨w.heap.size, 20, none⟩ (.slice a2 0 c2) = w3 at B2 I2 ⊢
    generalize C.setIfInBounds 20 (.slice a2 0 c2) = C2 at B2
    obtain ⟨y0, y1, y2, y3, y4⟩ := id I2.out
    go_wp2_with (first
      | (go_at_call 61; refine (write_set B2.out.st hat hr0 22 a b c imm x (by omega) (by omega) ha (by omega)).mono ?_; rintro e w9 ⟨C9, rfl, h9, v9, b9⟩)
      | ((with_reducible show wpList _ _ _ (Oper.mk _ (Op.load _ _) _ _ _ _ :: _) _ _); refine wpList_load_if (by rfl) 37 (.tmp 2) rfl w.heap.size 0 rfl C2.toList _ (at_range B2.out.at_) Tryd.underlying37 rfl (st_info B2.out.st).2 ?_)
      | ((with_reducible show wpList _ _ _ (Oper.mk _ (Op.store _ _ _) _ _ _ _ :: _) _ _); refine wpList_store_room (w := w) rfl (.tmp 4) (.tmp 26) rfl (w.heap.size + 2) C9 rfl rfl h9 (there_later B2.out.room b9) ?_))
    have TT := Told.call B2.out b9 h9 v9
    exact bodyPost_ret (v := .agg C9) (results_st rfl _ (w.heap.size + 2) (by first | rfl | simp) TT.st _ TT.at_) rfl TT.post
  · go_upto_region 5 with (go_at_call 33; refine (CL.out _ _ ⟨by omega, fun e => by cases e⟩ (.inr rfl)).mono ?_; rintro e w2 ⟨a2, c2, rfl, h2, v2, b2⟩; have x20' := cell_later' x20 b2; have f20' : w2.frozen? ⟨w.heap.size, 20, none⟩ = false := (B0.out.later b2).fz 20)
    have B2 : Hid (Boxed w (w2.setCell ⟨w.heap.size, 20, none⟩ (.slice a2 n c2)) w.heap.size (w.heap.size + 2) C (C.setIfInBounds 20 (.slice a2 n c2)) { s with inn := n, inf := fun k => s.inf (k + 1) }) :=
      (B0.out.later b2).put 20 (by omega) _ (fun g hg => off_new v2 (by have := B0.out.hb; have := B0.out.bel.size; omega)) (put_in (B0.out.later b2).st a2 n c2 _ h2)
    have I2 : Hid (InsAt (w2.setCell ⟨w.heap.size, 20, none⟩ (.slice a2 n c2)) (w.heap.size + 1) 22 a b c imm) := by
      obtain ⟨i0, i1, i2, i3, i4⟩ := I0.out.later b2
      refine ⟨?_, ?_, ?_, ?_, ?_⟩ <;> (rw [World.cell?_setCell_other _ _ _ _ (fun e => by have := congrArg Addr.block e; simp at this)]; assumption)
    clear x20 f20 x20' f20' CL h2 v2 b2 B0 I0 y0 y1 y2 y3 y4 xc
    generalize w2.setCell ⟨w.heap.size, 20, none⟩ (.slice a2 n c2) = w3 at B2 I2 ⊢
    generalize C.setIfInBounds 20 (.slice a2 n c2) = C2 at B2
    obtain ⟨y0, y1, y2, y3, y4⟩ := id I2.out
    go_wp2_with (first
      | (go_at_call 61; refine (write_set B2.out.st hat hr0 22 a b c imm x (by omega) (by omega) ha (by omega)).mono ?_; rintro e w9 ⟨C9, rfl, h9, v9, b9⟩)
      | ((with_reducible show wpList _ _ _ (Oper.mk _ (Op.load _ _) _ _ _ _ :: _) _ _); refine wpList_load_if (by rfl) 37 (.tmp 2) rfl w.heap.size 0 rfl C2.toList _ (at_range B2.out.at_) Tryd.underlying37 rfl (st_info B2.out.st).2 ?_)
      | ((with_reducible show wpList _ _ _ (Oper.mk _ (Op.store _ _ _) _ _ _ _ :: _) _ _); refine wpList_store_room (w := w) rfl (.tmp 4) (.tmp 26) rfl (w.heap.size + 2) C9 rfl rfl h9 (there_later B2.out.room b9) ?_))
    have TT := Told.call B2.out b9 h9 v9
    exact bodyPost_ret (v := .agg C9) (results_st rfl _ (w.heap.size + 2) (by first | rfl | simp) TT.st _ TT.at_) rfl TT.post
end Go.Proofs.YtnpejnjigaalfaaDoor
