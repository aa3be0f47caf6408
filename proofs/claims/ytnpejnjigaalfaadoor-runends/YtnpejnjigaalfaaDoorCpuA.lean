/- What the code's functions on states return: fault, lead, halt, write. -/
import Derived.Test.YtnpejnjigaalfaaDoorCpuKit
import Derived.Test.YtnpejnjigaalfaaDoorFlowWrites
namespace Go.Proofs.YtnpejnjigaalfaaDoor
open Go.ChangeShapes Go.WideShapes Go.ChangeAt Go.RowKit
set_option linter.unusedVariables false
set_option linter.unusedSimpArgs false
theorem cell_st {w W : World} {b r : Nat} {C0 C : Array Value} {s : St} (h : Boxed w W b r C0 C s) : W.cell? ⟨b, 0, none⟩ = some (.int .i64 s.at_) ∧ (∀ k, k < 16 → W.cell? ⟨b, 1 + k, none⟩ = some (.int .u32 (s.r k))) ∧ W.cell? ⟨b, 18, none⟩ = some (.int .i64 s.wt) ∧ W.cell? ⟨b, 22, none⟩ = some (.bool s.en) ∧ W.cell? ⟨b, 23, none⟩ = some (.int .u32 s.cd) ∧ W.cell? ⟨b, 24, none⟩ = some (.int .i64 s.ft) := by
  obtain ⟨ba, bc, ma, mc, ia, ic, oa, oc, eC, -⟩ := st_cells h.st
  refine ⟨h.at_ 0 _ (by rw [eC]; rfl), fun k hk => h.at_ (1 + k) _ ?_, h.at_ 18 _ (by rw [eC]; rfl), h.at_ 22 _ (by rw [eC]; rfl), h.at_ 23 _ (by rw [eC]; rfl), h.at_ 24 _ (by rw [eC]; rfl)⟩
  rw [eC]
  rcases (by omega : k = 0 ∨ k = 1 ∨ k = 2 ∨ k = 3 ∨ k = 4 ∨ k = 5 ∨ k = 6 ∨ k = 7 ∨ k = 8 ∨ k = 9 ∨ k = 10 ∨ k = 11 ∨ k = 12 ∨ k = 13 ∨ k = 14 ∨ k = 15) with rfl | rfl | rfl | rfl | rfl | rfl | rfl | rfl | rfl | rfl | rfl | rfl | rfl | rfl | rfl | rfl <;> rfl
/-- A state's lists stand in its cells. -/
theorem list_st {w W : World} {b r : Nat} {C0 C : Array Value} {s : St} (h : Boxed w W b r C0 C s) : ∃ ba bc ma mc ia ic oa oc,
    (W.cell? ⟨b, 17, none⟩ = some (.slice ba s.bn bc) ∧ W.cell? ⟨b, 19, none⟩ = some (.slice ma s.mn mc) ∧ W.cell? ⟨b, 20, none⟩ = some (.slice ia s.inn ic) ∧ W.cell? ⟨b, 21, none⟩ = some (.slice oa s.on_ oc)) ∧
    (Head ba s.bn bc ∧ RowK .i64 W ba s.bn s.bf) ∧ (Head ma s.mn mc ∧ Bytes W ma s.mn s.mf) ∧ (Head ia s.inn ic ∧ Bytes W ia s.inn s.inf) ∧ (Head oa s.on_ oc ∧ Bytes W oa s.on_ s.of_) := by
  obtain ⟨ba, bc, ma, mc, ia, ic, oa, oc, eC, h1⟩ := st_cells h.st
  exact ⟨ba, bc, ma, mc, ia, ic, oa, oc, ⟨h.at_ 17 _ (by rw [eC]; rfl), h.at_ 19 _ (by rw [eC]; rfl), h.at_ 20 _ (by rw [eC]; rfl), h.at_ 21 _ (by rw [eC]; rfl)⟩, h1⟩
theorem ins_new3 (w : World) (C : Array Value) (t t1 t2 : TypeId) (Z : Array Value) (op a b c imm : Int) : InsAt (((w.alloc (.cells C t)).alloc (.cells (#[.int .i64 op, .int .i64 a, .int .i64 b, .int .i64 c, .int .i64 imm]) t1)).alloc (.cells Z t2)) (w.heap.size + 1) op a b c imm := by
  have h := (InsAt.new (w.alloc (.cells C t)) op a b c imm t1).later ((Below.refl _ _).alloc (Nat.le_refl _) (.cells Z t2))
  rwa [show (w.alloc (.cells C t)).heap.size = w.heap.size + 1 from by simp] at h
theorem noSt_def : #[Value.int .i64 0, .int .u32 0, .int .u32 0, .int .u32 0, .int .u32 0, .int .u32 0, .int .u32 0, .int .u32 0, .int .u32 0, .int .u32 0, .int .u32 0, .int .u32 0, .int .u32 0, .int .u32 0, .int .u32 0, .int .u32 0, .int .u32 0, .slice none 0 0, .int .i64 0, .slice none 0 0, .slice none 0 0, .slice none 0 0, .bool false, .int .u32 0, .int .i64 0] = noSt := rfl
set_option maxRecDepth 100000 in
theorem fault_st {w : World} {C : Array Value} {s : St} (h : IsSt w (.agg C) s) (k : Int) :
    Calls Tryd.prog 51 #[.agg C, .int .i64 k] w (StPost w C (s.stop k)) := by
  have B0 : Hid (Boxed w ((w.alloc (.cells C 37)).alloc (.cells noSt 37)) w.heap.size (w.heap.size + 1) C C s) := Boxed.new h _ _
  clear h
  go_enter Tryd.func51, Tryd.ntmps51
  go_upto_region 1 with fail
  rw [noSt_def]
  generalize (w.alloc (.cells C 37)).alloc (.cells noSt 37) = w0 at B0 ⊢
  obtain ⟨-, -, -, x22, -, x24⟩ := cell_st B0.out
  have f22 : w0.frozen? ⟨w.heap.size, 22, none⟩ = false := B0.out.fz 22
  have f24 : w0.frozen? ⟨w.heap.size, 24, none⟩ = false := B0.out.fz 24
  go_upto_region 3 with fail
  have Bx : Hid (Boxed w (w0.setCell ⟨w.heap.size, 22, none⟩ (.bool true)) w.heap.size (w.heap.size + 1) C (C.setIfInBounds 22 (.bool true)) { s with en := true }) := B0.out.put 22 (by omega) _ (fun g _ => off_bool _ _) (put_en B0.out.st true)
  have B1 : Hid (Boxed w ((w0.setCell ⟨w.heap.size, 22, none⟩ (.bool true)).setCell ⟨w.heap.size, 24, none⟩ (.int .i64 k)) w.heap.size (w.heap.size + 1) C ((C.setIfInBounds 22 (.bool true)).setIfInBounds 24 (.int .i64 k)) (s.stop k)) :=
    Bx.out.put 24 (by omega) _ (fun g _ => off_int _ _ _) (put_ft Bx.out.st k)
  clear x22 x24 f22 f24 Bx
  generalize (w0.setCell ⟨w.heap.size, 22, none⟩ (.bool true)).setCell ⟨w.heap.size, 24, none⟩ (.int .i64 k) = w1 at B1 ⊢
  generalize (C.setIfInBounds 22 (.bool true)).setIfInBounds 24 (.int .i64 k) = C1 at B1
  have TT : Hid (Told w (w1.setCells (w.heap.size + 1) 0 C1.toList) (w.heap.size + 1) C C1 (s.stop k)) := Told.same B1.out
  go_wp2_with (first
    | ((with_reducible show wpList _ _ _ (Oper.mk _ (Op.load _ _) _ _ _ _ :: _) _ _); refine wpList_load_if (by rfl) 37 (.tmp 2) rfl w.heap.size 0 rfl C1.toList _ (at_range B1.out.at_) Tryd.underlying37 rfl (st_info B1.out.st).2 ?_)
    | ((with_reducible show wpList _ _ _ (Oper.mk _ (Op.store _ _ _) _ _ _ _ :: _) _ _); refine wpList_store_room (w := w) rfl (.tmp 4) (.tmp 8) rfl (w.heap.size + 1) C1 rfl rfl B1.out.st B1.out.room ?_))
  exact bodyPost_ret (v := .agg C1) (results_st rfl _ (w.heap.size + 1) (by first | rfl | simp) TT.out.st _ TT.out.at_) rfl TT.out.post
set_option maxRecDepth 100000 in
theorem lead_st {w : World} {C : Array Value} {s : St} (h : IsSt w (.agg C) s) (hs : 0 ≤ s.at_ ∧ s.at_ ≤ 1073741824) (k : Int) (hk : -1073741824 ≤ k ∧ k ≤ 1073741824) :
    Calls Tryd.prog 57 #[.agg C, .int .i64 k] w (StPost w C { s with at_ := s.at_ + 1 + k }) := by
  obtain ⟨a0, a1⟩ := hs
  obtain ⟨k0, k1⟩ := hk
  have B0 : Hid (Boxed w ((w.alloc (.cells C 37)).alloc (.cells noSt 37)) w.heap.size (w.heap.size + 1) C C s) := Boxed.new h _ _
  clear h
  go_enter Tryd.func57, Tryd.ntmps57
  go_upto_region 1 with fail
  rw [noSt_def]
  generalize (w.alloc (.cells C 37)).alloc (.cells noSt 37) = w0 at B0 ⊢
  obtain ⟨x0, -⟩ := cell_st B0.out
  have f0 : w0.frozen? ⟨w.heap.size, 0, none⟩ = false := B0.out.fz 0
  go_upto_region 2 with fail
  have B1 : Hid (Boxed w (w0.setCell ⟨w.heap.size, 0, none⟩ (.int .i64 (s.at_ + (1 + k)))) w.heap.size (w.heap.size + 1) C (C.setIfInBounds 0 (.int .i64 (s.at_ + (1 + k)))) { s with at_ := s.at_ + 1 + k }) := by
    have e : s.at_ + (1 + k) = s.at_ + 1 + k := by omega
    rw [← e]
    exact B0.out.put 0 (by omega) _ (fun g _ => off_int _ _ _) (st_at B0.out.st (s.at_ + (1 + k)))
  clear x0 f0
  generalize w0.setCell ⟨w.heap.size, 0, none⟩ (.int .i64 (s.at_ + (1 + k))) = w1 at B1 ⊢
  generalize C.setIfInBounds 0 (.int .i64 (s.at_ + (1 + k))) = C1 at B1
  have TT : Hid (Told w (w1.setCells (w.heap.size + 1) 0 C1.toList) (w.heap.size + 1) C C1 ({ s with at_ := s.at_ + 1 + k })) := Told.same B1.out
  go_wp2_with (first
    | ((with_reducible show wpList _ _ _ (Oper.mk _ (Op.load _ _) _ _ _ _ :: _) _ _); refine wpList_load_if (by rfl) 37 (.tmp 2) rfl w.heap.size 0 rfl C1.toList _ (at_range B1.out.at_) Tryd.underlying37 rfl (st_info B1.out.st).2 ?_)
    | ((with_reducible show wpList _ _ _ (Oper.mk _ (Op.store _ _ _) _ _ _ _ :: _) _ _); refine wpList_store_room (w := w) rfl (.tmp 4) (.tmp 11) rfl (w.heap.size + 1) C1 rfl rfl B1.out.st B1.out.room ?_))
  exact bodyPost_ret (v := .agg C1) (results_st rfl _ (w.heap.size + 1) (by first | rfl | simp) TT.out.st _ TT.out.at_) rfl TT.out.post
set_option maxRecDepth 100000 in
theorem halt_st {w : World} {C : Array Value} {s : St} (h : IsSt w (.agg C) s) (op : Int) (k : Nat) (b c imm : Int) (hk : k < 16) :
    Calls Tryd.prog 60 #[.agg C, .agg (#[.int .i64 op, .int .i64 k, .int .i64 b, .int .i64 c, .int .i64 imm])] w (StPost w C { s with cd := s.r k, en := true, ft := 0 }) := by
  have B0 : Hid (Boxed w (((w.alloc (.cells C 37)).alloc (.cells #[.int .i64 op, .int .i64 k, .int .i64 b, .int .i64 c, .int .i64 imm] 54)).alloc (.cells noSt 37)) w.heap.size (w.heap.size + 2) C C s) := Boxed.new3 h _ _ _ _
  have I0 : Hid (InsAt (((w.alloc (.cells C 37)).alloc (.cells #[.int .i64 op, .int .i64 k, .int .i64 b, .int .i64 c, .int .i64 imm] 54)).alloc (.cells noSt 37)) (w.heap.size + 1) op k b c imm) := ins_new3 _ _ _ _ _ _ _ _ _ _ _
  clear h
  go_enter Tryd.func60, Tryd.ntmps60
  go_upto_region 1 with fail
  rw [noSt_def]
  generalize ((w.alloc (.cells C 37)).alloc (.cells #[.int .i64 op, .int .i64 k, .int .i64 b, .int .i64 c, .int .i64 imm] 54)).alloc (.cells noSt 37) = w0 at B0 I0 ⊢
  obtain ⟨-, xr, -, x22, x23, x24⟩ := cell_st B0.out
  have xk := xr k hk
  have xk' : w0.cell? ⟨w.heap.size, k + 1, none⟩ = some (.int .u32 (s.r k)) := by rw [Nat.add_comm]; exact xk
  obtain ⟨-, y1, -⟩ := id I0.out
  have f22 : w0.frozen? ⟨w.heap.size, 22, none⟩ = false := B0.out.fz 22
  have f23 : w0.frozen? ⟨w.heap.size, 23, none⟩ = false := B0.out.fz 23
  have f24 : w0.frozen? ⟨w.heap.size, 24, none⟩ = false := B0.out.fz 24
  have hk' : (k : Int) < 16 := by omega
  clear xr
  go_upto_region 4 with fail
  have Bx : Hid (Boxed w (w0.setCell ⟨w.heap.size, 22, none⟩ (.bool true)) w.heap.size (w.heap.size + 2) C (C.setIfInBounds 22 (.bool true)) { s with en := true }) := B0.out.put 22 (by omega) _ (fun g _ => off_bool _ _) (put_en B0.out.st true)
  have By : Hid (Boxed w ((w0.setCell ⟨w.heap.size, 22, none⟩ (.bool true)).setCell ⟨w.heap.size, 23, none⟩ (.int .u32 (s.r k))) w.heap.size (w.heap.size + 2) C ((C.setIfInBounds 22 (.bool true)).setIfInBounds 23 (.int .u32 (s.r k))) { s with cd := s.r k, en := true }) := Bx.out.put 23 (by omega) _ (fun g _ => off_int _ _ _) (put_cd Bx.out.st _)
  have B1 : Hid (Boxed w (((w0.setCell ⟨w.heap.size, 22, none⟩ (.bool true)).setCell ⟨w.heap.size, 23, none⟩ (.int .u32 (s.r k))).setCell ⟨w.heap.size, 24, none⟩ (.int .i64 0)) w.heap.size (w.heap.size + 2) C (((C.setIfInBounds 22 (.bool true)).setIfInBounds 23 (.int .u32 (s.r k))).setIfInBounds 24 (.int .i64 0)) { s with cd := s.r k, en := true, ft := 0 }) :=
    By.out.put 24 (by omega) _ (fun g _ => off_int _ _ _) (put_ft By.out.st 0)
  clear xk xk' x22 x23 x24 f22 f23 f24 Bx By
  generalize ((w0.setCell ⟨w.heap.size, 22, none⟩ (.bool true)).setCell ⟨w.heap.size, 23, none⟩ (.int .u32 (s.r k))).setCell ⟨w.heap.size, 24, none⟩ (.int .i64 0) = w1 at B1 ⊢
  generalize ((C.setIfInBounds 22 (.bool true)).setIfInBounds 23 (.int .u32 (s.r k))).setIfInBounds 24 (.int .i64 0) = C1 at B1
  have TT : Hid (Told w (w1.setCells (w.heap.size + 2) 0 C1.toList) (w.heap.size + 2) C C1 ({ s with cd := s.r k, en := true, ft := 0 })) := Told.same B1.out
  go_wp2_with (first
    | ((with_reducible show wpList _ _ _ (Oper.mk _ (Op.load _ _) _ _ _ _ :: _) _ _); refine wpList_load_if (by rfl) 37 (.tmp 2) rfl w.heap.size 0 rfl C1.toList _ (at_range B1.out.at_) Tryd.underlying37 rfl (st_info B1.out.st).2 ?_)
    | ((with_reducible show wpList _ _ _ (Oper.mk _ (Op.store _ _ _) _ _ _ _ :: _) _ _); refine wpList_store_room (w := w) rfl (.tmp 4) (.tmp 13) rfl (w.heap.size + 2) C1 rfl rfl B1.out.st B1.out.room ?_))
  exact bodyPost_ret (v := .agg C1) (results_st rfl _ (w.heap.size + 2) (by first | rfl | simp) TT.out.st _ TT.out.at_) rfl TT.out.post
set_option maxRecDepth 100000 in
theorem write_no {w : World} {C : Array Value} {s : St} (h : IsSt w (.agg C) s) (hs : 0 ≤ s.at_ ∧ s.at_ ≤ 1073741824) (op a b c imm x : Int) (h0 : 0 ≤ op) (h1 : op < 26) (hw : writesZ op a = -1) :
    Calls Tryd.prog 61 #[.agg C, .agg (#[.int .i64 op, .int .i64 a, .int .i64 b, .int .i64 c, .int .i64 imm]), .int .u32 x] w (StPost w C { s with at_ := s.at_ + 1 + 0 }) := by
  have B0 : Hid (Boxed w (((w.alloc (.cells C 37)).alloc (.cells #[.int .i64 op, .int .i64 a, .int .i64 b, .int .i64 c, .int .i64 imm] 54)).alloc (.cells noSt 37)) w.heap.size (w.heap.size + 2) C C s) := Boxed.new3 h _ _ _ _
  have I0 : Hid (InsAt (((w.alloc (.cells C 37)).alloc (.cells #[.int .i64 op, .int .i64 a, .int .i64 b, .int .i64 c, .int .i64 imm] 54)).alloc (.cells noSt 37)) (w.heap.size + 1) op a b c imm) := ins_new3 _ _ _ _ _ _ _ _ _ _ _
  clear h
  go_enter Tryd.func61, Tryd.ntmps61
  go_upto_region 1 with fail
  rw [noSt_def]
  generalize ((w.alloc (.cells C 37)).alloc (.cells #[.int .i64 op, .int .i64 a, .int .i64 b, .int .i64 c, .int .i64 imm] 54)).alloc (.cells noSt 37) = w0 at B0 I0 ⊢
  obtain ⟨y0, y1, y2, y3, y4⟩ := id I0.out
  have WR : Hid (∀ W, Calls Tryd.prog 70 #[.agg #[.int .i64 op, .int .i64 a, .int .i64 b, .int .i64 c, .int .i64 imm]] W fun e w' => e = .returned (.int .i64 (-1)) ∧ Below W.heap.size W w') := fun W => by have h := writes_any op a b c imm W h0 h1; rwa [hw] at h
  go_upto_region 2 with (go_at_call 70; refine (WR.out _).mono ?_; rintro e w1 ⟨rfl, hb1⟩)
  have B1 : Hid (Boxed w w1 w.heap.size (w.heap.size + 2) C C s) := B0.out.later hb1
  clear y0 y1 y2 y3 y4 WR I0 B0
  go_wp2_with (first
    | (go_at_call 57; refine (lead_st B1.out.st hs 0 (by omega)).mono ?_; rintro e w9 ⟨C9, rfl, h9, v9, b9⟩)
    | ((with_reducible show wpList _ _ _ (Oper.mk _ (Op.load _ _) _ _ _ _ :: _) _ _); refine wpList_load_if (by rfl) 37 (.tmp 3) rfl w.heap.size 0 rfl C.toList _ (at_range B1.out.at_) Tryd.underlying37 rfl (st_info B1.out.st).2 ?_)
    | ((with_reducible show wpList _ _ _ (Oper.mk _ (Op.store _ _ _) _ _ _ _ :: _) _ _); refine wpList_store_room (w := w) rfl (.tmp 6) (.tmp 17) rfl (w.heap.size + 2) C9 rfl rfl h9 (there_later B1.out.room b9) ?_))
  have TT := Told.call B1.out b9 h9 v9
  exact bodyPost_ret (v := .agg C9) (results_st rfl _ (w.heap.size + 2) (by first | rfl | simp) TT.st _ TT.at_) rfl TT.post
set_option maxRecDepth 100000 in
theorem write_yes {w : World} {C : Array Value} {s : St} (h : IsSt w (.agg C) s) (hs : 0 ≤ s.at_ ∧ s.at_ ≤ 1073741824) (op : Int) (k : Nat) (b c imm x : Int) (h0 : 0 ≤ op) (h1 : op < 26) (hk : k < 16) (hw : writesZ op k = k) :
    Calls Tryd.prog 61 #[.agg C, .agg (#[.int .i64 op, .int .i64 k, .int .i64 b, .int .i64 c, .int .i64 imm]), .int .u32 x] w (StPost w C { s with r := fun j => if j = k then x else s.r j, at_ := s.at_ + 1 + 0 }) := by
  have B0 : Hid (Boxed w (((w.alloc (.cells C 37)).alloc (.cells #[.int .i64 op, .int .i64 k, .int .i64 b, .int .i64 c, .int .i64 imm] 54)).alloc (.cells noSt 37)) w.heap.size (w.heap.size + 2) C C s) := Boxed.new3 h _ _ _ _
  have I0 : Hid (InsAt (((w.alloc (.cells C 37)).alloc (.cells #[.int .i64 op, .int .i64 k, .int .i64 b, .int .i64 c, .int .i64 imm] 54)).alloc (.cells noSt 37)) (w.heap.size + 1) op k b c imm) := ins_new3 _ _ _ _ _ _ _ _ _ _ _
  clear h
  go_enter Tryd.func61, Tryd.ntmps61
  go_upto_region 1 with fail
  rw [noSt_def]
  generalize ((w.alloc (.cells C 37)).alloc (.cells #[.int .i64 op, .int .i64 k, .int .i64 b, .int .i64 c, .int .i64 imm] 54)).alloc (.cells noSt 37) = w0 at B0 I0 ⊢
  obtain ⟨y0, y1, y2, y3, y4⟩ := id I0.out
  have WR : Hid (∀ W, Calls Tryd.prog 70 #[.agg #[.int .i64 op, .int .i64 k, .int .i64 b, .int .i64 c, .int .i64 imm]] W fun e w' => e = .returned (.int .i64 k) ∧ Below W.heap.size W w') := fun W => by have h := writes_any op k b c imm W h0 h1; rwa [hw] at h
  go_upto_region 2 with (go_at_call 70; refine (WR.out _).mono ?_; rintro e w1 ⟨rfl, hb1⟩)
  have B1 : Hid (Boxed w w1 w.heap.size (w.heap.size + 2) C C s) := B0.out.later hb1
  clear y0 y1 y2 y3 y4 WR I0 B0
  have xk := (cell_st B1.out).2.1 k hk
  have fk : w1.frozen? ⟨w.heap.size, 1 + k, none⟩ = false := B1.out.fz (1 + k)
  have hk' : (k : Int) < 16 := by omega
  go_upto_region 4 with fail
  have B2 : Hid (Boxed w (w1.setCell ⟨w.heap.size, 1 + k, none⟩ (.int .u32 x)) w.heap.size (w.heap.size + 2) C (C.setIfInBounds (1 + k) (.int .u32 x)) { s with r := fun j => if j = k then x else s.r j }) := B1.out.put (1 + k) (by omega) _ (fun g _ => off_int _ _ _) (put_reg B1.out.st k hk x)
  clear xk fk hb1 B1
  generalize w1.setCell ⟨w.heap.size, 1 + k, none⟩ (.int .u32 x) = w2 at B2 ⊢
  generalize C.setIfInBounds (1 + k) (.int .u32 x) = C2 at B2
  go_wp2_with (first
    | (go_at_call 57; refine (lead_st B2.out.st hs 0 (by omega)).mono ?_; rintro e w9 ⟨C9, rfl, h9, v9, b9⟩)
    | ((with_reducible show wpList _ _ _ (Oper.mk _ (Op.load _ _) _ _ _ _ :: _) _ _); refine wpList_load_if (by rfl) 37 (.tmp 3) rfl w.heap.size 0 rfl C2.toList _ (at_range B2.out.at_) Tryd.underlying37 rfl (st_info B2.out.st).2 ?_)
    | ((with_reducible show wpList _ _ _ (Oper.mk _ (Op.store _ _ _) _ _ _ _ :: _) _ _); refine wpList_store_room (w := w) rfl (.tmp 6) (.tmp 17) rfl (w.heap.size + 2) C9 rfl rfl h9 (there_later B2.out.room b9) ?_))
  have TT := Told.call B2.out b9 h9 v9
  exact bodyPost_ret (v := .agg C9) (results_st rfl _ (w.heap.size + 2) (by first | rfl | simp) TT.st _ TT.at_) rfl TT.post
end Go.Proofs.YtnpejnjigaalfaaDoor
