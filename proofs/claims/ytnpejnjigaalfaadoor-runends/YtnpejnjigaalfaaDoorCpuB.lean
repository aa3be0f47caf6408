/- What the code's functions on states return: calls, returns, branches, input. -/
import Derived.Test.YtnpejnjigaalfaaDoorCpuA
namespace Go.Proofs.YtnpejnjigaalfaaDoor
open Go.ChangeShapes Go.WideShapes Go.ChangeAt Go.RowKit
set_option linter.unusedVariables false
set_option linter.unusedSimpArgs false
theorem StPost.eq {w : World} {C : Array Value} {s s' : St} {e : Ending} {w' : World} (h : StPost w C s e w') (hs : s = s') : StPost w C s' e w' := hs ▸ h
theorem rowK_congr {k : IntKind} {w : World} {a : Option Addr} {n : Nat} {f g : Nat → Int} (h : RowK k w a n f) (hg : ∀ j, (Lit.int k (g j)).wf = true) (hfg : ∀ j, j < n → g j = f j) : RowK k w a n g :=
  ⟨hg, h.2.imp id fun ⟨b, off, e, hc⟩ => ⟨b, off, e, fun i hi => by rw [hfg i hi]; exact hc i hi⟩⟩
theorem bytes_congr {w : World} {a : Option Addr} {n : Nat} {f g : Nat → Int} (h : Bytes w a n f) (hg : ∀ j, 0 ≤ g j ∧ g j < 256) (hfg : ∀ j, j < n → g j = f j) : Bytes w a n g :=
  ⟨hg, h.2.imp id fun ⟨b, off, e, hc⟩ => ⟨b, off, e, fun i hi => by rw [hfg i hi]; exact hc i hi⟩⟩
theorem bytes_rowK {w : World} {a : Option Addr} {n : Nat} {f : Nat → Int} (h : Bytes w a n f) : RowK .u8 w a n f := ⟨fun i => by have := h.1 i; simp [Lit.wf, IntKind.min, IntKind.max, IntKind.signed, IntKind.bits]; omega, h.2⟩
theorem setR_zero (r : Nat → Int) (h : r 0 = 0) (x : Int) : setR r (0 : Nat) x = r := by
  funext j
  unfold setR
  by_cases e : j = 0
  · subst e; simp [h]
  · rw [if_neg e, if_neg (by omega)]
theorem setR_pos (r : Nat → Int) (h : r 0 = 0) (k : Nat) (hk : k ≠ 0) (x : Int) : setR r (k : Nat) x = fun j => if j = k then x else r j := by
  funext j
  unfold setR
  by_cases e : j = 0
  · subst e; rw [if_pos rfl, if_neg (by omega), h]
  · by_cases e2 : j = k
    · rw [if_neg e, if_pos (by omega), if_pos e2]
    · rw [if_neg e, if_neg (by omega), if_neg e2]
theorem write_set {w : World} {C : Array Value} {s : St} (h : IsSt w (.agg C) s) (hs : 0 ≤ s.at_ ∧ s.at_ ≤ 1073741824) (hr : s.r 0 = 0) (op : Int) (k : Nat) (b c imm x : Int) (h0 : 0 ≤ op) (h1 : op < 26) (hk : k < 16) (ho : 1 ≤ op ∧ op ≤ 11 ∨ op = 13 ∨ op = 22) :
    Calls Tryd.prog 61 #[.agg C, .agg (#[.int .i64 op, .int .i64 k, .int .i64 b, .int .i64 c, .int .i64 imm]), .int .u32 x] w (StPost w C { s with r := setR s.r k x, at_ := s.at_ + 1 }) := by
  by_cases hk0 : k = 0
  · subst hk0
    refine (write_no h hs op ((0 : Nat) : Int) b c imm x h0 h1 (by unfold writesZ; simp)).mono ?_
    intro e w' hp
    rw [setR_zero _ hr]
    exact hp.eq (by simp)
  · refine (write_yes h hs op k b c imm x h0 h1 hk (by unfold writesZ; rw [if_pos ⟨by omega, ho⟩])).mono ?_
    intro e w' hp
    rw [setR_pos _ hr _ hk0]
    exact hp.eq (by simp)
set_option maxRecDepth 100000 in
theorem ret_none {w : World} {C : Array Value} {s : St} (h : IsSt w (.agg C) s) (hn : s.bn = 0) :
    Calls Tryd.prog 59 #[.agg C] w (StPost w C (s.stop 5)) := by
  have B0 : Hid (Boxed w ((w.alloc (.cells C 37)).alloc (.cells noSt 37)) w.heap.size (w.heap.size + 1) C C s) := Boxed.new h _ _
  clear h
  go_enter Tryd.func59, Tryd.ntmps59
  go_upto_region 1 with fail
  rw [noSt_def]
  generalize (w.alloc (.cells C 37)).alloc (.cells noSt 37) = w0 at B0 ⊢
  obtain ⟨ba, bc, ma, mc, ia, ic, oa, oc, ⟨x17, -⟩, -⟩ := list_st B0.out
  rw [hn] at x17
  go_upto_region 3 with fail
  clear x17
  go_wp2_with (first
    | (go_at_call 51; refine (fault_st B0.out.st 5).mono ?_; rintro e w9 ⟨C9, rfl, h9, v9, b9⟩)
    | ((with_reducible show wpList _ _ _ (Oper.mk _ (Op.load _ _) _ _ _ _ :: _) _ _); refine wpList_load_if (by rfl) 37 (.tmp 1) rfl w.heap.size 0 rfl C.toList _ (at_range B0.out.at_) Tryd.underlying37 rfl (st_info B0.out.st).2 ?_)
    | ((with_reducible show wpList _ _ _ (Oper.mk _ (Op.store _ _ _) _ _ _ _ :: _) _ _); refine wpList_store_room (w := w) rfl (.tmp 2) (.tmp 11) rfl (w.heap.size + 1) C9 rfl rfl h9 (there_later B0.out.room b9) ?_))
  have TT := Told.call B0.out b9 h9 v9
  exact bodyPost_ret (v := .agg C9) (results_st rfl _ (w.heap.size + 1) (by first | rfl | simp) TT.st _ TT.at_) rfl TT.post
set_option maxRecDepth 100000 in
theorem ret_some {w : World} {C : Array Value} {s : St} (h : IsSt w (.agg C) s) (n : Nat) (hn : s.bn = n + 1) (hn2 : n ≤ 10000) :
    Calls Tryd.prog 59 #[.agg C] w (StPost w C { s with at_ := s.bf n, bn := n }) := by
  have B0 : Hid (Boxed w ((w.alloc (.cells C 37)).alloc (.cells noSt 37)) w.heap.size (w.heap.size + 1) C C s) := Boxed.new h _ _
  clear h
  go_enter Tryd.func59, Tryd.ntmps59
  go_upto_region 1 with fail
  rw [noSt_def]
  generalize (w.alloc (.cells C 37)).alloc (.cells noSt 37) = w0 at B0 ⊢
  obtain ⟨ba, bc, ma, mc, ia, ic, oa, oc, ⟨x17, -⟩, ⟨hd, -, hc⟩, -⟩ := list_st B0.out
  rw [hn] at x17 hd hc
  obtain h0 | ⟨g, off, rfl, hcell⟩ := hc
  · omega
  have xc := hcell n (by omega)
  obtain ⟨x0, -⟩ := cell_st B0.out
  have f0 : w0.frozen? ⟨w.heap.size, 0, none⟩ = false := B0.out.fz 0
  clear hcell hd
  have hn3 : (n : Int) ≤ 10000 := by omega
  go_upto_region 5 with fail
  have B1 : Hid (Boxed w (w0.setCell ⟨w.heap.size, 0, none⟩ (.int .i64 (s.bf n))) w.heap.size (w.heap.size + 1) C (C.setIfInBounds 0 (.int .i64 (s.bf n))) { s with at_ := s.bf n }) := B0.out.put 0 (by omega) _ (fun g _ => off_int _ _ _) (st_at B0.out.st _)
  clear x17 xc x0 f0 B0
  generalize w0.setCell ⟨w.heap.size, 0, none⟩ (.int .i64 (s.bf n)) = w1 at B1 ⊢
  generalize C.setIfInBounds 0 (.int .i64 (s.bf n)) = C1 at B1
  clear w0
  obtain ⟨ba, bc, ma, mc, ia, ic, oa, oc, ⟨x17, -⟩, hd, -⟩ := list_st B1.out
  have f17 : w1.frozen? ⟨w.heap.size, 17, none⟩ = false := B1.out.fz 17
  dsimp only at hd x17
  rw [hn] at hd x17
  have hl : n + 1 ≤ bc := by have := hd.1.1; omega
  obtain ⟨g, off, rfl⟩ : ∃ g off, ba = some ⟨g, off, none⟩ := by
    obtain h0 | ⟨g, off, e, -⟩ := hd.2.2
    · omega
    · exact ⟨g, off, e⟩
  have CL : Hid (Calls Tryd.prog 45 #[.slice (some ⟨g, off, none⟩) n bc] w1 fun e w' => ∃ a' c', e = .returned (.slice a' n c') ∧ (Head a' n c' ∧ RowK .i64 w' a' n s.bf) ∧ (∀ x, a' = some x → w1.heap.size ≤ x.block) ∧ Below w1.heap.size w1 w') :=
    clone_i w1 _ n bc s.bf (by omega) ⟨by omega, fun e => by cases e⟩ ⟨hd.2.1, .inr ⟨g, off, rfl, fun i hi => by
      obtain h0 | ⟨g', off', e, hc⟩ := hd.2.2
      · omega
      · simp only [Option.some.injEq, Addr.mk.injEq] at e; obtain ⟨rfl, rfl, -⟩ := e; exact hc i (by omega)⟩⟩
  clear hd
  go_upto_region 6 with (go_at_call 45; refine CL.out.mono ?_; rintro e w2 ⟨a2, c2, rfl, h2, v2, b2⟩; have x17' := cell_later' x17 b2; have f17' : w2.frozen? ⟨w.heap.size, 17, none⟩ = false := (B1.out.later b2).fz 17)
  have B2 : Hid (Boxed w (w2.setCell ⟨w.heap.size, 17, none⟩ (.slice a2 n c2)) w.heap.size (w.heap.size + 1) C (C1.setIfInBounds 17 (.slice a2 n c2)) { s with at_ := s.bf n, bn := n }) :=
    (B1.out.later b2).put 17 (by omega) _ (fun g hg => off_new v2 (by have := B1.out.hb; have := B1.out.bel.size; omega)) (put_bk (B1.out.later b2).st a2 n c2 s.bf h2)
  clear x17 f17 x17' f17' CL B1 h2 v2 b2
  generalize w2.setCell ⟨w.heap.size, 17, none⟩ (.slice a2 n c2) = w3 at B2 ⊢
  generalize C1.setIfInBounds 17 (.slice a2 n c2) = C2 at B2
  have TT : Hid (Told w (w3.setCells (w.heap.size + 1) 0 C2.toList) (w.heap.size + 1) C C2 (_)) := Told.same B2.out
  go_wp2_with (first
    | ((with_reducible show wpList _ _ _ (Oper.mk _ (Op.load _ _) _ _ _ _ :: _) _ _); refine wpList_load_if (by rfl) 37 (.tmp 1) rfl w.heap.size 0 rfl C2.toList _ (at_range B2.out.at_) Tryd.underlying37 rfl (st_info B2.out.st).2 ?_)
    | ((with_reducible show wpList _ _ _ (Oper.mk _ (Op.store _ _ _) _ _ _ _ :: _) _ _); refine wpList_store_room (w := w) rfl (.tmp 2) (.tmp 24) rfl (w.heap.size + 1) C2 rfl rfl B2.out.st B2.out.room ?_))
  exact bodyPost_ret (v := .agg C2) (results_st rfl _ (w.heap.size + 1) (by first | rfl | simp) TT.out.st _ TT.out.at_) rfl TT.out.post
set_option maxRecDepth 100000 in
theorem call_st {w : World} {C : Array Value} {s : St} (h : IsSt w (.agg C) s) (hs : 0 ≤ s.at_ ∧ s.at_ ≤ 1073741824) (hn : s.bn ≤ 10000) (op a b c imm : Int) (hi : -1073741824 ≤ imm ∧ imm ≤ 1073741824) :
    Calls Tryd.prog 58 #[.agg C, .agg (#[.int .i64 op, .int .i64 a, .int .i64 b, .int .i64 c, .int .i64 imm])] w (StPost w C { s with at_ := s.at_ + 1 + imm, bn := s.bn + 1, bf := fun k => if k = s.bn then s.at_ + 1 else s.bf k }) := by
  obtain ⟨a0, a1⟩ := hs
  have B0 : Hid (Boxed w (((w.alloc (.cells C 37)).alloc (.cells #[.int .i64 op, .int .i64 a, .int .i64 b, .int .i64 c, .int .i64 imm] 54)).alloc (.cells noSt 37)) w.heap.size (w.heap.size + 2) C C s) := Boxed.new3 h _ _ _ _
  have I0 : Hid (InsAt (((w.alloc (.cells C 37)).alloc (.cells #[.int .i64 op, .int .i64 a, .int .i64 b, .int .i64 c, .int .i64 imm] 54)).alloc (.cells noSt 37)) (w.heap.size + 1) op a b c imm) := ins_new3 _ _ _ _ _ _ _ _ _ _ _
  clear h
  go_enter Tryd.func58, Tryd.ntmps58
  go_upto_region 1 with fail
  rw [noSt_def]
  generalize ((w.alloc (.cells C 37)).alloc (.cells #[.int .i64 op, .int .i64 a, .int .i64 b, .int .i64 c, .int .i64 imm] 54)).alloc (.cells noSt 37) = w0 at B0 I0 ⊢
  obtain ⟨x0, -⟩ := cell_st B0.out
  obtain ⟨ba, bc, ma, mc, ia, ic, oa, oc, ⟨x17, -⟩, hd, -⟩ := list_st B0.out
  have f17 : w0.frozen? ⟨w.heap.size, 17, none⟩ = false := B0.out.fz 17
  have bW : Below w0.heap.size w0 ((w0.alloc (.cells #[.int .i64 (s.at_ + 1)] 3)).alloc (.cells #[.slice ba s.bn bc, .slice (some ⟨w0.heap.size, 0, none⟩) 1 1] 33)) := ((Below.refl _ _).alloc (Nat.le_refl _) _).alloc (by simp) _
  have HC : Hid (Calls Tryd.prog 69 #[.slice (some ⟨w0.heap.size + 1, 0, none⟩) 2 2] ((w0.alloc (.cells #[.int .i64 (s.at_ + 1)] 3)).alloc (.cells #[.slice ba s.bn bc, .slice (some ⟨w0.heap.size, 0, none⟩) 1 1] 33)) fun e w' =>
      ∃ a' c', e = .returned (.slice a' (s.bn + 1) c') ∧ (Head a' (s.bn + 1) c' ∧ RowK .i64 w' a' (s.bn + 1) (fun k => if k = s.bn then s.at_ + 1 else s.bf k)) ∧ (∀ x, a' = some x → w0.heap.size ≤ x.block) ∧ Below w0.heap.size w0 w') := by
    have e1 : (w0.alloc (.cells #[.int .i64 (s.at_ + 1)] 3)).heap.size = w0.heap.size + 1 := by simp
    have wf1 : (Lit.int .i64 (s.at_ + 1)).wf = true := by simp [Lit.wf, IntKind.min, IntKind.max, IntKind.signed, IntKind.bits]; omega
    have r1 : RowK .i64 (w0.alloc (.cells #[.int .i64 (s.at_ + 1)] 3)) (some ⟨w0.heap.size, 0, none⟩) 1 (fun _ => s.at_ + 1) := ⟨fun _ => wf1, .inr ⟨_, _, rfl, fun i hi => by obtain rfl : i = 0 := (by omega); exact new_cell' w0 _ _ 0 _ rfl⟩⟩
    have r2 := r1.later ((Below.refl _ _).alloc (Nat.le_refl _) (.cells #[.slice ba s.bn bc, .slice (some ⟨w0.heap.size, 0, none⟩) 1 1] 33))
    have p0 := new_cell' (w0.alloc (.cells #[.int .i64 (s.at_ + 1)] 3)) #[.slice ba s.bn bc, .slice (some ⟨w0.heap.size, 0, none⟩) 1 1] 33 0 _ rfl
    have p1 := new_cell' (w0.alloc (.cells #[.int .i64 (s.at_ + 1)] 3)) #[.slice ba s.bn bc, .slice (some ⟨w0.heap.size, 0, none⟩) 1 1] 33 1 _ rfl
    rw [e1] at p0 p1
    refine (concat_i _ (w0.heap.size + 1) ba (some ⟨w0.heap.size, 0, none⟩) s.bn 1 bc 1 s.bf (fun _ => s.at_ + 1) (by omega) hd.1 ⟨Nat.le_refl _, fun e => by cases e⟩ (hd.2.later bW) r2 p0 p1).mono ?_
    rintro e w' ⟨a', c', rfl, ow, hb⟩
    have hw : ∀ j, (Lit.int .i64 ((fun k => if k = s.bn then s.at_ + 1 else s.bf k : Nat → Int) j)).wf = true := fun j => by
      simp only []; split
      · exact wf1
      · exact hd.2.1 j
    have hw2 : ∀ j, (Lit.int .i64 ((fun j => if j < s.bn then s.bf j else s.at_ + 1 : Nat → Int) j)).wf = true := fun j => by
      simp only []; split
      · exact hd.2.1 j
      · exact wf1
    have o1 := own_ints ow hw2
    refine ⟨a', c', rfl, ⟨o1.1, rowK_congr o1.2 hw fun j hj => ?_⟩, fun x e => ?_, bnext bW hb⟩
    · by_cases e : j = s.bn
      · subst e; rw [if_pos rfl, if_neg (by omega)]
      · rw [if_neg e, if_pos (by omega)]
    · have := own_blk ow x e; simp at this; omega
  clear hd bW
  go_upto_region 2 with (go_at_call 69; refine HC.out.mono ?_; rintro e w1 ⟨a2, c2, rfl, h2, v2, b2⟩; have x17' := cell_later' x17 b2; have f17' : w1.frozen? ⟨w.heap.size, 17, none⟩ = false := (B0.out.later b2).fz 17)
  have B2 : Hid (Boxed w (w1.setCell ⟨w.heap.size, 17, none⟩ (.slice a2 (s.bn + 1) c2)) w.heap.size (w.heap.size + 2) C (C.setIfInBounds 17 (.slice a2 (s.bn + 1) c2)) { s with bn := s.bn + 1, bf := fun k => if k = s.bn then s.at_ + 1 else s.bf k }) :=
    (B0.out.later b2).put 17 (by omega) _ (fun g hg => off_new v2 (by have := B0.out.hb; have := B0.out.bel.size; omega)) (put_bk (B0.out.later b2).st a2 _ c2 _ h2)
  have I2 : Hid (InsAt (w1.setCell ⟨w.heap.size, 17, none⟩ (.slice a2 (s.bn + 1) c2)) (w.heap.size + 1) op a b c imm) := by
    obtain ⟨i0, i1, i2, i3, i4⟩ := I0.out.later b2
    refine ⟨?_, ?_, ?_, ?_, ?_⟩ <;> (rw [World.cell?_setCell_other _ _ _ _ (fun e => by have := congrArg Addr.block e; simp at this)]; assumption)
  clear x0 x17 f17 x17' f17' HC h2 v2 b2 B0 I0
  generalize w1.setCell ⟨w.heap.size, 17, none⟩ (.slice a2 (s.bn + 1) c2) = w3 at B2 I2 ⊢
  generalize C.setIfInBounds 17 (.slice a2 (s.bn + 1) c2) = C2 at B2
  obtain ⟨y0, y1, y2, y3, y4⟩ := id I2.out
  go_wp2_with (first
    | (go_at_call 57; refine (lead_st B2.out.st ⟨a0, a1⟩ imm hi).mono ?_; rintro e w9 ⟨C9, rfl, h9, v9, b9⟩)
    | ((with_reducible show wpList _ _ _ (Oper.mk _ (Op.load _ _) _ _ _ _ :: _) _ _); refine wpList_load_if (by rfl) 37 (.tmp 2) rfl w.heap.size 0 rfl C2.toList _ (at_range B2.out.at_) Tryd.underlying37 rfl (st_info B2.out.st).2 ?_)
    | ((with_reducible show wpList _ _ _ (Oper.mk _ (Op.store _ _ _) _ _ _ _ :: _) _ _); refine wpList_store_room (w := w) rfl (.tmp 4) (.tmp 17) rfl (w.heap.size + 2) C9 rfl rfl h9 (there_later B2.out.room b9) ?_))
  have TT := Told.call B2.out b9 h9 v9
  exact bodyPost_ret (v := .agg C9) (results_st rfl _ (w.heap.size + 2) (by first | rfl | simp) TT.st _ TT.at_) rfl TT.post
set_option maxRecDepth 100000 in
theorem branch_yes {w : World} {C : Array Value} {s : St} (h : IsSt w (.agg C) s) (hs : 0 ≤ s.at_ ∧ s.at_ ≤ 1073741824) (hr : ∀ j, 0 ≤ s.r j ∧ s.r j < 4294967296) (op : Int) (a b : Nat) (c imm : Int) (ha : a < 16) (hb : b < 16) (hi : -1073741824 ≤ imm ∧ imm ≤ 1073741824)
    (hT : takenB op (s.r a) (s.r b) = true) : Calls Tryd.prog 56 #[.agg C, .agg (#[.int .i64 op, .int .i64 a, .int .i64 b, .int .i64 c, .int .i64 imm])] w (StPost w C { s with at_ := s.at_ + 1 + imm }) := by
  have TK : Hid (∀ W, Calls Tryd.prog 68 #[.int .i64 op, .int .u32 (s.r a), .int .u32 (s.r b)] W fun e w' => e = .returned (.bool true) ∧ w' = W) := fun W => by have h := taken_any op _ _ W (hr a).1 (hr a).2 (hr b).1 (hr b).2; rwa [hT] at h
  clear hr hT
  have B0 : Hid (Boxed w (((w.alloc (.cells C 37)).alloc (.cells #[.int .i64 op, .int .i64 a, .int .i64 b, .int .i64 c, .int .i64 imm] 54)).alloc (.cells noSt 37)) w.heap.size (w.heap.size + 2) C C s) := Boxed.new3 h _ _ _ _
  have I0 : Hid (InsAt (((w.alloc (.cells C 37)).alloc (.cells #[.int .i64 op, .int .i64 a, .int .i64 b, .int .i64 c, .int .i64 imm] 54)).alloc (.cells noSt 37)) (w.heap.size + 1) op a b c imm) := ins_new3 _ _ _ _ _ _ _ _ _ _ _
  clear h
  go_enter Tryd.func56, Tryd.ntmps56
  go_upto_region 1 with fail
  rw [noSt_def]
  generalize ((w.alloc (.cells C 37)).alloc (.cells #[.int .i64 op, .int .i64 a, .int .i64 b, .int .i64 c, .int .i64 imm] 54)).alloc (.cells noSt 37) = w0 at B0 I0 ⊢
  have xa := (cell_st B0.out).2.1 a ha
  have xb := (cell_st B0.out).2.1 b hb
  have ha' : (a : Int) < 16 := by omega
  have hb' : (b : Int) < 16 := by omega
  obtain ⟨y0, y1, y2, y3, y4⟩ := id I0.out
  go_wp2_with fail
  go_quiet ((go_at_call 68; exact Calls.quiet_of_same (TK.out _)))
  have Bq : Hid (Below w0.heap.size w0 (w0.drewN nq)) := below_drewN (Below.refl _ w0) nq
  have B1 : Hid (Boxed w (w0.drewN nq) w.heap.size (w.heap.size + 2) C C s) := B0.out.later Bq.out
  have I1 : Hid (InsAt (w0.drewN nq) (w.heap.size + 1) op a b c imm) := I0.out.later Bq.out
  clear xa xb y0 y1 y2 y3 y4 B0 I0 Bq
  generalize w0.drewN nq = w1 at B1 I1 ⊢
  obtain ⟨y0, y1, y2, y3, y4⟩ := id I1.out
  go_wp2_with (first
    | (go_at_call 57; refine (lead_st B1.out.st hs _ (by omega)).mono ?_; rintro e w9 ⟨C9, rfl, h9, v9, b9⟩)
    | ((with_reducible show wpList _ _ _ (Oper.mk _ (Op.load _ _) _ _ _ _ :: _) _ _); refine wpList_load_if (by rfl) 37 (.tmp 2) rfl w.heap.size 0 rfl C.toList _ (at_range B1.out.at_) Tryd.underlying37 rfl (st_info B1.out.st).2 ?_)
    | ((with_reducible show wpList _ _ _ (Oper.mk _ (Op.store _ _ _) _ _ _ _ :: _) _ _); refine wpList_store_room (w := w) rfl (.tmp 4) (.tmp 21) rfl (w.heap.size + 2) C9 rfl rfl h9 (there_later B1.out.room b9) ?_))
  have TT := Told.call B1.out b9 h9 v9
  exact bodyPost_ret (v := .agg C9) (results_st rfl _ (w.heap.size + 2) (by first | rfl | simp) TT.st _ TT.at_) rfl TT.post
set_option maxRecDepth 100000 in
theorem branch_no {w : World} {C : Array Value} {s : St} (h : IsSt w (.agg C) s) (hs : 0 ≤ s.at_ ∧ s.at_ ≤ 1073741824) (hr : ∀ j, 0 ≤ s.r j ∧ s.r j < 4294967296) (op : Int) (a b : Nat) (c imm : Int) (ha : a < 16) (hb : b < 16) (hi : -1073741824 ≤ imm ∧ imm ≤ 1073741824)
    (hT : takenB op (s.r a) (s.r b) = false) : Calls Tryd.prog 56 #[.agg C, .agg (#[.int .i64 op, .int .i64 a, .int .i64 b, .int .i64 c, .int .i64 imm])] w (StPost w C { s with at_ := s.at_ + 1 + 0 }) := by
  have TK : Hid (∀ W, Calls Tryd.prog 68 #[.int .i64 op, .int .u32 (s.r a), .int .u32 (s.r b)] W fun e w' => e = .returned (.bool false) ∧ w' = W) := fun W => by have h := taken_any op _ _ W (hr a).1 (hr a).2 (hr b).1 (hr b).2; rwa [hT] at h
  clear hr hT
  have B0 : Hid (Boxed w (((w.alloc (.cells C 37)).alloc (.cells #[.int .i64 op, .int .i64 a, .int .i64 b, .int .i64 c, .int .i64 imm] 54)).alloc (.cells noSt 37)) w.heap.size (w.heap.size + 2) C C s) := Boxed.new3 h _ _ _ _
  have I0 : Hid (InsAt (((w.alloc (.cells C 37)).alloc (.cells #[.int .i64 op, .int .i64 a, .int .i64 b, .int .i64 c, .int .i64 imm] 54)).alloc (.cells noSt 37)) (w.heap.size + 1) op a b c imm) := ins_new3 _ _ _ _ _ _ _ _ _ _ _
  clear h
  go_enter Tryd.func56, Tryd.ntmps56
  go_upto_region 1 with fail
  rw [noSt_def]
  generalize ((w.alloc (.cells C 37)).alloc (.cells #[.int .i64 op, .int .i64 a, .int .i64 b, .int .i64 c, .int .i64 imm] 54)).alloc (.cells noSt 37) = w0 at B0 I0 ⊢
  have xa := (cell_st B0.out).2.1 a ha
  have xb := (cell_st B0.out).2.1 b hb
  have ha' : (a : Int) < 16 := by omega
  have hb' : (b : Int) < 16 := by omega
  obtain ⟨y0, y1, y2, y3, y4⟩ := id I0.out
  go_wp2_with fail
  go_quiet ((go_at_call 68; exact Calls.quiet_of_same (TK.out _)))
  have Bq : Hid (Below w0.heap.size w0 (w0.drewN nq)) := below_drewN (Below.refl _ w0) nq
  have B1 : Hid (Boxed w (w0.drewN nq) w.heap.size (w.heap.size + 2) C C s) := B0.out.later Bq.out
  have I1 : Hid (InsAt (w0.drewN nq) (w.heap.size + 1) op a b c imm) := I0.out.later Bq.out
  clear xa xb y0 y1 y2 y3 y4 B0 I0 Bq
  generalize w0.drewN nq = w1 at B1 I1 ⊢
  obtain ⟨y0, y1, y2, y3, y4⟩ := id I1.out
  go_wp2_with (first
    | (go_at_call 57; refine (lead_st B1.out.st hs _ (by omega)).mono ?_; rintro e w9 ⟨C9, rfl, h9, v9, b9⟩)
    | ((with_reducible show wpList _ _ _ (Oper.mk _ (Op.load _ _) _ _ _ _ :: _) _ _); refine wpList_load_if (by rfl) 37 (.tmp 2) rfl w.heap.size 0 rfl C.toList _ (at_range B1.out.at_) Tryd.underlying37 rfl (st_info B1.out.st).2 ?_)
    | ((with_reducible show wpList _ _ _ (Oper.mk _ (Op.store _ _ _) _ _ _ _ :: _) _ _); refine wpList_store_room (w := w) rfl (.tmp 4) (.tmp 23) rfl (w.heap.size + 2) C9 rfl rfl h9 (there_later B1.out.room b9) ?_))
  have TT := Told.call B1.out b9 h9 v9
  exact bodyPost_ret (v := .agg C9) (results_st rfl _ (w.heap.size + 2) (by first | rfl | simp) TT.st _ TT.at_) rfl TT.post
theorem branch_st {w : World} {C : Array Value} {s : St} (h : IsSt w (.agg C) s) (hs : 0 ≤ s.at_ ∧ s.at_ ≤ 1073741824) (hr : ∀ j, 0 ≤ s.r j ∧ s.r j < 4294967296) (op : Int) (a b : Nat) (c imm : Int) (ha : a < 16) (hb : b < 16) (hi : -1073741824 ≤ imm ∧ imm ≤ 1073741824) :
    Calls Tryd.prog 56 #[.agg C, .agg (#[.int .i64 op, .int .i64 a, .int .i64 b, .int .i64 c, .int .i64 imm])] w (StPost w C { s with at_ := s.at_ + 1 + (if takenB op (s.r a) (s.r b) = true then imm else 0) }) := by
  cases hT : takenB op (s.r a) (s.r b)
  · exact (branch_no h hs hr op a b c imm ha hb hi hT).mono fun e w' hp => hp.eq (by simp)
  · exact (branch_yes h hs hr op a b c imm ha hb hi hT).mono fun e w' hp => hp.eq (by simp)
end Go.Proofs.YtnpejnjigaalfaaDoor
